import PyProof.Rows.All
import Wide.All
import OpenK.AllK
import Wide.FinOn
import HandS.ForMost
import HandS.Walk
import HandS.Style
import HandS.Strs
import HandS.Conv
import HandS.Base
import HandS.Call
import HandS.Words
import HandS.List
import HandS.Lambda
import HandS.Exc
import HandS.ExcOwn
import HandS.WordsExc
import HandS.CallSlots
import HandS.Property
import HandS.ExcInit
import HandS.ExcField
import HandS.TryOnly
import HandS.IsInst
import HandS.TupAny
import HandS.TupMul
import HandS.Text
import HandS.SlotsOwn
import HandS.Iter
import HandS.Comp
import HandS.More
import HandS.Dict
import HandS.Zip
import HandS.ExcIs
import HandS.Deep
import HandS.MakeKwOnly
import HandS.ClsMeth
import HandS.Star
import HandS.IterVal
import HandS.CallLocal
import KE.KOwnIter
import HandS.Wide
import HandS.Zip0
import HandS.Small
import HandS.RaiseMore
import PyProof.ExcBaseAll.ValueError
import KE.KExcIs
import HandS.Defaults
import KE.KDictZip
import PyProof.NeKinds
import PyProof.EqKinds
import PyProof.CollectIter
import PyProof.TupleOfGen
import HandS.ExcValue
import PyProof.WalksMore
import PyProof.Rows.SumAny
import KE.KOpsOwn
import HandS.Codes
import PyProof.ListStr
import HandS.DictComp
import HandS.Ends
import PyProof.ReprRoads
import PyProof.CallFns
import PyProof.StrLawsRepr
import HandS.SortKw
import KE.SortKeyHeap
import HandS.ListItems
import HandS.NoneIn
import HandS.SortInts
import KE.SortData
import HandS.Replace
import HandS.OwnIter
import PySem.Challenge.RW_coveredday_k44_closings_and_day_books
import HandS.MakeKw
set_option Elab.async false
set_option linter.all false
set_option maxRecDepth 100000
set_option maxHeartbeats 0
namespace RS
open PySem PySem.Spec PyProof.Rows L2
/-! ### the unlike texts among some -/
def put (a : List Str) (x : Str) : List Str := if x ∈ a then a else a ++ [x]
def uniq (xs : List Str) : List Str := xs.foldl put []
theorem uniq_snoc (xs : List Str) (x : Str) : uniq (xs ++ [x]) = put (uniq xs) x := by
  unfold uniq
  rw [List.foldl_append]
  rfl
theorem mem_put {a : List Str} {x y : Str} : y ∈ put a x ↔ y ∈ a ∨ y = x := by
  unfold put
  by_cases h : x ∈ a
  · rw [if_pos h]
    refine ⟨.inl, fun z => ?_⟩
    rcases z with z | z
    · exact z
    · rwa [z]
  · rw [if_neg h, List.mem_append, List.mem_singleton]
theorem mem_fold {y : Str} : ∀ (xs a : List Str), y ∈ xs.foldl put a ↔ y ∈ a ∨ y ∈ xs
  | [], a => by simp
  | x :: r, a => by
    rw [List.foldl_cons, mem_fold r, mem_put, List.mem_cons]
    constructor
    · rintro ((h | h) | h)
      · exact .inl h
      · exact .inr (.inl h)
      · exact .inr (.inr h)
    · rintro (h | h | h)
      · exact .inl (.inl h)
      · exact .inl (.inr h)
      · exact .inr h
theorem len_fold : ∀ (xs a : List Str), (xs.foldl put a).length ≤ a.length + xs.length ∧ (xs.Nodup → (∀ x ∈ xs, x ∉ a) → (xs.foldl put a).length = a.length + xs.length) ∧ ((xs.foldl put a).length = a.length + xs.length → xs.Nodup ∧ ∀ x ∈ xs, x ∉ a)
  | [], a => ⟨by simp, fun _ _ => by simp, fun _ => ⟨List.nodup_nil, fun _ h => (nomatch h)⟩⟩
  | x :: r, a => by
    obtain ⟨h1, h2, h3⟩ := len_fold r (put a x)
    rw [List.foldl_cons, List.length_cons]
    by_cases h : x ∈ a
    · have e : put a x = a := if_pos h
      rw [e] at h1 h2 h3 ⊢
      exact ⟨by omega, fun _ n => absurd h (n x List.mem_cons_self), fun q => by omega⟩
    · have e : put a x = a ++ [x] := if_neg h
      have l : (put a x).length = a.length + 1 := by rw [e, List.length_append]; rfl
      rw [l] at h1 h2 h3
      refine ⟨by omega, fun nd n => ?_, fun q => ?_⟩
      · obtain ⟨nx, nr⟩ := List.nodup_cons.mp nd
        have := h2 nr fun y hy => by
          rw [mem_put]
          rintro (z | z)
          · exact n y (List.mem_cons_of_mem _ hy) z
          · exact nx (z ▸ hy)
        omega
      · obtain ⟨nr, nn⟩ := h3 (by omega)
        refine ⟨List.nodup_cons.mpr ⟨fun hx => nn x hx (mem_put.mpr (.inr rfl)), nr⟩, fun y hy => ?_⟩
        rcases List.mem_cons.mp hy with rfl | hy
        · exact h
        · exact fun z => nn y hy (mem_put.mpr (.inl z))
theorem uniq_len (xs : List Str) : (uniq xs).length ≤ xs.length := by
  have := (len_fold xs []).1
  simpa [uniq] using this
theorem uniq_lt (xs : List Str) : (uniq xs).length < xs.length ↔ ¬ xs.Nodup := by
  obtain ⟨h1, h2, h3⟩ := len_fold xs []
  unfold uniq
  simp only [List.length_nil, Nat.zero_add] at h1 h2 h3
  constructor
  · intro h nd
    have := h2 nd (fun _ _ z => (nomatch z))
    omega
  · intro h
    have : (xs.foldl put []).length ≠ xs.length := fun e => h (h3 e).1
    omega
section
variable {prog : Program} {w : World} {A : Around} {R : Result → Shared → Prop} {I S : Addr} {fp wr : List Addr} {G : Array GenState → Array GenState → Prop} {n : Nat} {P : Nat → Value → Prop} {St : Nat → Shared → Prop}
/-- the set at S holds the texts ys -/
def Holds (prog : Program) (w : World) (h : Heap) (S : Addr) (ys : List Str) : Prop := h.SetOf (PySem.strKind prog w) S (fun k => decide (k ∈ ys)) ys.length
theorem Holds.keep {h h' : Heap} {ys : List Str} (q : Holds prog w h S ys) (k : ∀ o, h.get? S = some o → h'.get? S = some o) : Holds prog w h' S ys := by
  obtain ⟨o, es, ep, tb, ho, rest⟩ := q
  exact ⟨o, es, ep, tb, k o ho, rest⟩
theorem Holds.put {h : Heap} {ys : List Str} {x : Str} (q : h.SetOf (PySem.strKind prog w) S (fun k => decide (k ∈ ys) || decide (k = x)) (if decide (x ∈ ys) = true then ys.length else ys.length + 1)) : Holds prog w h S (RS.put ys x) := by
  refine SetOf_congr q (fun k => ?_) ?_
  · rw [Bool.eq_iff_iff]
    simp [mem_put]
  · unfold RS.put
    by_cases hx : x ∈ ys
    · rw [if_pos (decide_eq_true hx), if_pos hx]
    · rw [if_neg (by simpa using hx), if_neg hx, List.length_append]
      rfl
theorem fill (W : WalksS prog w A.in1 I fp wr G n P St) (nS : S ∉ fp) (xs : List Str) (hn : xs.length = n) (few : n + 1 < scanBound) (hv : ∀ i v, P i v → ∃ t, v = .str (xs.getD i Str.empty) t) :
    ∀ (k i : Nat) (s : Shared), i + k = n → St i s → Holds prog w s.heap S (uniq (xs.take i)) → (∀ s', Moved (S :: wr) G s s' → Holds prog w s'.heap S (uniq xs) → R (.ok (.ret .none)) s') →
      codeAny (model prog w) A (.builtin "set.update.loop" ⟨[.ref S, .ref I], []⟩) R s := by
  have nW : S ∉ wr := fun h => nS (W.sub _ h)
  have up : ∀ b ∈ wr, b ∈ S :: wr := fun _ hb => List.mem_cons_of_mem _ hb
  intro k
  induction k with
  | zero =>
    intro i s e st q done
    have ei : i = n := e
    subst ei
    rw [← hn, List.take_length] at q
    refine codeAny_builtin PyProof.Rows.F.entry_set_update_loop (?_ : wpAny _ _ (pyNext (.ref I) >>= _) _ _ s)
    rw [Around.under_plainId PyProof.Rows.F.plain_set_update_loop _]
    exact wpAny_bind (W.done s _ _ st fun s1 m => (wpAny_pure (done s1 (m.mono up) (q.keep fun o ho => m.heap S o nW ho)) : wpAny _ A.in1 (ret Value.none) _ _ s1))
  | succ k ih =>
    intro i s e st q done
    have lt : i < n := by omega
    have lx : i < xs.length := by omega
    refine codeAny_builtin PyProof.Rows.F.entry_set_update_loop (?_ : wpAny _ _ (pyNext (.ref I) >>= _) _ _ s)
    rw [Around.under_plainId PyProof.Rows.F.plain_set_update_loop _]
    refine wpAny_bind (W.item i s _ _ lt st fun v s1 hP st1 m => ?_)
    obtain ⟨t, rfl⟩ := hv i v hP
    have ex : xs.getD i Str.empty = xs[i] := by simp [List.getD, lx]
    rw [ex]
    have q1 : Holds prog w s1.heap S (uniq (xs.take i)) := q.keep fun o ho => m.heap S o nW ho
    refine (?_ : wpAny _ A.in1 (holding [Value.str xs[i] t] (setAdd S (.str xs[i] t)) >>= _) _ _ s1)
    refine wpAny_bind (wpAny_holding ?_)
    unfold setAdd
    refine wpAny_holding (wpAny_bind ((PySem.strKind prog w).pyHash (k := xs[i]) (strKind_is _ _ _ _) ?_))
    have room : (uniq (xs.take i)).length + 1 < scanBound := by
      have := uniq_len (xs.take i)
      rw [List.length_take] at this
      omega
    refine wpAny_setAddHashed_of (knd := PySem.strKind prog w) (s := { s1 with toks := s1.toks + 1 }) (strKind_is _ _ _ _) rfl q1 room fun h2 sb q2 => ?_
    have q3 : Holds prog w h2 S (uniq (xs.take (i + 1))) := by
      rw [List.take_add_one, List.getElem?_eq_getElem lx]
      show Holds prog w h2 S (uniq (xs.take i ++ [xs[i]]))
      rw [uniq_snoc]
      exact Holds.put q2
    refine wpAny_pure ⟨plainId_quiet PyProof.Rows.F.plain_set_update_loop _, ih (i + 1) _ (by omega) (W.frame _ s1 _ _ st1 (Nat.le_succ _) fun b hb o ho => (sb.2 b fun z => nS (z ▸ hb)).trans ho) q3 fun s3 m3 q4 => ?_⟩
    exact done s3 (Moved.trans W.gtrans ((m.mono up).then_heap (Nat.le_succ _) fun b o hb ho => (sb.2 b fun z => hb (z ▸ List.mem_cons_self)).trans ho) m3) q4
end
section
variable {prog : Program} {w : World} {A : Around} {E : Value → Shared → Prop} {s : Shared}
/-- an empty set, just made -/
abbrev newSet (led : Bool) : Obj := { cls := .type "set", dict := none, data := .set #[] 0 (.fresh 0 0 led) }
/-- what set(l) leaves -/
def Left (prog : Program) (w : World) (s : Shared) (xs : List Str) (h : Heap) : Prop := Holds prog w h s.heap.objs.size (uniq xs) ∧ ∀ b o, s.heap.get? b = some o → h.get? b = some o
theorem set_texts {l : Addr} {items : Array Value} {xs : List Str} {Q : Value → Shared → Prop} (calm : A.handled = none) (hl : s.heap.IsTuple l items) (hi : StrsAre items.toList xs) (few : xs.length + 1 < scanBound)
    (done : ∀ (h : Heap) (tk : Nat), Left prog w s xs h → Q (.ref s.heap.objs.size) { s with heap := h, toks := tk }) : wpAny (model prog w) A (call (.type "set") [.ref l]) Q E s := by
  have size : xs.length = items.size := by rw [← StrsAre.len_eq hi, Array.length_toList]
  have lS : l < s.heap.objs.size := by
    obtain ⟨ol, hol, _⟩ := hl
    exact Heap.lt_size hol
  obtain ⟨cm, tm, mroIs⟩ := PySem.F.called_set.mro
  have madeIs := PySem.F.called_set.made
  have subIs := PySem.F.called_set.sub
  refine wpAny_call (codeAny_of_tree (?_ : wpAny _ _ (callAny (.type "set") _) _ _ _))
  refine wpAny_pure ⟨Code.quiet_builtin _ (by decide +kernel), codeAny_builtin PySem.F.entry_type_call ?_⟩
  rw [Around.under_plain (weight_type_call_type "set" [.ref l] []) rfl]
  have noType := PySem.F.called_set.notType
  have may := PySem.F.called_set.canCreate
  have callIs := PySem.F.typeCall_set_1 (.ref l)
  repeat (any_goals (first | assumption | wp_step))
  refine codeAny_mono (code_set_new_1 (.ref l) (E := E) (Q₁ := fun v s1 => ∃ led, v = .ref s.heap.objs.size ∧ s1 = { s with heap := s.heap.push (newSet led) }) fun led => ⟨led, rfl, rfl⟩) fun r s1 hr => ?_
  cases r with
  | error e => exact hr
  | ok fl =>
    cases fl with
    | next => exact hr.elim
    | brk => exact hr.elim
    | cont => exact hr.elim
    | ret v =>
      obtain ⟨led, rfl, rfl⟩ := hr
      have atS : (s.heap.push (newSet led)).get? s.heap.objs.size = some (newSet led) := Heap.get?_push_size _ rfl
      have isS : Shared.TypeIs { s with heap := s.heap.push (newSet led) } (.ref s.heap.objs.size) "set" := ⟨_, atS, rfl⟩
      have lookIs := PySem.F.called_set.init.lookup
      have bindIs := PySem.F.called_set.init.bind (.ref s.heap.objs.size)
      repeat (any_goals (first | assumption | wp_step))
      refine codeAny_mono (codeAny_call_builtin (R := wants (fun r s2 => r = .none ∧ ∃ h tk, s2 = { s with heap := h, toks := tk } ∧ Left prog w s xs h) E) PySem.F.called_set.init.plain PySem.F.entry_set_init (check_set_init_1 isS ?_)) fun r2 s2 hr2 => ?_
      · obtain ⟨⟨oc, od, dt, sl⟩, ho, hc, nl, hd⟩ := hl
        simp only at hc hd
        subst hc
        subst hd
        have atL := Heap.get?_push_of_some (newSet led) ho
        have notS := PySem.F.sub_tuple_set
        have notF := PySem.F.sub_tuple_frozenset
        have notD : (Value.type "tuple" == Value.type "dict") = false := by decide
        have tupL : (s.heap.push (newSet led)).IsTuple l items := ⟨_, atL, rfl, nl, rfl⟩
        have sz : (s.heap.push (newSet led)).objs.size = s.heap.objs.size + 1 := Heap.size_push ..
        unfold Builtin.«set.__init__» noKeywords Builtin.Frozenset.updateFrom
        generalize keep : pyIter = it
        wp_walk
        subst keep
        refine wpAny_pyIter_tuple tupL (wpAny_bind (wpAny_runValue ?_))
        have calm3 : A.in1.in1.in1.handled = none := by simp [calm]
        have neL : l ≠ (s.heap.push (newSet led)).objs.size := by
          rw [sz]
          exact Nat.ne_of_lt (Nat.lt_succ_of_lt lS)
        have neS : s.heap.objs.size ∉ [(s.heap.push (newSet led)).objs.size, l] := by
          rw [sz]
          simp only [List.mem_cons, List.not_mem_nil, or_false, not_or]
          exact ⟨Nat.ne_of_lt (Nat.lt_succ_self _), Nat.ne_of_gt lS⟩
        refine fill ((Walks.tuple calm3 _ l neL items).toS) neS xs size (by omega) (fun i v hv => SS.strs_at hi i v (by rw [Array.getElem?_toList]; exact hv)) items.size 0 _ (Nat.zero_add _) ⟨⟨_, Heap.get?_push_size _ rfl, rfl, rfl⟩, tupL.push _⟩ ?_ ?_
        · have at2 := Heap.get?_push_of_some ({ cls := .type "tuple_iterator", data := .fields #[.ref l, .int 0 0] } : Obj) atS
          exact SetOf_congr ((setObjOf_fresh (knd := PySem.strKind prog w) led).setOf at2 (by unfold scanBound; omega)) (fun k => by rw [List.take_zero]; rfl) (by rw [List.take_zero]; rfl)
        · intro s3 m q
          obtain ⟨h3, g3, d3, tk3, os3⟩ := s3
          obtain rfl : g3 = s.gens := m.gens
          obtain rfl : d3 = s.drawn := m.drawn
          obtain rfl : os3 = s.os := m.os
          show wpAny _ _ _ _ _ _
          refine wpAny_pure ?_
          show wpAny _ _ (ret Value.none) _ _ _
          refine wpAny_pure ⟨rfl, h3, tk3, rfl, q, fun b o e => ?_⟩
          have lb := Heap.lt_size e
          refine m.heap b o ?_ (Heap.get?_push_of_some _ (Heap.get?_push_of_some _ e))
          rw [sz]
          simp only [List.mem_cons, List.not_mem_nil, or_false, not_or]
          exact ⟨Nat.ne_of_lt lb, Nat.ne_of_lt (Nat.lt_succ_of_lt lb)⟩
      · cases r2 with
        | error e => exact hr2
        | ok fl2 =>
          cases fl2 with
          | next => exact hr2.elim
          | brk => exact hr2.elim
          | cont => exact hr2.elim
          | ret r =>
            obtain ⟨rfl, h, tk, rfl, q⟩ := hr2
            repeat (any_goals (first | assumption | wp_step))
            exact done h tk q
end
section
variable {X : Cx} {a : Expr} {ta : TE} {p p2 q pos : Pos}
/-- len(set(t)), t a tuple of texts -/
def tLenSetT (K : PySem.W.Frag) (ta : TE) : TE := fun σ H Q => ta σ H fun x H1 => ∃ (l : Addr) (xs : List Str), x = .ref l ∧ SqT K H1 l (xs.map V.str) ∧ xs.length ≤ 1000 ∧ Q (.int ((uniq xs).length : Nat)) H1
theorem pe_lenSetT (hc : X.calm = true) (hg : Gl X "len") (hm : X.mg "len" = none) (hg2 : Gl X "set") (hm2 : X.mg "set" = none) (ha : PE X a ta)
    (na : starEach [a] X.env = (false, eval a X.env) :: starEach [] X.env := by rfl) : PE X (.Call (.Name "len" p) [.Call (.Name "set" p2) [a] [] q] [] pos) (tLenSetT X.K ta) := by
  refine ⟨fun pins s σ H Q I h => Call_ (ld_blt I hg hm boot_len ?_)⟩
  refine PyProof.Rows.callWith_builtin1 (PyProof.Rows.args_cons (Call_ (ld_blt I hg2 hm2 boot_set ?_)) rfl) rfl rfl
  refine PyProof.Rows.callWith_type1 (PyProof.Rows.args_cons (thn (ha.run pins s σ H _ I h) fun v s1 ⟨x, H1, I1, r1, l, xs, ex, sq, few, q1⟩ => PyProof.Rows.args_nil ?_) na) na rfl
  subst ex
  cases r1
  obtain ⟨its, r, pl, hz⟩ := I1.tuple sq
  refine set_texts (I1.ok.hd hc) pl (by simpa using strsAre_of r) (Nat.lt_of_le_of_lt (Nat.succ_le_succ few) (by decide)) fun h1 tk left => PyProof.Rows.args_nil ?_
  obtain ⟨⟨o, es, ep, t, ho, exact', hd, _, _, _, fits, hn⟩, k⟩ := left
  have I2 : Inv X pins σ H1 { s1 with heap := h1, toks := tk } := I1.kept k
  have small : (uniq xs).length ≤ 1000 := Nat.le_trans (uniq_len xs) few
  exact call_len_set ho exact' hd fits (by rw [hn]; omega) ⟨.int ((uniq xs).length : Nat), H1, I2.tok _, ⟨_, by rw [hn]⟩, q1⟩
end
end RS

set_option Elab.async false
set_option linter.all false
set_option maxRecDepth 100000
/-! data in place of heaps: what a value stands for, and the state of a def's body by data alone -/
namespace DL
open PySem PySem.Spec PyProof.Rows L2
inductive D where
  | non | bl (b : Bool) | int (i : Int) | str (x : Str) | ty (n : String) | adr (a : Addr)
  | lst (xs : List D) | ro (xs : List D) | tup (xs : List D) | rot (xs : List D) | obj (C : Addr) (fs : List (Str × D)) | dT (kvs : List (List Key × D)) | dK (kvs : List (Key × D))
  | exc (a : Addr) (cls : Value) (dd : Option Addr) (C : Addr) (fs : Option (List (Str × D))) | gho (vs : List V) (ds : List D)
  /-- a dict that nothing may write while a statement runs -/
  | lkd (p : Addr) (od : Obj) (vs : List (Key × V)) (kvs : List (Key × D))
  /-- a tuple of the module, or one that is read alone -/
  | ktp (xs : List D)
mutual
/-- the value v stands for the data d, in the part F of the heap that never changes -/
inductive Rep (K : PySem.W.Frag) (F : Hp) : V → D → Prop
  | non : Rep K F .non .non
  | bl (b : Bool) : Rep K F (.bl b) (.bl b)
  | int (i : Int) : Rep K F (.int i) (.int i)
  | str {x : Str} (k : PyData.strOk x = true) : Rep K F (.str x) (.str x)
  | ty (n : String) : Rep K F (.ty n) (.ty n)
  | adr (a : Addr) : Rep K F (.ref a) (.adr a)
  | lst {p : Addr} {vs : List V} {ds : List D} (s : F p = some (.lst vs)) (h : RepL K F vs ds) : Rep K F (.ref p) (.lst ds)
  | ro {p : Addr} {vs : List V} {ds : List D} (s : SqL K F p vs) (h : RepL K F vs ds) : Rep K F (.ref p) (.ro ds)
  | tup {p : Addr} {vs : List V} {ds : List D} (s : F p = some (.tup vs)) (h : RepL K F vs ds) : Rep K F (.ref p) (.tup ds)
  /-- a tuple whose whole object is known: it has no dict -/
  | rot {p : Addr} {vs : List V} {ds : List D} {ob : Obj} (s : F p = some (.frz ob (.tup vs))) (hc : ob.cls = .type "tuple") (hd : ob.dict = none) (h : RepL K F vs ds) : Rep K F (.ref p) (.rot ds)
  | obj {p C dx : Addr} {vs : List (Str × V)} {fs : List (Str × D)} (s : F p = some (.ins C dx vs)) (h : RepF K F vs fs) : Rep K F (.ref p) (.obj C fs)
  | dT {p : Addr} {vs : List (List Key × V)} {ds : List (List Key × D)} (s : Rd F p (.dT vs)) (h : RepT K F vs ds) : Rep K F (.ref p) (.dT ds)
  | dK {p : Addr} {vs : List (Key × V)} {ds : List (Key × D)} (s : Rd F p (.dK vs)) (h : RepK K F vs ds) : Rep K F (.ref p) (.dK ds)
  | exc0 {a C : Addr} : Rep K F (.ref a) (.exc a (.ref C) none C none)
  | exc {a C dd : Addr} {vs : List (Str × V)} {fs : List (Str × D)} (s : F dd = some (.xd vs)) (h : RepF K F vs fs) : Rep K F (.ref a) (.exc a (.ref C) (some dd) C (some fs))
  /-- several values that are walked together -/
  | gho {vs : List V} {ds : List D} (h : RepL K F vs ds) : Rep K F (.int 0) (.gho vs ds)
  | lkd {p : Addr} {od : Obj} {vs : List (Key × V)} {ds : List (Key × D)} (s : F p = some (.frz od (.dK vs))) (h : RepK K F vs ds) : Rep K F (.ref p) (.lkd p od vs ds)
  | ktp {p : Addr} {vs : List V} {ds : List D} (s : SqT K F p vs) (h : RepL K F vs ds) : Rep K F (.ref p) (.ktp ds)
inductive RepL (K : PySem.W.Frag) (F : Hp) : List V → List D → Prop
  | nil : RepL K F [] []
  | cons {v : V} {d : D} {vs : List V} {ds : List D} (h : Rep K F v d) (t : RepL K F vs ds) : RepL K F (v :: vs) (d :: ds)
inductive RepF (K : PySem.W.Frag) (F : Hp) : List (Str × V) → List (Str × D) → Prop
  | nil : RepF K F [] []
  | cons {n : Str} {v : V} {d : D} {vs : List (Str × V)} {ds : List (Str × D)} (h : Rep K F v d) (t : RepF K F vs ds) : RepF K F ((n, v) :: vs) ((n, d) :: ds)
inductive RepT (K : PySem.W.Frag) (F : Hp) : List (List Key × V) → List (List Key × D) → Prop
  | nil : RepT K F [] []
  | cons {n : List Key} {v : V} {d : D} {vs : List (List Key × V)} {ds : List (List Key × D)} (h : Rep K F v d) (t : RepT K F vs ds) : RepT K F ((n, v) :: vs) ((n, d) :: ds)
inductive RepK (K : PySem.W.Frag) (F : Hp) : List (Key × V) → List (Key × D) → Prop
  | nil : RepK K F [] []
  | cons {n : Key} {v : V} {d : D} {vs : List (Key × V)} {ds : List (Key × D)} (h : Rep K F v d) (t : RepK K F vs ds) : RepK K F ((n, v) :: vs) ((n, d) :: ds)
end
theorem sqt_mono {K : PySem.W.Frag} {F F' : Hp} {a : Addr} {xs : List V} (e : Same F F') (h : SqT K F a xs) : SqT K F' a xs := by
  rcases h with (h | ⟨o, h⟩) | h
  · exact .inl (.inl (e _ _ h))
  · exact .inl (.inr ⟨o, e _ _ h⟩)
  · exact .inr h
theorem rd_mono {F F' : Hp} {a : Addr} {u : HO} (e : Same F F') (h : Rd F a u) : Rd F' a u := by
  rcases h with h | ⟨o, h⟩
  · exact .inl (e _ _ h)
  · exact .inr ⟨o, e _ _ h⟩
section
variable {K : PySem.W.Frag} {F F' : Hp}
mutual
theorem Rep.mono (e : Same F F') : ∀ {v : V} {d : D}, Rep K F v d → Rep K F' v d
  | _, _, .non => .non
  | _, _, .bl b => .bl b
  | _, _, .int i => .int i
  | _, _, .str k => .str k
  | _, _, .ty n => .ty n
  | _, _, .adr a => .adr a
  | _, _, .lst s h => .lst (e _ _ s) (h.mono e)
  | _, _, .ro s h => .ro (e.seq s) (h.mono e)
  | _, _, .tup s h => .tup (e _ _ s) (h.mono e)
  | _, _, .rot s hc hd h => .rot (e _ _ s) hc hd (h.mono e)
  | _, _, .obj s h => .obj (e _ _ s) (h.mono e)
  | _, _, .dT s h => .dT (rd_mono e s) (h.mono e)
  | _, _, .dK s h => .dK (rd_mono e s) (h.mono e)
  | _, _, .exc0 => .exc0
  | _, _, .exc s h => .exc (e _ _ s) (h.mono e)
  | _, _, .gho h => .gho (h.mono e)
  | _, _, .lkd s h => .lkd (e _ _ s) (h.mono e)
  | _, _, .ktp s h => .ktp (sqt_mono e s) (h.mono e)
theorem RepL.mono (e : Same F F') : ∀ {vs : List V} {ds : List D}, RepL K F vs ds → RepL K F' vs ds
  | _, _, .nil => .nil
  | _, _, .cons h t => .cons (h.mono e) (t.mono e)
theorem RepF.mono (e : Same F F') : ∀ {vs : List (Str × V)} {ds : List (Str × D)}, RepF K F vs ds → RepF K F' vs ds
  | _, _, .nil => .nil
  | _, _, .cons h t => .cons (h.mono e) (t.mono e)
theorem RepT.mono (e : Same F F') : ∀ {vs : List (List Key × V)} {ds : List (List Key × D)}, RepT K F vs ds → RepT K F' vs ds
  | _, _, .nil => .nil
  | _, _, .cons h t => .cons (h.mono e) (t.mono e)
theorem RepK.mono (e : Same F F') : ∀ {vs : List (Key × V)} {ds : List (Key × D)}, RepK K F vs ds → RepK K F' vs ds
  | _, _, .nil => .nil
  | _, _, .cons h t => .cons (h.mono e) (t.mono e)
end
end
end DL

set_option Elab.async false
set_option linter.all false
set_option maxRecDepth 100000
namespace DL
open PySem PySem.Spec PyProof.Rows L2
/-- what a changing object holds -/
inductive OC where
  | lst (ds : List D) | ins (C : Addr) (fs : List (Str × D)) | dT (kvs : List (List Key × D)) | dK (kvs : List (Key × D))
  /-- the table of a code object, whose code objects all bear the name q -/
  | tab (P : Addr) (q : Str)
def OC.toD : OC → D
  | .lst ds => .lst ds
  | .ins C fs => .obj C fs
  | .dT kvs => .dT kvs
  | .dK kvs => .dK kvs
  | .tab P _ => .adr P
/-- a value: data that never changes, or an object of the body's own that may change -/
inductive DV where
  | d (x : D) | own (o : OC)
def DV.toD : DV → D
  | .d x => x
  | .own o => o.toD
abbrev DSt := List (Option DV)
inductive Hold where
  | s (i : Nat) | t (n : Nat)
  deriving DecidableEq
/-- the frame: the slots of the arguments that may change, their addresses, the heaps at the entry -/
structure Fc where
  sl : List Nat
  ad : List Addr
  F0 : Hp
  H0 : Hp
def OwnRep (K : PySem.W.Frag) (F H : Hp) (p : Addr) : OC → Prop
  | .lst ds => ∃ vs, H p = some (.lst vs) ∧ RepL K F vs ds
  | .ins C fs => ∃ dx vs, H p = some (.ins C dx vs) ∧ RepF K F vs fs
  | .dT kvs => ∃ vs, H p = some (.dT vs) ∧ RepT K F vs kvs
  | .dK kvs => ∃ vs, H p = some (.dK vs) ∧ RepK K F vs kvs
  | .tab P q => P = p ∧ ∃ ps : Array Value, H p = some (.tbl ps) ∧ TriplesOk ps.toList ∧ ∀ (pos : Pos) (cv : Value), codeAmong pos ps.toList = some cv → ∃ c, cv = .ref c ∧ F c = some (LamX.CodeO c q)
/-- an address of the body's own: made since the entry, or an argument's -/
def NewAt (c : Fc) (h : Hold) (p : Addr) : Prop := c.H0 p = none ∨ (p ∈ c.ad ∧ ∃ i, h = .s i ∧ i ∈ c.sl)
def RepV (K : PySem.W.Frag) (c : Fc) (F H : Hp) (ow : Addr → Option Hold) (h : Hold) (v : V) : DV → Prop
  | .d x => Rep K F v x
  | .own o => ∃ p, v = .ref p ∧ ow p = some h ∧ F p = none ∧ NewAt c h p ∧ OwnRep K F H p o
def RepTmp (K : PySem.W.Frag) (c : Fc) (F H : Hp) (ow : Addr → Option Hold) : List (V × DV) → Prop
  | [] => True
  | (v, x) :: r => RepV K c F H ow (.t r.length) v x ∧ RepTmp K c F H ow r
structure SttF (K : PySem.W.Frag) (c : Fc) (F : Hp) (ow : Addr → Option Hold) (δ : DSt) (tmp : List (V × DV)) (σ : L2.St) (H : Hp) : Prop where
  fh : Same F H
  f0 : Same c.F0 F
  fn : ∀ a, F a ≠ none → c.F0 a ≠ none ∨ c.H0 a = none
  fr : ∀ a o, c.H0 a = some o → a ∉ c.ad → H a = some o
  up : ∀ a, H a = none → c.H0 a = none
  len : σ.length = δ.length
  sl : ∀ (i : Nat) (x : DV), δ[i]? = some (some x) → ∃ v, σ[i]? = some (some v) ∧ RepV K c F H ow (.s i) v x
  tm : RepTmp K c F H ow tmp
  ps : ∀ (k i : Nat) (p : Addr), c.sl[k]? = some i → c.ad[k]? = some p → σ[i]? = some (some (.ref p))
def Stt (K : PySem.W.Frag) (c : Fc) (δ : DSt) (tmp : List (V × DV)) (σ : L2.St) (H : Hp) : Prop := ∃ F ow, SttF K c F ow δ tmp σ H
/-- an operation that makes new objects alone -/
structure Ext (F H F' H' : Hp) : Prop where
  f : Same F F'
  h : Same H H'
  fh : Same F' H'
  nw : ∀ a, F' a ≠ none → F a ≠ none ∨ H a = none
theorem Ext.refl {F H : Hp} (s : Same F H) : Ext F H F H := ⟨Same.refl _, Same.refl _, s, fun _ h => .inl h⟩
theorem Ext.trans {F H F1 H1 F2 H2 : Hp} (a : Ext F H F1 H1) (b : Ext F1 H1 F2 H2) : Ext F H F2 H2 :=
  ⟨a.f.trans b.f, a.h.trans b.h, b.fh, fun x q => (b.nw x q).elim (a.nw x) fun z => .inr (a.h.free z)⟩
theorem same_upd {H H' : Hp} {p : Addr} {o : HO} (s : Same H H') (n : H' p = none) : Same H (upd H' p o) := fun b u e => by
  rw [upd_ne (ne_of_none (s _ _ e) n)]
  exact s _ _ e
theorem same_upd2 {F H : Hp} {p : Addr} {o : HO} (s : Same F H) : Same (upd F p o) (upd H p o) := fun b u e => by
  by_cases q : b = p
  · subst q
    rw [upd_same] at e ⊢
    exact e
  · rw [upd_ne q] at e ⊢
    exact s _ _ e
theorem same_upd1 {F H : Hp} {p : Addr} {o : HO} (s : Same F H) (e : H p = some o) : Same (upd F p o) H := fun b u q => by
  by_cases z : b = p
  · subst z
    rw [upd_same] at q
    rw [e]
    exact q
  · rw [upd_ne z] at q
    exact s _ _ q
/-- a new object, frozen at once -/
theorem Ext.new {F H : Hp} {p : Addr} {o : HO} (s : Same F H) (n : H p = none) : Ext F H (upd F p o) (upd H p o) :=
  ⟨same_upd (Same.refl F) (s.free n), same_upd (Same.refl H) n, same_upd2 s, fun a q => by
    by_cases z : a = p
    · subst z
      exact .inr n
    · rw [upd_ne z] at q
      exact .inl q⟩
/-- a new object, not frozen -/
theorem Ext.newH {F H : Hp} {p : Addr} {o : HO} (s : Same F H) (n : H p = none) : Ext F H F (upd H p o) :=
  ⟨Same.refl F, same_upd (Same.refl H) n, same_upd s n, fun _ q => .inl q⟩
section
variable {K : PySem.W.Frag} {c : Fc} {F F' H H' : Hp} {ow ow' : Addr → Option Hold} {δ : DSt} {tmp : List (V × DV)} {σ : L2.St} {v : V} {x : DV} {d : D} {o : OC} {h : Hold} {p : Addr} {i : Nat}
theorem OwnRep.has (q : OwnRep K F H p o) : H p ≠ none := by
  cases o with
  | lst ds => obtain ⟨vs, e, _⟩ := q; rw [e]; exact fun z => nomatch z
  | ins C fs => obtain ⟨dx, vs, e, _⟩ := q; rw [e]; exact fun z => nomatch z
  | dT kvs => obtain ⟨vs, e, _⟩ := q; rw [e]; exact fun z => nomatch z
  | dK kvs => obtain ⟨vs, e, _⟩ := q; rw [e]; exact fun z => nomatch z
  | tab P r => obtain ⟨_, vs, e, _⟩ := q; rw [e]; exact fun z => nomatch z
theorem OwnRep.mono (q : OwnRep K F H p o) (f : Same F F') (e : H' p = H p) : OwnRep K F' H' p o := by
  cases o with
  | lst ds => obtain ⟨vs, z, r⟩ := q; exact ⟨vs, e.trans z, r.mono f⟩
  | ins C fs => obtain ⟨dx, vs, z, r⟩ := q; exact ⟨dx, vs, e.trans z, r.mono f⟩
  | dT kvs => obtain ⟨vs, z, r⟩ := q; exact ⟨vs, e.trans z, r.mono f⟩
  | dK kvs => obtain ⟨vs, z, r⟩ := q; exact ⟨vs, e.trans z, r.mono f⟩
  | tab P r => obtain ⟨a, vs, z, t, h⟩ := q; exact ⟨a, vs, e.trans z, t, fun pos cv k => let ⟨c, e1, e2⟩ := h pos cv k; ⟨c, e1, f _ _ e2⟩⟩
theorem Same.at {p : Addr} (s : Same H H') (n : H p ≠ none) : H' p = H p := by
  cases q : H p with
  | none => exact absurd q n
  | some u => exact s _ _ q
theorem RepV.ext (q : RepV K c F H ow h v x) (e : Ext F H F' H') : RepV K c F' H' ow h v x := by
  cases x with
  | d y => exact Rep.mono e.f q
  | own o =>
    obtain ⟨p, rfl, a, n, w, r⟩ := q
    refine ⟨p, rfl, a, ?_, w, r.mono e.f (Same.at e.h r.has)⟩
    cases z : F' p with
    | none => rfl
    | some u =>
      rcases e.nw p (by rw [z]; exact fun q => nomatch q) with y | y
      · exact absurd n y
      · exact absurd y r.has
theorem RepTmp.ext (e : Ext F H F' H') : ∀ {tmp : List (V × DV)}, RepTmp K c F H ow tmp → RepTmp K c F' H' ow tmp
  | [], _ => True.intro
  | (_, _) :: _, q => ⟨q.1.ext e, RepTmp.ext e q.2⟩
theorem SttF.ext (S : SttF K c F ow δ tmp σ H) (e : Ext F H F' H') : SttF K c F' ow δ tmp σ H' :=
  ⟨e.fh, S.f0.trans e.f, fun a q => (e.nw a q).elim (S.fn a) fun z => .inr (S.up a z), fun a o q n => e.h _ _ (S.fr a o q n), fun a q => S.up a (e.h.free q), S.len,
    fun i x q => let ⟨v, e1, e2⟩ := S.sl i x q; ⟨v, e1, e2.ext e⟩, RepTmp.ext e S.tm, S.ps⟩
theorem SttF.push (S : SttF K c F ow δ tmp σ H) (r : Rep K F v d) : SttF K c F ow δ ((v, .d d) :: tmp) σ H := { S with tm := ⟨r, S.tm⟩ }
theorem SttF.pop (S : SttF K c F ow δ ((v, x) :: tmp) σ H) : SttF K c F ow δ tmp σ H := { S with tm := S.tm.2 }
theorem SttF.top (S : SttF K c F ow δ ((v, .d d) :: tmp) σ H) : Rep K F v d := S.tm.1
/-- the holder of one address changes -/
def owSet (ow : Addr → Option Hold) (p : Addr) (h : Hold) : Addr → Option Hold := fun a => if a = p then some h else ow a
theorem RepV.reown (q : RepV K c F H ow h v x) (n : ∀ p, v = .ref p → ow p = some h → H p ≠ none → ow' p = ow p) : RepV K c F H ow' h v x := by
  cases x with
  | d y => exact q
  | own o =>
    obtain ⟨p, rfl, a, b, w, r⟩ := q
    exact ⟨p, rfl, (n p rfl a r.has).trans a, b, w, r⟩
theorem RepTmp.reown (n : ∀ (k : Nat) p, k < tmp.length → ow p = some (.t k) → H p ≠ none → ow' p = ow p) (q : RepTmp K c F H ow tmp) : RepTmp K c F H ow' tmp := by
  induction tmp with
  | nil => exact True.intro
  | cons a r ih =>
    obtain ⟨v, x⟩ := a
    exact ⟨q.1.reown fun p _ e z => n _ p (Nat.lt_succ_self _) e z, ih (fun k p hk e z => n k p (Nat.lt_succ_of_lt hk) e z) q.2⟩
theorem owSet_ne {p a : Addr} (n : a ≠ p) : owSet ow p h a = ow a := if_neg n
theorem owSet_at {p : Addr} : owSet ow p h p = some h := if_pos rfl
theorem SttF.reown (S : SttF K c F ow δ tmp σ H) (ns : ∀ (k : Nat) p, ow p = some (.s k) → H p ≠ none → ow' p = ow p) (nt : ∀ (k : Nat) p, k < tmp.length → ow p = some (.t k) → H p ≠ none → ow' p = ow p) : SttF K c F ow' δ tmp σ H :=
  { S with sl := fun i x q => let ⟨v, e1, e2⟩ := S.sl i x q; ⟨v, e1, e2.reown fun p _ e z => ns i p e z⟩, tm := RepTmp.reown nt S.tm }
/-- a new object of the body's own -/
theorem SttF.pushNew {ob : HO} (S : SttF K c F ow δ tmp σ H) (n : H p = none) (r : OwnRep K F (upd H p ob) p o) : SttF K c F (owSet ow p (.t tmp.length)) δ ((.ref p, .own o) :: tmp) σ (upd H p ob) := by
  have S1 := S.reown (ow' := owSet ow p (.t tmp.length)) (fun k a _ z => owSet_ne fun e => z (by rw [e]; exact n)) (fun k a _ _ z => owSet_ne fun e => z (by rw [e]; exact n))
  have S2 := S1.ext (Ext.newH (o := ob) S.fh n)
  refine { S2 with tm := ⟨⟨p, rfl, owSet_at, ?_, .inl (S.up _ n), r⟩, S2.tm⟩ }
  cases q : F p with
  | none => rfl
  | some u => rw [S.fh _ _ q] at n; cases n
/-- what is on top of the stack will change no more -/
theorem OwnRep.freeze (q : OwnRep K F H p o) (n : F p = none) (s : Same F H) : ∃ u : HO, H p = Option.some u ∧ Rep K (upd F p u) (.ref p) o.toD := by
  cases o with
  | lst ds => obtain ⟨vs, e, r⟩ := q; exact ⟨_, e, .lst upd_same (r.mono (same_upd (Same.refl F) n))⟩
  | ins C fs => obtain ⟨dx, vs, e, r⟩ := q; exact ⟨_, e, .obj upd_same (r.mono (same_upd (Same.refl F) n))⟩
  | dT kvs => obtain ⟨vs, e, r⟩ := q; exact ⟨_, e, .dT (.inl upd_same) (r.mono (same_upd (Same.refl F) n))⟩
  | dK kvs => obtain ⟨vs, e, r⟩ := q; exact ⟨_, e, .dK (.inl upd_same) (r.mono (same_upd (Same.refl F) n))⟩
  | tab P r => obtain ⟨a, vs, e, _⟩ := q; subst a; exact ⟨_, e, .adr _⟩
/-- the frozen part grows by an object that one holder has: all other holders keep theirs -/
theorem RepV.frz {u : HO} (q : RepV K c F H ow h v x) (n : F p = none) (ne : ∀ a, v = .ref a → ow a = some h → a ≠ p) : RepV K c (upd F p u) H ow h v x := by
  have s : Same F (upd F p u) := same_upd (Same.refl F) n
  cases x with
  | d y => exact Rep.mono s q
  | own o =>
    obtain ⟨a, rfl, e, b, w, r⟩ := q
    exact ⟨a, rfl, e, by rw [upd_ne (ne a rfl e)]; exact b, w, r.mono s rfl⟩
theorem RepTmp.frz {u : HO} (n : F p = none) (ne : ∀ (k : Nat) a, k < tmp.length → ow a = some (.t k) → a ≠ p) (q : RepTmp K c F H ow tmp) : RepTmp K c (upd F p u) H ow tmp := by
  induction tmp with
  | nil => exact True.intro
  | cons a r ih =>
    obtain ⟨v, x⟩ := a
    exact ⟨q.1.frz n fun a _ e => ne _ a (Nat.lt_succ_self _) e, ih (fun k a hk e => ne k a (Nat.lt_succ_of_lt hk) e) q.2⟩
/-- any holder's own object is frozen (no argument's) -/
theorem SttF.freezeAt {u : HO} (S : SttF K c F ow δ tmp σ H) (e : H p = some u) (n : F p = none) (w : c.H0 p = none) (ns : ∀ (k : Nat) x, δ[k]? = some (some x) → ow p ≠ some (.s k)) (nt : ∀ (k : Nat), k < tmp.length → ow p ≠ some (.t k)) : SttF K c (upd F p u) ow δ tmp σ H where
  fh := same_upd1 S.fh e
  f0 := S.f0.trans (same_upd (Same.refl F) n)
  fn := fun a q => by
    by_cases z : a = p
    · subst z; exact .inr w
    · rw [upd_ne z] at q; exact S.fn a q
  fr := S.fr
  up := S.up
  len := S.len
  sl := fun i x q => let ⟨v, e1, e2⟩ := S.sl i x q; ⟨v, e1, e2.frz n fun a _ z y => by subst y; exact ns i x q z⟩
  tm := RepTmp.frz n (fun k a hk z y => by subst y; exact nt k hk z) S.tm
  ps := S.ps
theorem NewAt.t {k : Nat} (w : NewAt c (.t k) p) : c.H0 p = none := by
  rcases w with w | ⟨_, i, e, _⟩
  · exact w
  · cases e
theorem SttF.top_frz (S : SttF K c F ow δ ((v, x) :: tmp) σ H) : ∃ F', SttF K c F' ow δ ((v, .d x.toD) :: tmp) σ H ∧ Same F F' := by
  cases x with
  | d y => exact ⟨F, S, Same.refl F⟩
  | own o =>
    obtain ⟨p, rfl, e, b, w, r⟩ := S.tm.1
    obtain ⟨u, eu, r'⟩ := r.freeze b S.fh
    have S1 := S.pop.freezeAt eu b w.t (fun k x _ z => by rw [e] at z; cases z) (fun k hk z => by rw [e] at z; cases z; exact absurd hk (Nat.lt_irrefl _))
    exact ⟨upd F p u, S1.push r', same_upd (Same.refl F) b⟩
/-- the two on top -/
theorem SttF.top_frz2 {w : V} {y : DV} (S : SttF K c F ow δ ((v, x) :: (w, y) :: tmp) σ H) : ∃ F', SttF K c F' ow δ ((v, .d x.toD) :: (w, .d y.toD) :: tmp) σ H ∧ Same F F' := by
  obtain ⟨F1, S1, s1⟩ := S.top_frz
  obtain ⟨F2, S2, s2⟩ := S1.pop.top_frz
  exact ⟨F2, S2.push (S1.top.mono s2), s1.trans s2⟩
/-- a name is bound to what is on top -/
theorem SttF.set (S : SttF K c F ow δ ((v, x) :: tmp) σ H) (hi : i < δ.length) (ni : i ∉ c.sl) : ∃ ow', SttF K c F ow' (δ.set i (some x)) tmp (σ.set i (some v)) H := by
  have hs : i < σ.length := by rw [S.len]; exact hi
  have ps' : ∀ (k j : Nat) (p : Addr), c.sl[k]? = some j → c.ad[k]? = some p → (σ.set i (some v))[j]? = some (some (.ref p)) := fun k j p q1 q2 => by
    rw [List.getElem?_set_ne (fun z => ni (by rw [z]; exact List.mem_of_getElem? q1))]
    exact S.ps k j p q1 q2
  cases x with
  | d y =>
    refine ⟨ow, { S.pop with len := by rw [List.length_set, List.length_set]; exact S.len, sl := fun j z q => ?_, ps := ps' }⟩
    by_cases e : i = j
    · subst e
      rw [List.getElem?_set_self hi] at q
      cases q
      exact ⟨v, List.getElem?_set_self hs, S.top⟩
    · rw [List.getElem?_set_ne e] at q ⊢
      exact S.sl j z q
  | own o =>
    obtain ⟨p, rfl, e, b, w, r⟩ := S.tm.1
    have S1 := S.pop.reown (ow' := owSet ow p (.s i)) (fun k a z _ => owSet_ne fun y => by subst y; rw [e] at z; cases z) (fun k a hk z _ => owSet_ne fun y => by subst y; rw [e] at z; cases z; exact absurd hk (Nat.lt_irrefl _))
    refine ⟨owSet ow p (.s i), { S1 with len := by rw [List.length_set, List.length_set]; exact S.len, sl := fun j z q => ?_, ps := ps' }⟩
    by_cases e' : i = j
    · subst e'
      rw [List.getElem?_set_self hi] at q
      cases q
      exact ⟨.ref p, List.getElem?_set_self hs, p, rfl, owSet_at, b, .inl w.t, r⟩
    · rw [List.getElem?_set_ne e'] at q ⊢
      exact S1.sl j z q
/-- a slot is forgotten -/
theorem SttF.unset (S : SttF K c F ow δ tmp σ H) : SttF K c F ow (δ.set i none) tmp σ H := by
  refine { S with len := by rw [List.length_set]; exact S.len, sl := fun j z q => ?_ }
  by_cases e : i = j
  · subst e
    rcases Nat.lt_or_ge i δ.length with h | h
    · rw [List.getElem?_set_self h] at q; cases q
    · rw [List.getElem?_eq_none (by rw [List.length_set]; exact h)] at q; cases q
  · rw [List.getElem?_set_ne e] at q
    exact S.sl j z q
theorem set_lt {α : Type} {l : List α} {i : Nat} {x : α} (h : l[i]? = some x) : i < l.length := (List.getElem?_eq_some_iff.mp h).1
/-- the value at a slot, frozen, is read -/
theorem SttF.slot_frz (S : SttF K c F ow δ tmp σ H) (q : δ[i]? = some (some x)) (ni : i ∉ c.sl) : ∃ v F', σ[i]? = some (some v) ∧ SttF K c F' ow (δ.set i (some (.d x.toD))) ((v, .d x.toD) :: tmp) σ H := by
  obtain ⟨v, e1, r⟩ := S.sl i x q
  have hi := set_lt q
  cases x with
  | d y =>
    refine ⟨v, F, e1, { S with len := by rw [List.length_set]; exact S.len, tm := ⟨r, S.tm⟩, sl := fun j z qz => ?_ }⟩
    by_cases e : i = j
    · subst e
      rw [List.getElem?_set_self hi] at qz
      cases qz
      exact ⟨v, e1, r⟩
    · rw [List.getElem?_set_ne e] at qz
      exact S.sl j z qz
  | own o =>
    obtain ⟨p, rfl, e, b, w, r⟩ := r
    have w' : c.H0 p = none := by
      rcases w with w | ⟨_, j, e, hj⟩
      · exact w
      · cases e; exact absurd hj ni
    obtain ⟨u, eu, r'⟩ := r.freeze b S.fh
    have S1 := (S.unset (i := i)).freezeAt eu b w' (fun k x qx z => by
      rw [e] at z; cases z
      rw [List.getElem?_set_self hi] at qx; cases qx) (fun k hk z => by rw [e] at z; cases z)
    refine ⟨.ref p, upd F p u, e1, { S1 with len := by rw [List.length_set]; exact S.len, tm := ⟨r', S1.tm⟩, sl := fun j z qz => ?_ }⟩
    by_cases e' : i = j
    · subst e'
      rw [List.getElem?_set_self hi] at qz
      cases qz
      exact ⟨.ref p, e1, r'⟩
    · rw [List.getElem?_set_ne e'] at qz
      exact S1.sl j z (by rw [List.getElem?_set_ne e']; exact qz)
/-- an own object is changed -/
theorem SttF.write {o o' : OC} {ob : HO} (S : SttF K c F ow δ tmp σ H) (q : δ[i]? = some (some (.own o))) (ep : σ[i]? = some (some (.ref p))) (r' : OwnRep K F (upd H p ob) p o') : SttF K c F ow (δ.set i (some (.own o'))) tmp σ (upd H p ob) := by
  obtain ⟨v, e1, p', rfl, e, b, w, r⟩ := S.sl i _ q
  rw [ep] at e1
  cases e1
  have hi := set_lt q
  have keep : ∀ {h : Hold} {v : V} {x : DV}, RepV K c F H ow h v x → h ≠ .s i → RepV K c F (upd H p ob) ow h v x := fun {h v x} y ne => by
    cases x with
    | d z => exact y
    | own z =>
      obtain ⟨a, rfl, ea, ba, wa, ra⟩ := y
      exact ⟨a, rfl, ea, ba, wa, ra.mono (Same.refl F) (upd_ne fun t => by subst t; rw [e] at ea; cases ea; exact ne rfl)⟩
  have keepT : ∀ {tmp : List (V × DV)}, RepTmp K c F H ow tmp → RepTmp K c F (upd H p ob) ow tmp := fun {tmp} => by
    induction tmp with
    | nil => exact fun _ => True.intro
    | cons a r ih =>
      obtain ⟨v, x⟩ := a
      exact fun y => ⟨keep y.1 (fun z => nomatch z), ih y.2⟩
  refine ⟨?_, S.f0, S.fn, fun a u z n => ?_, fun a z => ?_, by rw [List.length_set]; exact S.len, fun j z qz => ?_, keepT S.tm, S.ps⟩
  · exact fun a u z => by
      rw [upd_ne (ne_of_none z b)]
      exact S.fh _ _ z
  · rw [upd_ne (fun t => ?_)]
    · exact S.fr a u z n
    · subst t
      rcases w with w | ⟨w, _⟩
      · rw [w] at z; cases z
      · exact n w
  · by_cases t : a = p
    · subst t; rw [upd_same] at z; cases z
    · rw [upd_ne t] at z; exact S.up a z
  · by_cases e' : i = j
    · subst e'
      rw [List.getElem?_set_self hi] at qz
      cases qz
      exact ⟨.ref p, ep, p, rfl, e, b, w, r'⟩
    · rw [List.getElem?_set_ne e'] at qz
      obtain ⟨v, e2, r2⟩ := S.sl j z qz
      exact ⟨v, e2, keep r2 fun t => e' (by cases t; rfl)⟩
end
end DL

set_option Elab.async false
set_option linter.all false
set_option maxRecDepth 100000
namespace DL
open PySem PySem.Spec PyProof.Rows L2
/-- an exception: its class, its fields -/
structure Ex where
  C : Addr
  fs : Option (List (Str × D))
abbrev DK := DV → DSt → Prop
abbrev XD := Ex → DSt → Prop
abbrev TD := DSt → DK → XD → Prop
abbrev TDT := DSt → (Bool → DSt → Prop) → XD → Prop
/-- an argument: data, or the own object at a slot -/
inductive AV where
  | d (x : D) | o (i : Nat)
abbrev TDA := DSt → (List AV → DSt → Prop) → XD → Prop
structure EndsD where
  nx : DSt → Prop
  rt : DK
  ex : XD
  bk : DSt → Prop := fun _ => False
  ct : DSt → Prop := fun _ => False
abbrev TDS := EndsD → DSt → Prop
def ExRep (K : PySem.W.Frag) (F : Hp) (cls : Value) (d : Option Addr) (x : Ex) : Prop :=
  cls = .ref x.C ∧ match x.fs with
    | none => d = none
    | some fs => ∃ dd vs, d = some dd ∧ F dd = some (.xd vs) ∧ RepF K F vs fs
section
variable (K : PySem.W.Frag) (c : Fc) (W : WX)
/-- what is wished of an exception -/
def WD (tmp : List (V × DV)) (E : XD) : Prop := ∀ (x : Ex) (δ : DSt) (σ : L2.St) (H F : Hp) (ow : Addr → Option Hold) (cls : Value) (d : Option Addr), E x δ → SttF K c F ow δ tmp σ H → ExRep K F cls d x → W cls d σ H
def LE (t : TD) : TE := fun σ H Q => ∃ δ tmp Qd Ed, Stt K c δ tmp σ H ∧ t δ Qd Ed ∧ (∀ v x δ' H', Qd x δ' → Stt K c δ' ((v, x) :: tmp) σ H' → Q v H') ∧ WD K c W tmp Ed
def LT (t : TDT) : TT := fun σ H Q => ∃ δ tmp Qd Ed, Stt K c δ tmp σ H ∧ t δ Qd Ed ∧ (∀ b δ' H', Qd b δ' → Stt K c δ' tmp σ H' → Q b H') ∧ WD K c W tmp Ed
inductive RepArgs (F : Hp) (σ : L2.St) : List V → List AV → Prop
  | nil : RepArgs F σ [] []
  | d {v : V} {x : D} {vs : List V} {as : List AV} (h : Rep K F v x) (t : RepArgs F σ vs as) : RepArgs F σ (v :: vs) (.d x :: as)
  | o {v : V} {i : Nat} {vs : List V} {as : List AV} (h : σ[i]? = some (some v)) (t : RepArgs F σ vs as) : RepArgs F σ (v :: vs) (.o i :: as)
def LA (t : TDA) : TA := fun σ H Q => ∃ δ tmp Qd Ed, Stt K c δ tmp σ H ∧ t δ Qd Ed ∧ (∀ vs as δ' F ow H', Qd as δ' → SttF K c F ow δ' tmp σ H' → RepArgs K F σ vs as → Q vs H') ∧ WD K c W tmp Ed
def LS (t : TDS) : TS := fun D σ H => ∃ δ tmp Dd, Stt K c δ tmp σ H ∧ t Dd δ ∧ (∀ δ' σ' H', Dd.nx δ' → Stt K c δ' tmp σ' H' → D.nx σ' H') ∧ (∀ v x δ' σ' H', Dd.rt x δ' → Stt K c δ' ((v, x) :: tmp) σ' H' → D.rt v H') ∧
  (∀ δ' σ' H', Dd.bk δ' → Stt K c δ' tmp σ' H' → D.bk σ' H') ∧ (∀ δ' σ' H', Dd.ct δ' → Stt K c δ' tmp σ' H' → D.ct σ' H') ∧ WD K c W tmp Dd.ex
end
section
variable {K : PySem.W.Frag} {c : Fc} {W : WX} {tmp : List (V × DV)} {Ed : XD} {v : V} {x : DV}
theorem WD.push (w : WD K c W tmp Ed) : WD K c W ((v, x) :: tmp) Ed := fun y δ σ H F ow cls d e S r => w y δ σ H F ow cls d e S.pop r
end
theorem PE_imp {X : Cx} {e : Expr} {t t' : TE} (h : PE X e t) (f : ∀ σ H Q, t' σ H Q → t σ H Q) : PE X e t' := ⟨fun pins s σ H Q I q => h.run pins s σ H Q I (f _ _ _ q)⟩
theorem PT_imp {X : Cx} {e : Expr} {t t' : TT} (h : PT X e t) (f : ∀ σ H Q, t' σ H Q → t σ H Q) : PT X e t' := ⟨fun pins s σ H Q I q => h.run pins s σ H Q I (f _ _ _ q)⟩
theorem PW_imp {X : Cx} {e : Expr} {t t' : TT} (h : PW X e t) (f : ∀ σ H Q, t' σ H Q → t σ H Q) : PW X e t' := ⟨fun wh pins s σ H Q I q => h.run wh pins s σ H Q I (f _ _ _ q)⟩
theorem PA_imp {X : Cx} {e : List Expr} {t t' : TA} (h : PA X e t) (f : ∀ σ H Q, t' σ H Q → t σ H Q) : PA X e t' := ⟨fun pos pins s σ H Q I q => h.run pos pins s σ H Q I (f _ _ _ q)⟩
theorem PS_imp {X : Cx} {e : Stmt} {t t' : TS} (h : PS X e t) (f : ∀ D σ H, t' D σ H → t D σ H) : PS X e t' := ⟨fun pins s σ H D I q => h.run pins s σ H D I (f _ _ _ q)⟩
theorem PSs_imp {X : Cx} {e : List Stmt} {t t' : TS} (h : PSs X e t) (f : ∀ D σ H, t' D σ H → t D σ H) : PSs X e t' := ⟨fun pins s σ H D I q => h.run pins s σ H D I (f _ _ _ q)⟩
section
variable {X : Cx} {c : Fc} {W : WX}
/-! ### names and constants -/
def varD (i : Nat) : TD := fun δ Q _ => ∃ x, δ[i]? = some (some (.d x)) ∧ Q (.d x) δ
def fvarD (i : Nat) : TD := fun δ Q _ => ∃ x, δ[i]? = some (some x) ∧ Q (.d x.toD) (δ.set i (some (.d x.toD)))
def constD (d : D) : TD := fun δ Q _ => Q (.d d) δ
theorem pd_var {i : Nat} {x : Str} {pos : Pos} (h : PE X (.Name x pos) (tVar i)) : PE X (.Name x pos) (LE X.K c W (varD i)) := PE_imp h fun σ H Q ⟨δ, tmp, Qd, Ed, ⟨F, ow, S⟩, ⟨x, e, q⟩, k, w⟩ => by
  obtain ⟨v, e1, r⟩ := S.sl i _ e
  exact ⟨v, e1, k v _ _ _ q ⟨F, ow, S.push r⟩⟩
theorem pd_fvar {i : Nat} {x : Str} {pos : Pos} (h : PE X (.Name x pos) (tVar i)) (ni : i ∉ c.sl) : PE X (.Name x pos) (LE X.K c W (fvarD i)) := PE_imp h fun σ H Q ⟨δ, tmp, Qd, Ed, ⟨F, ow, S⟩, ⟨x, e, q⟩, k, w⟩ => by
  obtain ⟨v, F', e1, S'⟩ := S.slot_frz e ni
  exact ⟨v, e1, k v _ _ _ q ⟨F', ow, S'⟩⟩
theorem pd_const {e : Expr} {v : V} {d : D} (h : PE X e (tC v)) (r : ∀ F, Rep X.K F v d) : PE X e (LE X.K c W (constD d)) := PE_imp h fun σ H Q ⟨δ, tmp, Qd, Ed, ⟨F, ow, S⟩, q, k, w⟩ =>
  k v _ _ _ q ⟨F, ow, S.push (r F)⟩
/-! ### operators on two values -/
/-- an operation on two values that makes new objects alone; it may hand back a new object of one's own -/
inductive Made (K : PySem.W.Frag) (F H F' H' : Hp) (v : V) : DV → Prop where
  | d {x : D} (e : Ext F H F' H') (r : Rep K F' v x) : Made K F H F' H' v (.d x)
  | own {p : Addr} {ob : HO} {o : OC} (hv : v = .ref p) (n : H p = none) (hF : F' = F) (hH : H' = upd H p ob) (r : OwnRep K F (upd H p ob) p o) : Made K F H F' H' v (.own o)
theorem Made.stt {K : PySem.W.Frag} {F H F' H' : Hp} {v : V} {x : DV} {ow : Addr → Option Hold} {δ : DSt} {tmp : List (V × DV)} {σ : L2.St} (m : Made K F H F' H' v x) (S : SttF K c F ow δ tmp σ H) : Stt K c δ ((v, x) :: tmp) σ H' := by
  cases m with
  | d e r => exact ⟨_, _, (S.ext e).push r⟩
  | own hv n hF hH r => subst hv hF hH; exact ⟨_, _, S.pushNew n r⟩
abbrev RD2 := D → D → (DV → Prop) → Prop
def Op2 (K : PySem.W.Frag) (r : R2) (rd : RD2) : Prop := ∀ x y a b F H Q Qd, Same F H → Rep K F x a → Rep K F y b → rd a b Qd → (∀ v dv F' H', Qd dv → Made K F H F' H' v dv → Q v H') → r x y H Q
def opD (rd : RD2) (ta tb : TD) : TD := fun δ Q E => ta δ (fun x δ1 => tb δ1 (fun y δ2 => rd x.toD y.toD fun z => Q z δ2) E) E
theorem lift_op {K : PySem.W.Frag} {r : R2} {rd : RD2} {ta tb : TD} (ho : Op2 K r rd) : ∀ σ H Q, LE K c W (opD rd ta tb) σ H Q → tOp r (LE K c W ta) (LE K c W tb) σ H Q := fun σ H Q ⟨δ, tmp, Qd, Ed, S, t, k, w⟩ => by
  refine ⟨δ, tmp, _, Ed, S, t, fun x a δ1 H1 t1 S1 => ?_, w⟩
  refine ⟨δ1, _, _, Ed, S1, t1, fun y b δ2 H2 t2 S2 => ?_, w.push⟩
  obtain ⟨F, ow, S2⟩ := S2
  obtain ⟨F', S3, _⟩ := S2.top_frz2
  refine ho x y _ _ F' H2 Q _ S3.fh S3.pop.top S3.top t2 fun v dv F2 H3 q m => ?_
  exact k v dv δ2 H3 q (m.stt S3.pop.pop)
theorem pd_op {a b : Expr} {op : Operator} {r : R2} {rd : RD2} {ta tb : TD} {pos : Pos} (ho : OpR X (binaryOp op) r) (hd : Op2 X.K r rd) (ha : PE X a (LE X.K c W ta)) (hb : PE X b (LE X.K c W tb)) : PE X (.BinOp a op b pos) (LE X.K c W (opD rd ta tb)) :=
  PE_imp (pe_op ho ha hb) (lift_op hd)
theorem pd_cmp {a b : Expr} {op : CmpOp} {r : R2} {rd : RD2} {ta tb : TD} {pos : Pos} (ho : OpR X (compareOp op) r) (hd : Op2 X.K r rd) (ha : PE X a (LE X.K c W ta)) (hb : PE X b (LE X.K c W tb)) (hm : behindInMarks op b = false) : PE X (.Compare a [op] [b] pos) (LE X.K c W (opD rd ta tb)) :=
  PE_imp (pe_cmpR ho ha hb hm) (lift_op hd)
/-! ### the call of a def -/
/-- the addresses of the own objects among the arguments -/
inductive ArgsRep (K : PySem.W.Frag) (F H : Hp) : List V → List DV → List Addr → Prop
  | nil : ArgsRep K F H [] [] []
  | d {v : V} {x : D} {vs : List V} {as : List DV} {ps : List Addr} (h : Rep K F v x) (t : ArgsRep K F H vs as ps) : ArgsRep K F H (v :: vs) (.d x :: as) ps
  | own {p : Addr} {o : OC} {vs : List V} {as : List DV} {ps : List Addr} (n : F p = none) (h : OwnRep K F H p o) (np : p ∉ ps) (t : ArgsRep K F H vs as ps) : ArgsRep K F H (.ref p :: vs) (.own o :: as) (p :: ps)
inductive OwnsRep (K : PySem.W.Frag) (F H : Hp) : List Addr → List OC → Prop
  | nil : OwnsRep K F H [] []
  | cons {p : Addr} {o : OC} {ps : List Addr} {os : List OC} (n : F p = none) (h : OwnRep K F H p o) (t : OwnsRep K F H ps os) : OwnsRep K F H (p :: ps) (o :: os)
structure Post (K : PySem.W.Frag) (F H : Hp) (ps : List Addr) (os : List OC) (F' H' : Hp) : Prop where
  f : Same F F'
  fh : Same F' H'
  fr : ∀ a o, H a = some o → a ∉ ps → H' a = some o
  up : ∀ a, H' a = none → H a = none
  nw : ∀ a, F' a ≠ none → F a ≠ none ∨ H a = none
  os : OwnsRep K F' H' ps os
def RetRep (K : PySem.W.Frag) (F' H H' : Hp) (v : V) : DV → Prop
  | .d x => Rep K F' v x
  | .own o => ∃ p, v = .ref p ∧ H p = none ∧ F' p = none ∧ OwnRep K F' H' p o
abbrev SpD := List DV → (DV → List OC → Prop) → (Ex → List OC → Prop) → Prop
def spOf (K : PySem.W.Frag) (sd : SpD) : Sp := fun vs H Q E => ∃ F as ps Qd Ed, Same F H ∧ ArgsRep K F H vs as ps ∧ sd as Qd Ed ∧
  (∀ v x os F' H', Qd x os → Post K F H ps os F' H' → RetRep K F' H H' v x → Q v H') ∧ (∀ cls d x os F' H', Ed x os → Post K F H ps os F' H' → ExRep K F' cls d x → E cls d H')
/-- the arguments as they stand -/
def argsOf (δ : DSt) : List AV → List DV → Prop
  | [], as => as = []
  | .d x :: r, as => ∃ t, as = .d x :: t ∧ argsOf δ r t
  | .o i :: r, as => ∃ o t, δ[i]? = some (some (.own o)) ∧ as = .own o :: t ∧ argsOf δ r t
def slotsOf : List AV → List Nat
  | [] => []
  | .d _ :: r => slotsOf r
  | .o i :: r => i :: slotsOf r
def putBack (δ : DSt) : List Nat → List OC → DSt
  | i :: is, o :: os => putBack (δ.set i (some (.own o))) is os
  | _, _ => δ
def callD (sd : SpD) (ta : TDA) : TD := fun δ Q E => ta δ (fun as δ1 => ∃ xs, argsOf δ1 as xs ∧ (slotsOf as).Nodup ∧ sd xs (fun r os => Q r (putBack δ1 (slotsOf as) os)) (fun x os => E x (putBack δ1 (slotsOf as) os))) E
end
section
variable {K : PySem.W.Frag} {c : Fc} {W : WX} {F F' H H' : Hp} {ow : Addr → Option Hold} {δ : DSt} {tmp : List (V × DV)} {σ : L2.St}
theorem putBack_at : ∀ {is : List Nat} {os : List OC} {δ : DSt} {j : Nat} {x : DV}, is.Nodup → is.length = os.length → (putBack δ is os)[j]? = some (some x) → (∃ (k : Nat) (o : OC), is[k]? = some j ∧ os[k]? = some o ∧ x = .own o) ∨ (j ∉ is ∧ δ[j]? = some (some x))
  | [], [], δ, j, x, _, _, e => .inr ⟨(fun z => nomatch z), e⟩
  | i :: is, o :: os, δ, j, x, nd, hl, e => by
    rcases putBack_at (is := is) (os := os) (List.nodup_cons.mp nd).2 (Nat.succ.inj hl) e with ⟨k, o', a, b, r⟩ | ⟨n, q⟩
    · exact .inl ⟨k + 1, o', a, b, r⟩
    · by_cases z : i = j
      · subst z
        rcases Nat.lt_or_ge i δ.length with h | h
        · rw [List.getElem?_set_self h] at q
          cases q
          exact .inl ⟨0, o, rfl, rfl, rfl⟩
        · rw [List.getElem?_eq_none (by rw [List.length_set]; exact h)] at q
          cases q
      · rw [List.getElem?_set_ne z] at q
        exact .inr ⟨fun y => (List.mem_cons.mp y).elim (fun t => z t.symm) n, q⟩
  | [], _ :: _, _, _, _, _, h, _ => nomatch h
  | _ :: _, [], _, _, _, _, h, _ => nomatch h
theorem putBack_len : ∀ {is : List Nat} {os : List OC} {δ : DSt}, (putBack δ is os).length = δ.length
  | [], [], _ => rfl
  | [], _ :: _, _ => rfl
  | _ :: _, [], _ => rfl
  | i :: is, o :: os, δ => by
    show (putBack (δ.set i _) is os).length = _
    rw [putBack_len, List.length_set]
theorem OwnsRep.len : ∀ {ps : List Addr} {os : List OC}, OwnsRep K F H ps os → ps.length = os.length
  | _, _, .nil => rfl
  | _, _, .cons _ _ t => congrArg (· + 1) t.len
theorem OwnsRep.get : ∀ {ps : List Addr} {os : List OC} {k : Nat} {p : Addr} {o : OC}, OwnsRep K F H ps os → ps[k]? = some p → os[k]? = some o → F p = none ∧ OwnRep K F H p o
  | _, _, 0, _, _, .cons n h _, a, b => by cases a; cases b; exact ⟨n, h⟩
  | _, _, k + 1, _, _, .cons _ _ t, a, b => t.get (k := k) a b
/-- behind a call -/
theorem SttF.called {is : List Nat} {ps : List Addr} {os : List OC} (S : SttF K c F ow δ tmp σ H) (hp : ps.length = is.length) (hs : ∀ (k i : Nat) (p : Addr), is[k]? = some i → ps[k]? = some p → σ[i]? = some (some (.ref p)) ∧ ∃ o, δ[i]? = some (some (.own o))) (nd : is.Nodup) (P : Post K F H ps os F' H') :
    SttF K c F' ow (putBack δ is os) tmp σ H' := by
  have hl : is.length = os.length := by rw [← hp]; exact P.os.len
  have held : ∀ (k : Nat) (p : Addr), ps[k]? = some p → ∃ i, is[k]? = some i ∧ ow p = some (.s i) ∧ NewAt c (.s i) p := fun k p e => by
    have hk : k < is.length := by rw [← hp]; exact set_lt e
    obtain ⟨e1, o, e2⟩ := hs k is[k] p (List.getElem?_eq_getElem hk) e
    obtain ⟨v, e3, p', rfl, a, _, w, _⟩ := S.sl _ _ e2
    rw [e1] at e3
    cases e3
    exact ⟨_, List.getElem?_eq_getElem hk, a, w⟩
  have keep : ∀ {h : Hold} {v : V} {x : DV}, RepV K c F H ow h v x → (∀ (k i : Nat), is[k]? = some i → h ≠ .s i) → RepV K c F' H' ow h v x := fun {h v x} q ne => by
    cases x with
    | d y => exact Rep.mono P.f q
    | own o =>
      obtain ⟨p, rfl, a, b, w, r⟩ := q
      have np : p ∉ ps := fun z => by
        obtain ⟨k, hk⟩ := List.mem_iff_getElem?.mp z
        obtain ⟨i, e1, e2, _⟩ := held k p hk
        rw [a] at e2
        cases e2
        exact ne k i e1 rfl
      refine ⟨p, rfl, a, ?_, w, r.mono P.f ?_⟩
      · cases z : F' p with
        | none => rfl
        | some u =>
          rcases P.nw p (by rw [z]; exact fun q => nomatch q) with y | y
          · exact absurd b y
          · exact absurd y r.has
      · cases z : H p with
        | none => exact absurd z r.has
        | some u => exact P.fr _ _ z np
  have keepT : ∀ {tmp : List (V × DV)}, RepTmp K c F H ow tmp → RepTmp K c F' H' ow tmp := fun {tmp} => by
    induction tmp with
    | nil => exact fun _ => True.intro
    | cons a r ih => obtain ⟨v, x⟩ := a; exact fun y => ⟨keep y.1 (fun _ _ _ z => nomatch z), ih y.2⟩
  refine ⟨P.fh, S.f0.trans P.f, fun a q => (P.nw a q).elim (S.fn a) fun z => .inr (S.up a z), fun a o q n => P.fr a o (S.fr a o q n) fun z => ?_, fun a q => S.up a (P.up a q), by rw [putBack_len]; exact S.len, fun j x q => ?_, keepT S.tm, S.ps⟩
  · obtain ⟨k, hk⟩ := List.mem_iff_getElem?.mp z
    obtain ⟨i, _, _, w⟩ := held k a hk
    rcases w with w | ⟨w, _⟩
    · rw [w] at q; cases q
    · exact n w
  · rcases putBack_at nd hl q with ⟨k, o, e1, e2, rfl⟩ | ⟨nj, e⟩
    · have hk : k < ps.length := by rw [hp]; exact set_lt e1
      have ek := List.getElem?_eq_getElem hk
      obtain ⟨e3, _⟩ := hs k j _ e1 ek
      obtain ⟨i, e4, e5, w⟩ := held k _ ek
      rw [e1] at e4
      cases e4
      obtain ⟨n, r⟩ := P.os.get ek e2
      exact ⟨_, e3, _, rfl, e5, n, w, r⟩
    · obtain ⟨v, e1, r⟩ := S.sl j x e
      exact ⟨v, e1, keep r fun k i e2 z => nj (by cases z; exact List.mem_of_getElem? e2)⟩
/-- the arguments of a call -/
theorem args_rep (S : SttF K c F ow δ tmp σ H) : ∀ {as : List AV} {vs : List V} {xs : List DV}, RepArgs K F σ vs as → argsOf δ as xs → (slotsOf as).Nodup →
    ∃ ps, ArgsRep K F H vs xs ps ∧ ps.length = (slotsOf as).length ∧ ∀ (k i : Nat) (p : Addr), (slotsOf as)[k]? = some i → ps[k]? = some p → σ[i]? = some (some (.ref p)) ∧ ∃ o, δ[i]? = some (some (.own o))
  | [], _, _, .nil, e, _ => by
    cases e
    exact ⟨[], .nil, rfl, fun k i p e => by simp [slotsOf] at e⟩
  | .d x :: r, _, _, .d h t, e, nd => by
    obtain ⟨t', rfl, e⟩ := e
    obtain ⟨ps, a, b, q⟩ := args_rep S t e nd
    exact ⟨ps, .d h a, b, q⟩
  | .o i :: r, _, _, .o h t, e, nd => by
    obtain ⟨o, t', ei, rfl, e⟩ := e
    obtain ⟨ps, a, b, q⟩ := args_rep S t e (List.nodup_cons.mp nd).2
    obtain ⟨v, e1, p, rfl, e2, n, w, r'⟩ := S.sl _ _ ei
    rw [h] at e1
    cases e1
    refine ⟨p :: ps, .own n r' (fun z => ?_) a, congrArg (· + 1) b, fun k j p' => ?_⟩
    · obtain ⟨k, hk⟩ := List.mem_iff_getElem?.mp z
      have hk2 : k < (slotsOf r).length := by rw [← b]; exact set_lt hk
      obtain ⟨e3, o', e4⟩ := q k _ p (List.getElem?_eq_getElem hk2) hk
      obtain ⟨v, e5, p2, rfl, e6, _⟩ := S.sl _ _ e4
      rw [e3] at e5
      cases e5
      rw [e2] at e6
      have e7 : i = (slotsOf r)[k] := by injection Option.some.inj e6
      exact (List.nodup_cons.mp nd).1 (by rw [e7]; exact List.getElem_mem hk2)
    · cases k with
      | zero => intro e e'; cases e; cases e'; exact ⟨h, o, ei⟩
      | succ k => exact q k j p'
end
end DL

set_option Elab.async false
set_option linter.all false
set_option maxRecDepth 100000
namespace DL
open PySem PySem.Spec PyProof.Rows L2
/-! ### C(e, ..) whose __init__ may raise: what is raised is wished for at the slots -/
section
variable {X : Cx} {CX : CXT} {k : Nat} {f C : Addr} {fd : FuncData} {ps : List Str} {sp : Sp} {E : L2.St → XK} {x m : Str} {p pos apos : Pos} {e o : Expr} {es : List Expr} {ta : TE} {t : TA}
/-! ### o.m(e, ..), a method that may raise -/
def tMethX (C : Addr) (m : Str) (sp : Sp) (E : L2.St → XK) (ta : TE) (t : TA) : TE := fun σ H Q => ta σ H fun x H1 => ∃ a dx fs, x = .ref a ∧ H1 a = some (.ins C dx fs) ∧ fs.lookup m = none ∧ t σ H1 fun vs H2 => sp (x :: vs) H2 Q (E σ)
theorem pe_methX {pl : Sem Bool} (he : PE X o ta) (c : Cls X.K C) (hm : Meth X.K C m f) (G : FnOk X.prog X.w X.K X.mg X.base CX k f fd ps sp) (room : Room k X.A) (bd : Binds X.K fd ps []) (hx : ∀ σ, PassesAt CX X σ (E σ)) (ha : PA X (e :: es) t)
    (hst : starEach (e :: es) X.env = (false, eval e X.env) :: starEach es X.env := by rfl) (hpl : (backTo pos (starEach es X.env)).any (·.1) = false := by rfl)
    (ht : eval (.Call (.Attribute o m apos) (e :: es) [] pos) X.env = (do
      let ov ← eval o X.env
      standAt apos.atName
      let (f, first) ← holding [ov] (getMethod ov m pl)
      callWith pos f first (backTo pos (starEach (e :: es) X.env)) (backToKw pos (keywordEach [] X.env))) := by rfl) :
    PE X (.Call (.Attribute o m apos) (e :: es) [] pos) (tMethX C m sp E ta t) := by
  refine ⟨fun pins s σ H Q I h => PySem.W.methodCall_KW (pl := pl) (thn (he.run pins s σ H _ I h) fun u s1 ⟨x, H1, I1, rx, a, dx, fs, ex, ea, l, q⟩ => ?_) ht⟩
  subst ex
  cases (show u = Value.ref a from rx)
  refine getmeth_ok I1 ea c hm l (PySem.W.callWith_K (first := [.ref a]) (h₀ := X.base) I.ok.mod.kin hm.kp (thn (ha.run pos pins s1 σ H1 _ I1 q) fun us s2 ⟨vs, H2, I2, r, q2⟩ => ⟨I2.kIn, ?_⟩) hst hpl)
  exact run_fnS G room bd (hx σ) I2 (.cons (show RelV (V.ref a) (Value.ref a) from rfl) r) q2
end
section
variable {X : Cx} {c : Fc} {W : WX}
/-! ### arguments -/
def nilD : TDA := fun δ Q _ => Q [] δ
def consD (t : TD) (r : TDA) : TDA := fun δ Q E => t δ (fun x δ1 => r δ1 (fun as δ2 => Q (.d x.toD :: as) δ2) E) E
def consO (i : Nat) (r : TDA) : TDA := fun δ Q E => r δ (fun as δ2 => Q (.o i :: as) δ2) E
theorem pda_nil : PA X [] (LA X.K c W nilD) := PA_imp pa_nil fun σ H Q ⟨δ, tmp, Qd, Ed, ⟨F, ow, S⟩, q, k, w⟩ => k [] [] δ F ow H q S .nil
theorem pda_cons {e : Expr} {es : List Expr} {t : TD} {r : TDA} (he : PE X e (LE X.K c W t)) (hr : PA X es (LA X.K c W r)) (hs : starEach (e :: es) X.env = (false, eval e X.env) :: starEach es X.env := by rfl) : PA X (e :: es) (LA X.K c W (consD t r)) :=
  PA_imp (pa_cons he hr hs) fun σ H Q ⟨δ, tmp, Qd, Ed, S, t, k, w⟩ => ⟨δ, tmp, _, Ed, S, t, fun v x δ1 H1 q1 ⟨F, ow, S1⟩ => by
    obtain ⟨F', S2, _⟩ := S1.top_frz
    exact ⟨δ1, _, _, Ed, ⟨F', ow, S2⟩, q1, fun vs as δ2 F2 ow2 H2 q2 S3 ra => k _ _ _ _ _ _ q2 S3.pop (.d S3.top ra), w.push⟩, w⟩
theorem pda_own {i : Nat} {x : Str} {pos : Pos} {es : List Expr} {r : TDA} (he : PE X (.Name x pos) (tVar i)) (hr : PA X es (LA X.K c W r)) (hs : starEach (.Name x pos :: es) X.env = (false, eval (.Name x pos) X.env) :: starEach es X.env := by rfl) :
    PA X (.Name x pos :: es) (LA X.K c W (fun δ Q E => ∃ o, δ[i]? = some (some (.own o)) ∧ consO i r δ Q E)) :=
  PA_imp (pa_cons he hr hs) fun σ H Q ⟨δ, tmp, Qd, Ed, ⟨F, ow, S⟩, ⟨o, eo, t⟩, k, w⟩ => by
    obtain ⟨v, e1, _⟩ := S.sl _ _ eo
    exact ⟨v, e1, δ, tmp, _, Ed, ⟨F, ow, S⟩, t, fun vs as δ2 F2 ow2 H2 q2 S3 ra => k _ _ _ _ _ _ q2 S3 (.o e1 ra), w⟩
/-! ### calls -/
theorem ret_push {K : PySem.W.Frag} {F F' H H' : Hp} {ow : Addr → Option Hold} {δ : DSt} {tmp : List (V × DV)} {σ : L2.St} {v : V} {x : DV} {is : List Nat} {ps : List Addr} {os : List OC} (S : SttF K c F ow δ tmp σ H) (hp : ps.length = is.length)
    (hs : ∀ (k i : Nat) (p : Addr), is[k]? = some i → ps[k]? = some p → σ[i]? = some (some (.ref p)) ∧ ∃ o, δ[i]? = some (some (.own o))) (nd : is.Nodup) (P : Post K F H ps os F' H') (r : RetRep K F' H H' v x) : Stt K c (putBack δ is os) ((v, x) :: tmp) σ H' := by
  cases x with
  | d y => exact ⟨F', ow, (S.called hp hs nd P).push r⟩
  | own o =>
    obtain ⟨p, rfl, n, nF, r⟩ := r
    have S1 := S.reown (ow' := owSet ow p (.t tmp.length)) (fun k a _ z => owSet_ne fun e => z (by rw [e]; exact n)) (fun k a _ _ z => owSet_ne fun e => z (by rw [e]; exact n))
    have S2 := S1.called hp hs nd P
    exact ⟨F', _, { S2 with tm := ⟨⟨p, rfl, owSet_at, nF, .inl (S.up _ n), r⟩, S2.tm⟩ }⟩
theorem lift_sp {K : PySem.W.Frag} {F H : Hp} {ow : Addr → Option Hold} {δ : DSt} {tmp : List (V × DV)} {σ : L2.St} {vs : List V} {as : List AV} {xs : List DV} {sd : SpD} {Q : VK} {Qd : DK} {Ed : XD} (S : SttF K c F ow δ tmp σ H) (ra : RepArgs K F σ vs as) (ea : argsOf δ as xs) (nd : (slotsOf as).Nodup)
    (sp : sd xs (fun r os => Qd r (putBack δ (slotsOf as) os)) (fun x os => Ed x (putBack δ (slotsOf as) os))) (k : ∀ v x δ' H', Qd x δ' → Stt K c δ' ((v, x) :: tmp) σ H' → Q v H') (w : WD K c W tmp Ed) : spOf K sd vs H Q (WE W σ) := by
  obtain ⟨ps, ar, hl, hs⟩ := args_rep S ra ea nd
  exact ⟨F, xs, ps, _, _, S.fh, ar, sp, fun v r os F' H' q P rr => k v r _ H' q (ret_push S hl hs nd P rr), fun cls d x os F' H' q P er => w x _ σ H' F' ow cls d q (S.called hl hs nd P) er⟩
variable {k : Nat} {f C : Addr} {fd : FuncData} {ps : List Str} {sd : SpD} {x m : Str} {p pos apos : Pos} {e o : Expr} {es : List Expr} {to : TD} {ta : TDA}
theorem pd_call (G : FnOk X.prog X.w X.K X.mg X.base (L2.CX X.prog X.w) k f fd ps (spOf X.K sd)) (hr : Room k X.A) (hg : Gl X x) (hm : X.mg x = some (.ref f)) (hk : PySem.W.keepIn X.K (.ref f) = true) (hb : Binds X.K fd ps []) (tk : Takes X W) (ha : PA X (e :: es) (LA X.K c W ta))
    (hdb : (x == ("__debug__" : Str)) = false := by decide) (he : starEach (e :: es) X.env = (false, eval e X.env) :: starEach es X.env := by rfl) (hpl : (backTo pos (starEach es X.env)).any (·.1) = false := by rfl) :
    PE X (.Call (.Name x p) (e :: es) [] pos) (LE X.K c W (callD sd ta)) :=
  PE_imp (pe_callSD (E := WE W) G hr hg hm hk hb .nil (fun σ => passAt tk σ) ha hdb he hpl) fun σ H Q ⟨δ, tmp, Qd, Ed, S, t, k, w⟩ =>
    ⟨δ, tmp, _, Ed, S, t, fun vs as δ1 F ow H1 ⟨xs, ea, nd, sp⟩ S1 ra => by
      show spOf X.K sd (vs ++ []) H1 Q (WE W σ)
      rw [List.append_nil]
      exact lift_sp S1 ra ea nd sp k w, w⟩
/-- o.m(..), o of the class at C, its fields fs -/
def methD (C : Addr) (m : Str) (sd : SpD) (to : TD) (ta : TDA) : TD := fun δ Q E => to δ (fun o δ1 => ∃ fs, o.toD = .obj C fs ∧ fs.lookup m = none ∧ ta δ1 (fun as δ2 => ∃ xs, argsOf δ2 as xs ∧ (slotsOf as).Nodup ∧
  sd (.d (.obj C fs) :: xs) (fun r os => Q r (putBack δ2 (slotsOf as) os)) (fun x os => E x (putBack δ2 (slotsOf as) os))) E) E
theorem RepF.lookup {K : PySem.W.Frag} {F : Hp} {n : Str} : ∀ {vs : List (Str × V)} {fs : List (Str × D)}, RepF K F vs fs → (fs.lookup n = none → vs.lookup n = none) ∧ ∀ d, fs.lookup n = some d → ∃ v, vs.lookup n = some v ∧ Rep K F v d
  | _, _, .nil => ⟨fun _ => rfl, fun d h => by cases h⟩
  | _, _, .cons (n := n') h t => by
    rw [List.lookup_cons, List.lookup_cons]
    cases n == n'
    · exact t.lookup
    · exact ⟨(fun z => nomatch z), fun d z => ⟨_, rfl, by cases z; exact h⟩⟩
theorem pd_meth {pl : Sem Bool} (he : PE X o (LE X.K c W to)) (cl : Cls X.K C) (hm : Meth X.K C m f) (G : FnOk X.prog X.w X.K X.mg X.base (L2.CX X.prog X.w) k f fd ps (spOf X.K sd)) (hr : Room k X.A) (hb : Binds X.K fd ps []) (tk : Takes X W) (ha : PA X (e :: es) (LA X.K c W ta))
    (hst : starEach (e :: es) X.env = (false, eval e X.env) :: starEach es X.env := by rfl) (hpl : (backTo pos (starEach es X.env)).any (·.1) = false := by rfl)
    (ht : eval (.Call (.Attribute o m apos) (e :: es) [] pos) X.env = (do
      let ov ← eval o X.env
      standAt apos.atName
      let (f, first) ← holding [ov] (getMethod ov m pl)
      callWith pos f first (backTo pos (starEach (e :: es) X.env)) (backToKw pos (keywordEach [] X.env))) := by rfl) :
    PE X (.Call (.Attribute o m apos) (e :: es) [] pos) (LE X.K c W (methD C m sd to ta)) :=
  PE_imp (pe_methX (E := WE W) he cl hm G hr hb (fun σ => passAt tk σ) ha hst hpl ht) fun σ H Q ⟨δ, tmp, Qd, Ed, S, t, k, w⟩ =>
    ⟨δ, tmp, _, Ed, S, t, fun v o δ1 H1 ⟨fs, eo, nl, t1⟩ ⟨F, ow, S1⟩ => by
      obtain ⟨F', S2, _⟩ := S1.top_frz
      rw [eo] at S2
      cases S2.top with
      | @obj a _ dx vs _ s h =>
        refine ⟨a, dx, vs, rfl, S2.fh _ _ s, (RepF.lookup h).1 nl, δ1, _, _, Ed, ⟨F', ow, S2⟩, t1, fun ws as δ2 F2 ow2 H2 ⟨xs, ea, nd, sp⟩ S3 ra => ?_, w.push⟩
        obtain ⟨qs, ar, hl, hs⟩ := args_rep S3.pop ra ea nd
        exact ⟨F2, _, qs, _, _, S3.fh, .d S3.top ar, sp, fun v r os F' H' q P rr => k v r _ H' q (ret_push S3.pop hl hs nd P rr), fun cls d x os F' H' q P er => w x _ σ H' F' ow2 cls d q (S3.pop.called hl hs nd P) er⟩, w⟩
theorem ArgsRep.ext {K : PySem.W.Frag} {F H H' : Hp} (s : Same H H') : ∀ {vs : List V} {xs : List DV} {ps : List Addr}, ArgsRep K F H vs xs ps → ArgsRep K F H' vs xs ps
  | _, _, _, .nil => .nil
  | _, _, _, .d h t => .d h (t.ext s)
  | _, _, _, .own n h np t => .own n (h.mono (Same.refl F) (Same.at s h.has)) np (t.ext s)
theorem ArgsRep.at {K : PySem.W.Frag} {F H : Hp} {p : Addr} : ∀ {vs : List V} {xs : List DV} {ps : List Addr}, ArgsRep K F H vs xs ps → p ∈ ps → H p ≠ none
  | _, _, _, .nil, h => nomatch h
  | _, _, _, .d _ t, h => t.at h
  | _, _, _, .own _ r _ t, h => (List.mem_cons.mp h).elim (fun e => by subst e; exact r.has) fun h => t.at h
theorem OwnsRep.mono {K : PySem.W.Frag} {F F' H : Hp} (s : Same F F') : ∀ {ps : List Addr} {os : List OC}, (∀ p ∈ ps, F p = none → F' p = none) → OwnsRep K F H ps os → OwnsRep K F' H ps os
  | _, _, _, .nil => .nil
  | _, _, h, .cons n r t => .cons (h _ List.mem_cons_self n) (r.mono s rfl) (t.mono s fun p hp => h p (List.mem_cons_of_mem _ hp))
theorem lift_make {K : PySem.W.Frag} {F H : Hp} {ow : Addr → Option Hold} {δ : DSt} {tmp : List (V × DV)} {σ : L2.St} {vs : List V} {as : List AV} {xs : List DV} {Q : VK} {Qd : DK} {Ed : XD} (S : SttF K c F ow δ tmp σ H) (ra : RepArgs K F σ vs as) (ea : argsOf δ as xs) (nd : (slotsOf as).Nodup)
    (sp : sd (.own (.ins C []) :: xs) (fun r os => r = .d .non ∧ ∃ fs os', os = .ins C fs :: os' ∧ Qd (.d (.obj C fs)) (putBack δ (slotsOf as) os')) (fun x os => ∃ o os', os = o :: os' ∧ Ed x (putBack δ (slotsOf as) os')))
    (k : ∀ v x δ' H', Qd x δ' → Stt K c δ' ((v, x) :: tmp) σ H' → Q v H') (w : WD K c W tmp Ed) (x dx : Addr) (nx : H x = none) (ndx : H dx = none) (ne : dx ≠ x) :
    spOf K sd (.ref x :: vs) (upd (upd H dx (.own x)) x (.ins C dx [])) (fun v H2 => v = .non ∧ Q (.ref x) H2) (WE W σ) := by
  obtain ⟨ps, ar, hl, hs⟩ := args_rep S ra ea nd
  have s2 : Same H (upd (upd H dx (.own x)) x (.ins C dx [])) := same_upd (same_upd (Same.refl H) ndx) (by rw [upd_ne ne.symm]; exact nx)
  have Fx : F x = none := S.fh.free nx
  have xps : x ∉ ps := fun z => ar.at z nx
  have back : ∀ {os' : List OC} {F' H' : Hp}, Same F F' → Same F' H' → (∀ a o, (upd (upd H dx (.own x)) x (.ins C dx [])) a = some o → a ∉ x :: ps → H' a = some o) → (∀ a, H' a = none → (upd (upd H dx (.own x)) x (.ins C dx [])) a = none) →
      (∀ a, F' a ≠ none → a = x ∨ F a ≠ none ∨ (upd (upd H dx (.own x)) x (.ins C dx [])) a = none) → OwnsRep K F' H' ps os' → Post K F H ps os' F' H' := fun f fh fr up nw os =>
    ⟨f, fh, fun a o e n => fr a o (s2 _ _ e) fun z => (List.mem_cons.mp z).elim (fun z => by subst z; rw [nx] at e; cases e) n, fun a z => s2.free (up a z), fun a z => (nw a z).elim (fun z => by subst z; exact .inr nx) fun z => z.imp id fun z => s2.free z, os⟩
  refine ⟨F, _, x :: ps, _, _, S.fh.trans s2, .own Fx (show OwnRep K F _ x (.ins C []) from ⟨dx, [], upd_same, .nil⟩) xps (ar.ext s2), sp, fun v r os F' H' ⟨e1, fs, os', e2, q⟩ P rr => ?_, fun cls d y os F' H' ⟨o, os', e2, q⟩ P er => ?_⟩
  · subst e1 e2
    have rv : v = .non := by cases rr; rfl
    refine ⟨rv, k _ _ _ _ q ?_⟩
    cases P.os with
    | cons n r t =>
      obtain ⟨dx', vs', ex, rf⟩ := r
      have sf : Same F' (upd F' x (.ins C dx' vs')) := same_upd (Same.refl F') n
      have P' : Post K F H ps os' (upd F' x (.ins C dx' vs')) H' := back (P.f.trans sf) (same_upd1 P.fh ex) P.fr P.up (fun a z => by
        by_cases y : a = x
        · exact .inl y
        · rw [upd_ne y] at z; exact .inr (P.nw a z)) (t.mono sf fun p hp e => by rw [upd_ne (fun z => xps (by rw [← z]; exact hp))]; exact e)
      exact ⟨_, ow, (S.called hl hs nd P').push (.obj upd_same (rf.mono sf))⟩
  · subst e2
    cases P.os with
    | cons n r t => exact w y _ σ H' F' ow cls d q (S.called hl hs nd (back P.f P.fh P.fr P.up (fun a z => .inr (P.nw a z)) t)) er
end
end DL

set_option Elab.async false
set_option linter.all false
set_option maxRecDepth 100000
namespace DL
open PySem PySem.Spec PyProof.Rows L2
section
variable {X : Cx} {c : Fc} {W : WX}
/-! ### blocks -/
def nextD : TDS := fun D δ => D.nx δ
def seqD (t u : TDS) : TDS := fun D δ => t { D with nx := u D } δ
theorem pds_nil : PSs X [] (LS X.K c W nextD) := PSs_imp pss_nil fun D σ H ⟨δ, tmp, Dd, S, t, k, _⟩ => k δ σ H t S
theorem pds_cons {st : Stmt} {rest : List Stmt} {t u : TDS} (h1 : PS X st (LS X.K c W t)) (h2 : PSs X rest (LS X.K c W u)) : PSs X (st :: rest) (LS X.K c W (seqD t u)) :=
  PSs_imp (pss_cons h1 h2) fun D σ H ⟨δ, tmp, Dd, S, q, k, kr, kb, kc, w⟩ => ⟨δ, tmp, _, S, q, fun δ' σ' H' q' S' => ⟨δ', tmp, Dd, S', q', k, kr, kb, kc, w⟩, kr, kb, kc, w⟩
theorem pds_one {st : Stmt} {t : TDS} (h1 : PS X st (LS X.K c W t)) : PSs X [st] (LS X.K c W t) := PSs_imp (pss_one h1) fun _ _ _ q => q
def dropD (t : TD) : TDS := fun D δ => t δ (fun _ δ1 => D.nx δ1) D.ex
theorem psd_expr {e : Expr} {t : TD} {pos : Pos} (he : PE X e (LE X.K c W t)) (hs : swapsWith e none pos.line X.env = pure false := by rfl) : PS X (.Expr e pos) (LS X.K c W (dropD t)) :=
  PS_imp (ps_expr he hs) fun D σ H ⟨δ, tmp, Dd, S, q, k, kr, kb, kc, w⟩ => ⟨δ, tmp, _, _, S, q, fun v x δ' H' q' ⟨F, ow, S'⟩ => k δ' σ H' q' ⟨F, ow, S'.pop⟩, w⟩
def retD (t : TD) : TDS := fun D δ => t δ D.rt D.ex
theorem psd_ret {e : Expr} {t : TD} {pos : Pos} (he : PE X e (LE X.K c W t)) : PS X (.Return (some e) pos) (LS X.K c W (retD t)) :=
  PS_imp (ps_ret he) fun D σ H ⟨δ, tmp, Dd, S, q, k, kr, kb, kc, w⟩ => ⟨δ, tmp, _, _, S, q, fun v x δ' H' q' S' => kr v x δ' σ H' q' S', w⟩
/-! ### names -/
/-- x = e, frozen; as it is (x's own) -/
def setD (i : Nat) (t : TD) : TDS := fun D δ => t δ (fun x δ1 => D.nx (δ1.set i (some (.d x.toD)))) D.ex
def setO (i : Nat) (t : TD) : TDS := fun D δ => t δ (fun x δ1 => D.nx (δ1.set i (some x))) D.ex
theorem SttF.set' {K : PySem.W.Frag} {F H : Hp} {ow : Addr → Option Hold} {δ : DSt} {tmp : List (V × DV)} {σ : L2.St} {v : V} {x : DV} {i : Nat} (S : SttF K c F ow δ ((v, x) :: tmp) σ H) (ni : i ∉ c.sl) : Stt K c (δ.set i (some x)) tmp (σ.set i (some v)) H := by
  rcases Nat.lt_or_ge i δ.length with hi | hi
  · obtain ⟨ow', S'⟩ := S.set hi ni
    exact ⟨F, ow', S'⟩
  · rw [List.set_eq_of_length_le hi, List.set_eq_of_length_le (by rw [S.len]; exact hi)]
    exact ⟨F, ow, S.pop⟩
theorem psd_set {i : Nat} {x : Str} {e : Expr} {t : TD} {pos pos' : Pos} (he : PE X e (LE X.K c W t)) (ni : i ∉ c.sl) (hN : X.N.Nodup) (hi : X.N[i]? = some x) (hx : Loc X.env.scope x) (hs : swapsWith e (some (.Name x pos')) pos.line X.env = pure false := by rfl)
    (hf : X.fn x = true ∨ X.env.scope.names.lookup x = some .local := by first | exact .inl rfl | exact .inr rfl | assumption) : PS X (.Assign [.Name x pos'] e pos) (LS X.K c W (setD i t)) :=
  PS_imp (ps_set (i := i) hN hi hx he hs hf) fun D σ H ⟨δ, tmp, Dd, S, q, k, kr, kb, kc, w⟩ => ⟨δ, tmp, _, _, S, q, fun v x δ' H' q' ⟨F, ow, S'⟩ => by
    obtain ⟨F', S2, _⟩ := S'.top_frz
    exact k _ _ _ q' (S2.set' ni), w⟩
theorem psd_setO {i : Nat} {x : Str} {e : Expr} {t : TD} {pos pos' : Pos} (he : PE X e (LE X.K c W t)) (ni : i ∉ c.sl) (hN : X.N.Nodup) (hi : X.N[i]? = some x) (hx : Loc X.env.scope x) (hs : swapsWith e (some (.Name x pos')) pos.line X.env = pure false := by rfl)
    (hf : X.fn x = true ∨ X.env.scope.names.lookup x = some .local := by first | exact .inl rfl | exact .inr rfl | assumption) : PS X (.Assign [.Name x pos'] e pos) (LS X.K c W (setO i t)) :=
  PS_imp (ps_set (i := i) hN hi hx he hs hf) fun D σ H ⟨δ, tmp, Dd, S, q, k, kr, kb, kc, w⟩ => ⟨δ, tmp, _, _, S, q, fun v x δ' H' q' ⟨F, ow, S'⟩ => k _ _ _ q' (S'.set' ni), w⟩
/-- which of a row of values is frozen -/
def asD (own : Bool) (x : DV) : DV := if own then x else .d x.toD
theorem SttF.top_as {K : PySem.W.Frag} {F H : Hp} {ow : Addr → Option Hold} {δ : DSt} {tmp : List (V × DV)} {σ : L2.St} {v : V} {x : DV} (S : SttF K c F ow δ ((v, x) :: tmp) σ H) (b : Bool) : ∃ F', SttF K c F' ow δ ((v, asD b x) :: tmp) σ H := by
  cases b
  · obtain ⟨F', S', _⟩ := S.top_frz
    exact ⟨F', S'⟩
  · exact ⟨F, S⟩
/-! ### if -/
def ifD (c : TDT) (t u : TDS) : TDS := fun D δ => c δ (fun b δ1 => if b = true then t D δ1 else u D δ1) D.ex
theorem psd_if {e : Expr} {a b : List Stmt} {tc : TDT} {t u : TDS} {pos : Pos} (hc : PT X e (LT X.K c W tc)) (ha : PSs X a (LS X.K c W t)) (hb : PSs X b (LS X.K c W u)) : PS X (.If e a b pos) (LS X.K c W (ifD tc t u)) :=
  PS_imp (ps_if hc ha hb) fun D σ H ⟨δ, tmp, Dd, S, q, k, kr, kb, kc, w⟩ => ⟨δ, tmp, _, _, S, q, fun b δ' H' q' S' => by
    cases b
    · exact ⟨δ', tmp, Dd, S', q', k, kr, kb, kc, w⟩
    · exact ⟨δ', tmp, Dd, S', q', k, kr, kb, kc, w⟩, w⟩
def ifExpD (c : TDT) (t u : TD) : TD := fun δ Q E => c δ (fun b δ1 => if b = true then t δ1 Q E else u δ1 Q E) E
theorem pd_ifExp {e a b : Expr} {tc : TDT} {t u : TD} {pos : Pos} (hc : PT X e (LT X.K c W tc)) (ha : PE X a (LE X.K c W t)) (hb : PE X b (LE X.K c W u)) : PE X (.IfExp e a b pos) (LE X.K c W (ifExpD tc t u)) :=
  PE_imp (pe_ifExp hc ha hb) fun σ H Q ⟨δ, tmp, Qd, Ed, S, q, k, w⟩ => ⟨δ, tmp, _, _, S, q, fun b δ' H' q' S' => by
    cases b
    · exact ⟨δ', tmp, Qd, Ed, S', q', k, w⟩
    · exact ⟨δ', tmp, Qd, Ed, S', q', k, w⟩, w⟩
/-! ### and, or, not: tests -/
def notD (t : TDT) : TDT := fun δ Q E => t δ (fun b δ1 => Q (!b) δ1) E
def andD (t u : TDT) : TDT := fun δ Q E => t δ (fun b δ1 => if b = true then u δ1 Q E else Q false δ1) E
def orD (t u : TDT) : TDT := fun δ Q E => t δ (fun b δ1 => if b = true then Q true δ1 else u δ1 Q E) E
theorem ptd_not {a : Expr} {t : TDT} {pos : Pos} (ha : PT X a (LT X.K c W t)) : PT X (.UnaryOp .Not a pos) (LT X.K c W (notD t)) :=
  PT_imp (pt_not ha) fun σ H Q ⟨δ, tmp, Qd, Ed, S, q, k, w⟩ => ⟨δ, tmp, _, _, S, q, fun b δ' H' q' S' => k _ _ _ q' S', w⟩
theorem pwd_and1 {a : Expr} {t : TDT} {pos : Pos} (ha : PT X a (LT X.K c W t)) : PW X (.BoolOp .And [a] pos) (LT X.K c W t) := pw_and1 ha
theorem pwd_or1 {a : Expr} {t : TDT} {pos : Pos} (ha : PT X a (LT X.K c W t)) : PW X (.BoolOp .Or [a] pos) (LT X.K c W t) := pw_or1 ha
theorem pwd_and {a b : Expr} {rest : List Expr} {t u : TDT} {pos : Pos} (ha : PT X a (LT X.K c W t)) (hb : PW X (.BoolOp .And (b :: rest) pos) (LT X.K c W u)) : PW X (.BoolOp .And (a :: b :: rest) pos) (LT X.K c W (andD t u)) :=
  PW_imp (pw_and ha hb) fun σ H Q ⟨δ, tmp, Qd, Ed, S, q, k, w⟩ => ⟨δ, tmp, _, _, S, q, fun b δ' H' q' S' => by
    cases b
    · exact k _ _ _ q' S'
    · exact ⟨δ', tmp, Qd, Ed, S', q', k, w⟩, w⟩
theorem pwd_or {a b : Expr} {rest : List Expr} {t u : TDT} {pos : Pos} (ha : PT X a (LT X.K c W t)) (hb : PW X (.BoolOp .Or (b :: rest) pos) (LT X.K c W u)) : PW X (.BoolOp .Or (a :: b :: rest) pos) (LT X.K c W (orD t u)) :=
  PW_imp (pw_or ha hb) fun σ H Q ⟨δ, tmp, Qd, Ed, S, q, k, w⟩ => ⟨δ, tmp, _, _, S, q, fun b δ' H' q' S' => by
    cases b
    · exact ⟨δ', tmp, Qd, Ed, S', q', k, w⟩
    · exact k _ _ _ q' S', w⟩
/-! values by truth: bools alone -/
def boolE (t : TD) (k : Bool → DSt → Prop) (E : XD) (δ : DSt) : Prop := t δ (fun x δ1 => ∃ b, x = .d (.bl b) ∧ k b δ1) E
def notV (t : TD) : TD := fun δ Q E => boolE t (fun b δ1 => Q (.d (.bl (!b))) δ1) E δ
def andV (t u : TD) : TD := fun δ Q E => boolE t (fun b δ1 => if b = true then u δ1 Q E else Q (.d (.bl false)) δ1) E δ
def orV (t u : TD) : TD := fun δ Q E => boolE t (fun b δ1 => if b = true then Q (.d (.bl true)) δ1 else u δ1 Q E) E δ
theorem pd_not {a : Expr} {t : TD} {pos : Pos} (ha : PE X a (LE X.K c W t)) : PE X (.UnaryOp .Not a pos) (LE X.K c W (notV t)) :=
  PE_imp (pe_not ha) fun σ H Q ⟨δ, tmp, Qd, Ed, S, q, k, w⟩ => ⟨δ, tmp, _, _, S, q, fun v x δ' H' ⟨b, e, q'⟩ ⟨F, ow, S'⟩ => by
    subst e
    cases S'.top
    exact ⟨b, rfl, k _ _ _ _ q' ⟨F, ow, S'.pop.push (.bl _)⟩⟩, w⟩
theorem pd_one {op} {a : Expr} {t : TD} {pos : Pos} (ha : PE X a (LE X.K c W t)) : PE X (.BoolOp op [a] pos) (LE X.K c W t) := pe_one ha
theorem pd_and {a b : Expr} {rest : List Expr} {t u : TD} {pos : Pos} (ha : PE X a (LE X.K c W t)) (hb : PE X (.BoolOp .And (b :: rest) pos) (LE X.K c W u)) : PE X (.BoolOp .And (a :: b :: rest) pos) (LE X.K c W (andV t u)) :=
  PE_imp (pe_and ha hb) fun σ H Q ⟨δ, tmp, Qd, Ed, S, q, k, w⟩ => ⟨δ, tmp, _, _, S, q, fun v x δ' H' ⟨b, e, q'⟩ ⟨F, ow, S'⟩ => by
    subst e
    cases S'.top
    refine ⟨b, rfl, ?_⟩
    cases b
    · exact k _ _ _ _ q' ⟨F, ow, S'.pop.push (.bl _)⟩
    · exact ⟨δ', tmp, Qd, Ed, ⟨F, ow, S'.pop⟩, q', k, w⟩, w⟩
theorem pd_or {a b : Expr} {rest : List Expr} {t u : TD} {pos : Pos} (ha : PE X a (LE X.K c W t)) (hb : PE X (.BoolOp .Or (b :: rest) pos) (LE X.K c W u)) : PE X (.BoolOp .Or (a :: b :: rest) pos) (LE X.K c W (orV t u)) :=
  PE_imp (pe_or ha hb) fun σ H Q ⟨δ, tmp, Qd, Ed, S, q, k, w⟩ => ⟨δ, tmp, _, _, S, q, fun v x δ' H' ⟨b, e, q'⟩ ⟨F, ow, S'⟩ => by
    subst e
    cases S'.top
    refine ⟨b, rfl, ?_⟩
    cases b
    · exact ⟨δ', tmp, Qd, Ed, ⟨F, ow, S'.pop⟩, q', k, w⟩
    · exact k _ _ _ _ q' ⟨F, ow, S'.pop.push (.bl _)⟩, w⟩
/-! ### moving an own name's object out -/
/-! ### attributes -/
def fldD (C : Addr) (f : Str) (t : TD) : TD := fun δ Q E => t δ (fun o δ1 => ∃ fs d, o.toD = .obj C fs ∧ fs.lookup f = some d ∧ Q (.d d) δ1) E
theorem pd_fld {e : Expr} {C : Addr} {f : Str} {t : TD} {pos : Pos} (he : PE X e (LE X.K c W t)) (cl : Cls X.K C) (na : NoAttr X.K C f) (hb : attributeBase e f X.env (eval e X.env) = eval e X.env) : PE X (.Attribute e f pos) (LE X.K c W (fldD C f t)) :=
  PE_imp (pe_fld he hb) fun σ H Q ⟨δ, tmp, Qd, Ed, S, q, k, w⟩ => ⟨δ, tmp, _, _, S, q, fun v o δ' H' ⟨fs, d, eo, el, q'⟩ ⟨F, ow, S'⟩ => by
    obtain ⟨F', S2, _⟩ := S'.top_frz
    rw [eo] at S2
    cases S2.top with
    | @obj a _ dx vs _ s h =>
      obtain ⟨u, e1, r⟩ := (RepF.lookup h).2 d el
      exact ⟨a, C, dx, vs, u, rfl, S2.fh _ _ s, cl, na, e1, k _ _ _ _ q' ⟨F', ow, S2.pop.push r⟩⟩, w⟩
/-- of an object of the body's own -/
def fldO (C : Addr) (i : Nat) (f : Str) : TD := fun δ Q _ => ∃ fs d, δ[i]? = some (some (.own (.ins C fs))) ∧ fs.lookup f = some d ∧ Q (.d d) δ
theorem pd_fldO {i : Nat} {x : Str} {C : Addr} {f : Str} {pos px : Pos} (he : PE X (.Name x px) (tVar i)) (cl : Cls X.K C) (na : NoAttr X.K C f) (hb : attributeBase (.Name x px) f X.env (eval (.Name x px) X.env) = eval (.Name x px) X.env) : PE X (.Attribute (.Name x px) f pos) (LE X.K c W (fldO C i f)) :=
  PE_imp (pe_fld he hb) fun σ H Q ⟨δ, tmp, Qd, Ed, ⟨F, ow, S⟩, ⟨fs, d, ei, el, q⟩, k, w⟩ => by
    obtain ⟨v, e1, p, rfl, _, _, _, dx, vs, ep, r⟩ := S.sl _ _ ei
    obtain ⟨u, e2, ru⟩ := (RepF.lookup r).2 d el
    exact ⟨_, e1, p, C, dx, vs, u, rfl, ep, cl, na, e2, k _ _ _ _ q ⟨F, ow, S.push ru⟩⟩
def putD (f : Str) (d : D) : List (Str × D) → List (Str × D)
  | [] => [(f, d)]
  | (g, x) :: r => if g = f then (g, d) :: r else (g, x) :: putD f d r
theorem RepF.put {K : PySem.W.Frag} {F : Hp} {f : Str} {v : V} {d : D} (h : Rep K F v d) : ∀ {vs : List (Str × V)} {fs : List (Str × D)}, RepF K F vs fs → RepF K F (putF f v vs) (putD f d fs)
  | _, _, .nil => .cons h .nil
  | _, _, .cons (n := n) a t => by
    unfold putF putD
    by_cases e : n = f
    · rw [if_pos e, if_pos e]; exact .cons h t
    · rw [if_neg e, if_neg e]; exact .cons a (t.put h)
theorem RepF.length {K : PySem.W.Frag} {F : Hp} : ∀ {vs : List (Str × V)} {fs : List (Str × D)}, RepF K F vs fs → vs.length = fs.length
  | _, _, .nil => rfl
  | _, _, .cons _ t => congrArg (· + 1) t.length
def fldSet (C : Addr) (i : Nat) (f : Str) (t : TD) : TDS := fun D δ => t δ (fun y δ1 => ∃ fs, δ1[i]? = some (some (.own (.ins C fs))) ∧ fs.length < 1000 ∧ D.nx (δ1.set i (some (.own (.ins C (putD f y.toD fs)))))) D.ex
theorem psd_fld {i : Nat} {x : Str} {C : Addr} {f : Str} {value : Expr} {t : TD} {pos px pos' : Pos} (he : PE X (.Name x px) (tVar i)) (hv : PE X value (LE X.K c W t)) (cl : Cls X.K C) (na : NoAttr X.K C f) (hs : swapsWith value (some (.Attribute (.Name x px) f pos')) pos.line X.env = pure false) :
    PS X (.Assign [.Attribute (.Name x px) f pos'] value pos) (LS X.K c W (fldSet C i f t)) :=
  PS_imp (ps_fld he hv hs) fun D σ H ⟨δ, tmp, Dd, S, q, k, kr, kb, kc, w⟩ => ⟨δ, tmp, _, _, S, q, fun v y δ1 H1 ⟨fs, ei, lf, q'⟩ ⟨F, ow, S1⟩ => by
    obtain ⟨F2, S2, _⟩ := S1.top_frz
    obtain ⟨u, e1, p, rfl, _, _, _, dx, vs, ep, r⟩ := S2.sl _ _ ei
    refine ⟨_, e1, p, C, dx, vs, rfl, ep, cl, na, by rw [r.length]; exact lf, k _ _ _ q' ⟨F2, ow, S2.pop.write ei e1 ⟨dx, _, upd_same, r.put S2.top⟩⟩⟩, w⟩
end
end DL

set_option Elab.async false
set_option linter.all false
set_option maxRecDepth 100000
namespace DL
open PySem PySem.Spec PyProof.Rows L2
/-! ### scalars -/
def D.sc : D → Option V
  | .non => some .non
  | .bl b => some (.bl b)
  | .int i => some (.int i)
  | .str x => some (.str x)
  | _ => none
section
variable {K : PySem.W.Frag} {F F' H H' : Hp} {v : V} {d : D}
theorem Rep.sc (r : Rep K F v d) {x : V} (e : d.sc = some x) : v = x := by
  cases r <;> (first | (cases e; rfl) | cases e)
theorem made_d (s : Same F H) (r : Rep K F v d) : Made K F H F H v (.d d) := .d (Ext.refl s) r
/-! ### two operands -/
theorem op2_I0 {g : Int → Int → V} {gd : Int → Int → D} (h : ∀ i j F, Rep K F (g i j) (gd i j)) : Op2 K (rI0 g) (fun a b Q => ∃ i j, a = .int i ∧ b = .int j ∧ Q (.d (gd i j))) := fun x y a b F H Q Qd s rx ry ⟨i, j, e1, e2, q⟩ k => by
  subst e1 e2
  cases rx; cases ry
  exact ⟨i, j, rfl, rfl, k _ _ F H q (made_d s (h i j F))⟩
theorem op2_I {C : Int → Int → Prop} {g : Int → Int → V} {gd : Int → Int → D} (h : ∀ i j F, Rep K F (g i j) (gd i j)) : Op2 K (rI C g) (fun a b Q => ∃ i j, a = .int i ∧ b = .int j ∧ C i j ∧ Q (.d (gd i j))) := fun x y a b F H Q Qd s rx ry ⟨i, j, e1, e2, c, q⟩ k => by
  subst e1 e2
  cases rx; cases ry
  exact ⟨i, j, rfl, rfl, c, k _ _ F H q (made_d s (h i j F))⟩
/-- operations whose answer is a bool or an int, that make nothing -/
abbrev RD2s := D → D → (D → Prop) → Prop
def Op2s (K : PySem.W.Frag) (r : R2) (rd : RD2s) : Prop := ∀ x y a b F H Q Qd, Same F H → Rep K F x a → Rep K F y b → rd a b Qd → (∀ v z, Qd z → z.sc = some v → Q v H) → r x y H Q
theorem sc_rep {K : PySem.W.Frag} {F : Hp} {v : V} {z : D} (hs : ∀ x, z = .str x → PyData.strOk x = true) (e : z.sc = some v) : Rep K F v z := by
  cases z <;> (first | (cases e; first | exact .non | exact .bl _ | exact .int _ | exact .str (hs _ rfl)) | cases e)
def NoStr (z : D) : Prop := ∀ x, z = .str x → PyData.strOk x = true
theorem Op2s.op {r : R2} {rd : RD2s} (h : Op2s K r rd) : Op2 K r (fun a b Q => rd a b fun z => NoStr z ∧ Q (.d z)) := fun x y a b F H Q Qd s rx ry q k =>
  h x y a b F H Q _ s rx ry q fun v z ⟨n, qz⟩ e => k v _ F H qz (made_d s (sc_rep n e))
abbrev eqS (neg : Bool) : RD2s := fun a b Q => ∃ x y, a.sc = some x ∧ b.sc = some y ∧ scal x y = true ∧ Q (.bl (if neg then !decide (x = y) else decide (x = y)))
theorem op2_eq : Op2s K rEq (eqS false) := fun x y a b F H Q Qd s rx ry ⟨u, w, e1, e2, c, q⟩ k => by
  cases rx.sc e1; cases ry.sc e2
  exact ⟨c, k _ _ q rfl⟩
theorem op2_ne : Op2s K rNe (eqS true) := fun x y a b F H Q Qd s rx ry ⟨u, w, e1, e2, c, q⟩ k => by
  cases rx.sc e1; cases ry.sc e2
  exact ⟨c, k _ _ q rfl⟩
/-! == of data -/
mutual
def D.isPy : D → Bool
  | .non => true | .bl _ => true | .int _ => true | .str _ => true
  | .lst xs => isPyL xs | .ro xs => isPyL xs | .tup xs => isPyL xs | .rot xs => isPyL xs | .ktp xs => isPyL xs
  | _ => false
def isPyL : List D → Bool
  | [] => true
  | d :: ds => d.isPy && isPyL ds
end
mutual
def D.py : D → PyData
  | .non => .none | .bl b => .bool b | .int i => .int i | .str x => .str x
  | .lst xs => .list (pyL xs) | .ro xs => .list (pyL xs) | .tup xs => .tuple (pyL xs) | .rot xs => .tuple (pyL xs) | .ktp xs => .tuple (pyL xs)
  | _ => .none
def pyL : List D → List PyData
  | [] => []
  | d :: ds => d.py :: pyL ds
end
mutual
theorem Rep.dp : ∀ {v : V} {d : D}, Rep K F v d → d.isPy = true → Dp K F v d.py
  | _, _, .non, _ => .non
  | _, _, .bl b, _ => .bl b
  | _, _, .int i, _ => .int i
  | _, _, .str _, _ => .str _
  | _, _, .ty _, h => nomatch h
  | _, _, .adr _, h => nomatch h
  | _, _, .lst s r, h => .lst (SqL.of s) (r.dp h)
  | _, _, .ro s r, h => .lst s (r.dp h)
  | _, _, .tup s r, h => .tup (SqT.of s) (r.dp h)
  | _, _, .rot s _ _ r, h => .tup (.inl (.inr ⟨_, s⟩)) (r.dp h)
  | _, _, .ktp s r, h => .tup s (r.dp h)
  | _, _, .obj _ _, h => nomatch h
  | _, _, .dT _ _, h => nomatch h
  | _, _, .dK _ _, h => nomatch h
  | _, _, .exc0, h => nomatch h
  | _, _, .exc _ _, h => nomatch h
  | _, _, .gho _, h => nomatch h
  | _, _, .lkd _ _, h => nomatch h
theorem RepL.dp : ∀ {vs : List V} {ds : List D}, RepL K F vs ds → isPyL ds = true → DpAll K F vs (pyL ds)
  | _, _, .nil, _ => .nil
  | _, _, .cons r t, h => .cons (r.dp (Bool.and_eq_true _ _ ▸ h).1) (t.dp (Bool.and_eq_true _ _ ▸ h).2)
end
mutual
theorem Rep.lay : ∀ {v : V} {d : D}, Rep K F v d → d.isPy = true → d.py.canLay0 = true
  | _, _, .non, _ => by simp only [D.py, PyData.canLay0]
  | _, _, .bl b, _ => by simp only [D.py, PyData.canLay0]
  | _, _, .int i, _ => by simp only [D.py, PyData.canLay0]
  | _, _, .str k, _ => by simp only [D.py, PyData.canLay0]; exact k
  | _, _, .ty _, h => nomatch h
  | _, _, .adr _, h => nomatch h
  | _, _, .lst s r, h => by simp only [D.py, PyData.canLay0]; exact r.lay h
  | _, _, .ro s r, h => by simp only [D.py, PyData.canLay0]; exact r.lay h
  | _, _, .tup s r, h => by simp only [D.py, PyData.canLay0]; exact r.lay h
  | _, _, .rot s _ _ r, h => by simp only [D.py, PyData.canLay0]; exact r.lay h
  | _, _, .ktp s r, h => by simp only [D.py, PyData.canLay0]; exact r.lay h
  | _, _, .obj _ _, h => nomatch h
  | _, _, .dT _ _, h => nomatch h
  | _, _, .dK _ _, h => nomatch h
  | _, _, .exc0, h => nomatch h
  | _, _, .exc _ _, h => nomatch h
  | _, _, .gho _, h => nomatch h
  | _, _, .lkd _ _, h => nomatch h
theorem RepL.lay : ∀ {vs : List V} {ds : List D}, RepL K F vs ds → isPyL ds = true → PyData.canLayAll0 (pyL ds) = true
  | _, _, .nil, _ => by simp only [pyL, PyData.canLayAll0]
  | _, _, .cons r t, h => by
    simp only [pyL, PyData.canLayAll0]
    rw [r.lay (Bool.and_eq_true _ _ ▸ h).1, t.lay (Bool.and_eq_true _ _ ▸ h).2]
    rfl
end
mutual
theorem dp_mono (e : Same F F') : ∀ {v : V} {d : PyData}, Dp K F v d → Dp K F' v d
  | _, _, .non => .non
  | _, _, .bl b => .bl b
  | _, _, .int i => .int i
  | _, _, .str x => .str x
  | _, _, .lst s h => .lst (e.seq s) (dpAll_mono e h)
  | _, _, .tup s h => .tup (sqt_mono e s) (dpAll_mono e h)
theorem dpAll_mono (e : Same F F') : ∀ {v : List V} {d : List PyData}, DpAll K F v d → DpAll K F' v d
  | _, _, .nil => .nil
  | _, _, .cons h t => .cons (dp_mono e h) (dpAll_mono e t)
end
/-- data that may be compared -/
def Cmp (d : D) : Prop := d.isPy = true ∧ d.py.depth ≤ 64
theorem Rep.shp (r : Rep K F v d) (c : Cmp d) : SeqAt.shaped d.py = true := by
  unfold SeqAt.shaped
  rw [r.lay c.1, decide_eq_true c.2]
  rfl
abbrev eqP (neg : Bool) : RD2s := fun a b Q => Cmp a ∧ Cmp b ∧ Q (.bl (if neg then !PyData.eqv a.py b.py else PyData.eqv a.py b.py))
theorem op2_eqD : Op2s K (rEqD K) (eqP false) := fun x y a b F H Q Qd s rx ry ⟨c1, c2, q⟩ k =>
  ⟨a.py, b.py, dp_mono s (rx.dp c1.1), dp_mono s (ry.dp c2.1), rx.shp c1, ry.shp c2, k _ _ q rfl⟩
theorem op2_neD : Op2s K (rNeD K) (eqP true) := fun x y a b F H Q Qd s rx ry ⟨c1, c2, q⟩ k =>
  ⟨a.py, b.py, dp_mono s (rx.dp c1.1), dp_mono s (ry.dp c2.1), rx.shp c1, ry.shp c2, k _ _ q rfl⟩
/-! ### rows -/
/-- the items of a row -/
def D.its : D → Option (List D)
  | .lst xs => some xs
  | .ro xs => some xs
  | .tup xs => some xs
  | .rot xs => some xs
  | .ktp xs => some xs
  | _ => none
theorem Rep.row {xs : List D} (r : Rep K F v d) (e : d.its = some xs) : ∃ p vs, v = .ref p ∧ (SqL K F p vs ∨ SqT K F p vs) ∧ RepL K F vs xs := by
  cases r <;> (first | (cases e; first | exact ⟨_, _, rfl, .inl (SqL.of ‹_›), ‹_›⟩ | exact ⟨_, _, rfl, .inl ‹_›, ‹_›⟩ | exact ⟨_, _, rfl, .inr (SqT.of ‹_›), ‹_›⟩ | exact ⟨_, _, rfl, .inr ‹_›, ‹_›⟩ | exact ⟨_, _, rfl, .inr (.inl (.inr ⟨_, ‹_›⟩)), ‹_›⟩) | cases e)
theorem RepL.len : ∀ {vs : List V} {ds : List D}, RepL K F vs ds → vs.length = ds.length
  | _, _, .nil => rfl
  | _, _, .cons _ t => congrArg (· + 1) t.len
theorem RepL.get : ∀ {vs : List V} {ds : List D} {i : Nat} {d : D}, RepL K F vs ds → ds[i]? = some d → ∃ v, vs[i]? = some v ∧ Rep K F v d
  | _, _, 0, _, .cons h _, e => by cases e; exact ⟨_, rfl, h⟩
  | _, _, i + 1, _, .cons _ t, e => t.get (i := i) e
theorem RepL.app : ∀ {vs ws : List V} {ds es : List D}, RepL K F vs ds → RepL K F ws es → RepL K F (vs ++ ws) (ds ++ es)
  | _, _, _, _, .nil, h => h
  | _, _, _, _, .cons a t, h => .cons a (t.app h)
theorem RepL.set {v : V} {d : D} (r : Rep K F v d) : ∀ {vs : List V} {ds : List D} (i : Nat), RepL K F vs ds → RepL K F (vs.set i v) (ds.set i d)
  | _, _, _, .nil => .nil
  | _, _, 0, .cons _ t => .cons r t
  | _, _, i + 1, .cons a t => .cons a (t.set r i)
theorem RepL.take : ∀ {vs : List V} {ds : List D} (i : Nat), RepL K F vs ds → RepL K F (vs.take i) (ds.take i)
  | _, _, 0, _ => .nil
  | _, _, _ + 1, .nil => .nil
  | _, _, i + 1, .cons a t => .cons a (t.take i)
theorem RepL.drop : ∀ {vs : List V} {ds : List D} (i : Nat), RepL K F vs ds → RepL K F (vs.drop i) (ds.drop i)
  | _, _, 0, h => h
  | _, _, _ + 1, .nil => .nil
  | _, _, i + 1, .cons a t => t.drop i
theorem RepL.ats {vs : List V} {ds : List D} {i : Int} (h : RepL K F vs ds) (e : atI ds i = some d) : ∃ v, atI vs i = some v ∧ Rep K F v d := by
  unfold atI at e ⊢
  rw [h.len]
  cases q : ixN ds.length i with
  | none => rw [q] at e; cases e
  | some j => rw [q] at e; exact h.get e
def cutD (xs : List D) (lo hi : Option Int) : List D := (xs.drop (HT.sIx xs.length 0 lo)).take (HT.sIx xs.length xs.length hi - HT.sIx xs.length 0 lo)
theorem RepL.cut {vs : List V} {ds : List D} (lo hi : Option Int) (h : RepL K F vs ds) : RepL K F (cutV vs lo hi) (cutD ds lo hi) := by
  unfold cutV cutD
  rw [h.len]
  exact (h.drop _).take _
/-- rows of scalars -/
def scL : List D → Option (List V)
  | [] => some []
  | d :: ds => match d.sc, scL ds with
    | some v, some vs => some (v :: vs)
    | _, _ => none
theorem RepL.sc : ∀ {vs ws : List V} {ds : List D}, RepL K F vs ds → scL ds = some ws → vs = ws
  | _, _, _, .nil, e => by cases e; rfl
  | _, _, _, .cons (d := d) (ds := ds) r t, e => by
    unfold scL at e
    cases q : d.sc with
    | none => rw [q] at e; cases e
    | some v =>
      cases q2 : scL ds with
      | none => rw [q, q2] at e; cases e
      | some ws =>
        rw [q, q2] at e
        cases e
        rw [r.sc q, t.sc q2]
theorem sq_mono {F H : Hp} {p : Addr} {vs : List V} (s : Same F H) (h : SqL K F p vs ∨ SqT K F p vs) : SqL K H p vs ∨ SqT K H p vs := h.imp (fun h => s.seq h) fun h => sqt_mono s h
/-- x in row, of scalars -/
abbrev inS (neg : Bool) : RD2s := fun a b Q => ∃ x xs ys, a.sc = some x ∧ b.its = some xs ∧ scL xs = some ys ∧ Q (.bl (if neg then !inV x ys else inV x ys))
theorem sc_flat : ∀ {d : D} {x : V}, d.sc = some x → flatV x = true := fun {d x} e => by cases d <;> (first | (cases e; rfl) | cases e)
theorem scL_flat : ∀ {ds : List D} {ys : List V}, scL ds = some ys → ys.all flatV = true
  | [], _, e => by cases e; rfl
  | d :: ds, _, e => by
    unfold scL at e
    cases q : d.sc with
    | none => rw [q] at e; cases e
    | some v =>
      cases q2 : scL ds with
      | none => rw [q, q2] at e; cases e
      | some ws =>
        rw [q, q2] at e
        cases e
        rw [List.all_cons, sc_flat q, scL_flat q2]
        rfl
theorem op2_in (neg : Bool) : Op2s K (rIn K neg) (inS neg) := fun x y a b F H Q Qd s rx ry ⟨u, xs, ys, e1, e2, e3, q⟩ k => by
  cases rx.sc e1
  obtain ⟨p, vs, rfl, h, r⟩ := ry.row e2
  cases r.sc e3
  exact ⟨p, _, rfl, sq_mono s h, sc_flat e1, scL_flat e3, k _ _ q rfl⟩
/-- a sign in a text -/
abbrev inSign (neg : Bool) : RD2s := fun a b Q => ∃ (c : Nat) (z : Str), a = .str ⟨#[c]⟩ ∧ b = .str z ∧ Q (.bl (if neg then !decide (c ∈ z.cps.toList) else decide (c ∈ z.cps.toList)))
theorem op2_inSign : Op2s K (fun x y H Q => ∃ (c : Nat) (z : Str), x = .str ⟨#[c]⟩ ∧ y = .str z ∧ Q (.bl (decide (c ∈ z.cps.toList))) H) (inSign false) := fun x y a b F H Q Qd s rx ry ⟨c, z, e1, e2, q⟩ k => by
  subst e1 e2
  cases rx; cases ry
  exact ⟨c, z, rfl, rfl, k _ _ q rfl⟩
/-! what makes something new -/
theorem strOk_app {x y : Str} (h1 : PyData.strOk x = true) (h2 : PyData.strOk y = true) : PyData.strOk (x ++ y) = true := by
  unfold PyData.strOk at *
  show ((x.cps ++ y.cps).all _) = true
  rw [Array.all_append, h1, h2]
  rfl
theorem op2_addS : Op2 K (fun x y H Q => ∃ i j, x = .str i ∧ y = .str j ∧ i.length + j.length ≤ sizeLine ∧ Q (.str (i ++ j)) H) (fun a b Q => ∃ i j, a = .str i ∧ b = .str j ∧ i.length + j.length ≤ sizeLine ∧ Q (.d (.str (i ++ j)))) := fun x y a b F H Q Qd s rx ry ⟨i, j, e1, e2, z, q⟩ k => by
  subst e1 e2
  cases rx with
  | str k1 =>
    cases ry with
    | str k2 => exact ⟨i, j, rfl, rfl, z, k _ _ F H q (made_d s (.str (strOk_app k1 k2)))⟩
theorem made_list {p : Addr} {vs : List V} {ds : List D} (n : H p = none) (s : Same F H) (r : RepL K F vs ds) : Made K F H F (upd H p (.lst vs)) (.ref p) (.own (.lst ds)) := .own (ob := .lst vs) rfl n rfl rfl ⟨vs, upd_same, r⟩
theorem made_tup {p : Addr} {vs : List V} {ds : List D} (n : H p = none) (s : Same F H) (r : RepL K F vs ds) : Made K F H (upd F p (.tup vs)) (upd H p (.tup vs)) (.ref p) (.d (.tup ds)) :=
  .d (Ext.new s n) (.tup upd_same (r.mono (same_upd (Same.refl F) (s.free n))))
theorem op2_cat : Op2 K rCat (fun a b Q => ∃ xs ys, a = .lst xs ∧ b = .lst ys ∧ xs.length + ys.length ≤ sizeLine ∧ Q (.own (.lst (xs ++ ys)))) := fun x y a b F H Q Qd s rx ry ⟨xs, ys, e1, e2, z, q⟩ k => by
  subst e1 e2
  cases rx with
  | lst s1 r1 =>
    cases ry with
    | lst s2 r2 => exact ⟨_, _, _, _, rfl, rfl, s _ _ s1, s _ _ s2, by rw [r1.len, r2.len]; exact z, fun p n => k _ _ _ _ q (made_list n s (r1.app r2))⟩
/-! ### an item -/
abbrev ixD : RD2 := fun a b Q => ∃ i, b = .int i ∧ ((∃ xs d, (a = .lst xs ∨ a = .ro xs) ∧ atI xs i = some d ∧ Q (.d d)))
theorem op2_ixL : Op2 K (rIxL K) ixD := fun x y a b F H Q Qd s rx ry ⟨i, e, xs, d, ha, at', q⟩ k => by
  subst e
  cases ry
  rcases ha with rfl | rfl
  · cases rx with
    | lst s1 r1 => obtain ⟨v, e1, r⟩ := r1.ats at'; exact ⟨_, _, i, v, rfl, rfl, s.seq (SqL.of s1), e1, k _ _ _ _ q (made_d s r)⟩
  · cases rx with
    | ro s1 r1 => obtain ⟨v, e1, r⟩ := r1.ats at'; exact ⟨_, _, i, v, rfl, rfl, s.seq s1, e1, k _ _ _ _ q (made_d s r)⟩
theorem op2_ixT : Op2 K (rIxT K) (fun a b Q => ∃ xs i d, a = .tup xs ∧ b = .int i ∧ atI xs i = some d ∧ Q (.d d)) := fun x y a b F H Q Qd s rx ry ⟨xs, i, d, e1, e2, at', q⟩ k => by
  subst e1 e2
  cases ry
  cases rx with
  | tup s1 r1 => obtain ⟨v, e1, r⟩ := r1.ats at'; exact ⟨_, _, i, v, rfl, rfl, SqT.of (s _ _ s1), e1, k _ _ _ _ q (made_d s r)⟩
theorem strOk_one {z : Str} {c : Nat} (h : PyData.strOk z = true) (e : c ∈ z.cps.toList) : PyData.strOk ⟨#[c]⟩ = true := by
  unfold PyData.strOk at *
  rw [Array.all_eq_true] at h
  obtain ⟨i, hi, rfl⟩ := List.mem_iff_getElem.mp e
  have := h i (by simpa using hi)
  simpa using this
theorem op2_ixS : Op2 K rIxS (fun a b Q => ∃ z i c, a = .str z ∧ b = .int i ∧ z.length ≤ sizeLine ∧ atI z.cps.toList i = some c ∧ Q (.d (.str ⟨#[c]⟩))) := fun x y a b F H Q Qd s rx ry ⟨z, i, c, e1, e2, hz, at', q⟩ k => by
  subst e1 e2
  cases ry
  cases rx with
  | str k1 =>
    refine ⟨z, i, c, rfl, rfl, hz, at', k _ _ _ _ q (made_d s (.str (strOk_one k1 ?_)))⟩
    unfold atI at at'
    cases q : ixN z.cps.toList.length i with
    | none => rw [q] at at'; cases at'
    | some j => rw [q] at at'; exact List.mem_of_getElem? at'
end
section
variable {X : Cx} {c : Fc} {W : WX}
theorem pd_ix {a b : Expr} {r : R2} {rd : RD2} {ta tb : TD} {pos : Pos} (ho : IxR X r) (hd : Op2 X.K r rd) (ha : PE X a (LE X.K c W ta)) (hb : PE X b (LE X.K c W tb)) (hs : PlainIx b) : PE X (.Subscript a b pos) (LE X.K c W (opD rd ta tb)) :=
  PE_imp (pe_ix ho ha hb hs) (lift_op hd)
/-- of an own list in slot i -/
def ixO (i : Nat) (t : TD) : TD := fun δ Q E => ∃ o, δ[i]? = some (some (.own o)) ∧ t δ (fun k δ1 => ∃ xs j d, δ1[i]? = some (some (.own (.lst xs))) ∧ k.toD = .int j ∧ atI xs j = some d ∧ Q (.d d) δ1) E
theorem pd_ixO {i : Nat} {x : Str} {b : Expr} {t : TD} {pos px : Pos} (ha : PE X (.Name x px) (tVar i)) (hb : PE X b (LE X.K c W t)) (hs : PlainIx b) : PE X (.Subscript (.Name x px) b pos) (LE X.K c W (ixO i t)) :=
  PE_imp (pe_ix ix_list ha hb hs) fun σ H Q ⟨δ, tmp, Qd, Ed, ⟨F, ow, S⟩, ⟨o, eo, q⟩, k, w⟩ => by
    obtain ⟨v, e1, p, rfl, _⟩ := S.sl _ _ eo
    refine ⟨_, e1, δ, tmp, _, Ed, ⟨F, ow, S⟩, q, fun u y δ1 H1 ⟨xs, j, d, ei, ej, ed, q1⟩ ⟨F1, ow1, S1⟩ => ?_, w⟩
    obtain ⟨F2, S2, _⟩ := S1.top_frz
    obtain ⟨v', e2, p', rfl, _, _, _, vs, ep, r⟩ := S2.sl _ _ ei
    rw [e1] at e2
    cases e2
    rw [ej] at S2
    obtain ⟨z, ez, rz⟩ := r.ats ed
    cases S2.top
    exact ⟨p, vs, j, z, rfl, rfl, SqL.of ep, ez, k _ _ _ _ q1 ⟨F2, ow1, S2.pop.push rz⟩⟩
/-! ### built-ins -/
abbrev RDN := List D → (DV → Prop) → Prop
abbrev RDNs := List D → (D → Prop) → Prop
def CallN (K : PySem.W.Frag) (r : List V → Hp → VK → Prop) (rd : RDN) : Prop := ∀ xs ds F H Q Qd, Same F H → RepL K F xs ds → rd ds Qd → (∀ v dv F' H', Qd dv → Made K F H F' H' v dv → Q v H') → r xs H Q
def CallNs (K : PySem.W.Frag) (r : List V → Hp → VK → Prop) (rd : RDNs) : Prop := ∀ xs ds F H Q Qd, Same F H → RepL K F xs ds → rd ds Qd → (∀ v z, Qd z → z.sc = some v → Q v H) → r xs H Q
theorem CallNs.op {K : PySem.W.Frag} {r : List V → Hp → VK → Prop} {rd : RDNs} (h : CallNs K r rd) : CallN K r (fun ds Q => rd ds fun z => NoStr z ∧ Q (.d z)) := fun xs ds F H Q Qd s rx q k =>
  h xs ds F H Q _ s rx q fun v z ⟨n, qz⟩ e => k v _ F H qz (made_d s (sc_rep n e))
def builtD (rd : RDN) (ta : TDA) : TD := fun δ Q E => ta δ (fun as δ1 => ∃ ds, as = ds.map .d ∧ rd ds fun z => Q z δ1) E
theorem args_d {K : PySem.W.Frag} {F : Hp} {σ : L2.St} : ∀ {ds : List D} {vs : List V}, RepArgs K F σ vs (ds.map .d) → RepL K F vs ds
  | [], _, .nil => .nil
  | _ :: _, _, .d h t => .cons h (args_d t)
theorem lift_built {r : List V → Hp → VK → Prop} {rd : RDN} {ta : TDA} {K : PySem.W.Frag} (hd : CallN K r rd) : ∀ σ H Q, LE K c W (builtD rd ta) σ H Q → tCB r (LA K c W ta) σ H Q := fun σ H Q ⟨δ, tmp, Qd, Ed, S, t, k, w⟩ =>
  ⟨δ, tmp, _, Ed, S, t, fun vs as δ1 F ow H1 ⟨ds, e, q⟩ S1 ra => by
    subst e
    exact hd _ _ F H1 Q _ S1.fh (args_d ra) q fun v dv F' H' q' m => k _ _ _ _ q' (m.stt S1), w⟩
theorem pd_builtB {x : Str} {e : Expr} {es : List Expr} {p pos : Pos} {r : List V → Hp → VK → Prop} {rd : RDN} {ta : TDA} (h : ∀ {t : TA}, PA X (e :: es) t → PE X (.Call (.Name x p) (e :: es) [] pos) (tCB r t)) (hd : CallN X.K r rd) (ha : PA X (e :: es) (LA X.K c W ta)) :
    PE X (.Call (.Name x p) (e :: es) [] pos) (LE X.K c W (builtD rd ta)) := PE_imp (h ha) (lift_built hd)
end
section
variable {K : PySem.W.Frag} {F F' H H' : Hp} {v : V} {d : D}
abbrev lenS : RDNs := fun ds Q => ∃ a xs, ds = [a] ∧ a.its = some xs ∧ Q (.int xs.length)
theorem cn_len : CallNs K (fun xs H Q => ∃ p ys, xs = [.ref p] ∧ (SqL K H p ys ∨ SqT K H p ys) ∧ Q (.int ys.length) H) lenS := fun xs ds F H Q Qd s r ⟨a, ys, e1, e2, q⟩ k => by
  subst e1
  cases r with
  | cons r t =>
    cases t
    obtain ⟨p, vs, rfl, h, r2⟩ := r.row e2
    rw [← r2.len] at q
    exact ⟨p, vs, rfl, sq_mono s h, k _ _ q rfl⟩
abbrev lenStr : RDNs := fun ds Q => ∃ z, ds = [.str z] ∧ z.length ≤ sizeLine ∧ Q (.int z.length)
theorem cn_lenS : CallNs K (fun xs H Q => ∃ z, xs = [.str z] ∧ z.length ≤ sizeLine ∧ Q (.int z.length) H) lenStr := fun xs ds F H Q Qd s r ⟨z, e1, hz, q⟩ k => by
  subst e1
  cases r with
  | cons r t => cases t; cases r; exact ⟨z, rfl, hz, k _ _ q rfl⟩
abbrev int1S : RDNs := fun ds Q => ∃ i, ds = [.int i] ∧ Q (.int i)
theorem cn_int : CallNs K (fun xs H Q => (∃ i, xs = [.int i] ∧ Q (.int i) H) ∨ ∃ k, xs = [.bl k] ∧ Q (.int (if k then 1 else 0)) H) int1S := fun xs ds F H Q Qd s r ⟨i, e1, q⟩ k => by
  subst e1
  cases r with
  | cons r t => cases t; cases r; exact .inl ⟨i, rfl, k _ _ q rfl⟩
abbrev absS : RDNs := fun ds Q => ∃ i, ds = [.int i] ∧ Q (.int (if i < 0 then -i else i))
theorem cn_abs : CallNs K (fun xs H Q => ∃ i, xs = [.int i] ∧ Q (.int (if i < 0 then -i else i)) H) absS := fun xs ds F H Q Qd s r ⟨i, e1, q⟩ k => by
  subst e1
  cases r with
  | cons r t => cases t; cases r; exact ⟨i, rfl, k _ _ q rfl⟩
abbrev two (f : Int → Int → Int) : RDNs := fun ds Q => ∃ i j, ds = [.int i, .int j] ∧ Q (.int (f i j))
theorem cn_two {f : Int → Int → Int} : CallNs K (fun xs H Q => ∃ i j, xs = [.int i, .int j] ∧ Q (.int (f i j)) H) (two f) := fun xs ds F H Q Qd s r ⟨i, j, e1, q⟩ k => by
  subst e1
  cases r with
  | cons r t =>
    cases t with
    | cons r2 t => cases t; cases r; cases r2; exact ⟨i, j, rfl, k _ _ q rfl⟩
theorem repL_map {f : α → V} {g : α → D} (h : ∀ {F v a}, Rep K F v (g a) → v = f a) : ∀ {l : List α} {vs : List V}, RepL K F vs (l.map g) → vs = l.map f
  | [], _, .nil => rfl
  | a :: l, _, .cons r t => by rw [h r, repL_map h t]; rfl
theorem repL_int {l : List Int} {vs : List V} (r : RepL K F vs (l.map .int)) : vs = l.map V.int := repL_map (fun r => by cases r; rfl) r
theorem repL_bl {l : List Bool} {vs : List V} (r : RepL K F vs (l.map .bl)) : vs = l.map V.bl := repL_map (fun r => by cases r; rfl) r
abbrev allS (f : List Bool → Bool) : RDNs := fun ds Q => ∃ bs, (ds = [.lst (bs.map .bl)] ∨ ds = [.ro (bs.map .bl)]) ∧ Q (.bl (f bs))
theorem rep_lst {p : V} {xs : List D} (s : Same F H) (h : ([.lst xs] = ds) ∨ ([.ro xs] = ds)) {vs : List V} (r : RepL K F vs ds) : ∃ a ys, vs = [.ref a] ∧ SqL K H a ys ∧ RepL K F ys xs := by
  rcases h with rfl | rfl
  · cases r with
    | cons r t => cases t; cases r with
      | lst s1 r1 => exact ⟨_, _, rfl, s.seq (SqL.of s1), r1⟩
  · cases r with
    | cons r t => cases t; cases r with
      | ro s1 r1 => exact ⟨_, _, rfl, s.seq s1, r1⟩
theorem cn_all : CallNs K (rAll K) (allS fun bs => bs.all id) := fun xs ds F H Q Qd s r ⟨bs, e, q⟩ k => by
  obtain ⟨a, ys, rfl, h, r2⟩ := rep_lst (p := .non) s (e.imp Eq.symm Eq.symm) r
  cases repL_bl r2
  exact ⟨a, bs, rfl, h, k _ _ q rfl⟩
abbrev sumS : RDNs := fun ds Q => ∃ ns : List Int, (ds = [.lst (ns.map .int)] ∨ ds = [.ro (ns.map .int)]) ∧ Q (.int ns.sum)
theorem cn_sum : CallNs K (rSum K) sumS := fun xs ds F H Q Qd s r ⟨bs, e, q⟩ k => by
  obtain ⟨a, ys, rfl, h, r2⟩ := rep_lst (p := .non) s (e.imp Eq.symm Eq.symm) r
  cases repL_int r2
  exact ⟨a, bs, rfl, h, k _ _ q rfl⟩
/-- isinstance -/
inductive ClsD : D → Value → Prop where
  | ty (n : String) : ClsD (.ty n) (.type n)
  | own (C : Addr) : ClsD (.adr C) (.ref C)
inductive TyD (K : PySem.W.Frag) : D → Value → Prop where
  | non : TyD K .non (.type "NoneType")
  | bl (b : Bool) : TyD K (.bl b) (.type "bool")
  | int (i : Int) : TyD K (.int i) (.type "int")
  | str (x : Str) : TyD K (.str x) (.type "str")
  | lst (xs : List D) : TyD K (.lst xs) (.type "list")
  | tup (xs : List D) : TyD K (.tup xs) (.type "tuple")
  | rot (xs : List D) : TyD K (.rot xs) (.type "tuple")
  | ktp (xs : List D) : TyD K (.ktp xs) (.type "tuple")
  | obj {C : Addr} {fs : List (Str × D)} (cl : Cls K C) (i : SlX.SIsi K C) : TyD K (.obj C fs) (.ref C)
theorem sqt_ty {p : Addr} {vs : List V} (h : SqT K H p vs) : TyX K H (.ref p) (.type "tuple") := by
  rcases h with (h | ⟨o, h⟩) | ⟨o, its, n, e, cl, _⟩
  · exact .base (.tup h)
  · exact .fTuple h
  · exact .kTuple e cl
theorem tyD_x {t : Value} (s : Same F H) (r : Rep K F v d) (h : TyD K d t) : TyX K H v t := by
  cases h with
  | non => cases r; exact .base .non
  | bl b => cases r; exact .base (.bl b)
  | int i => cases r; exact .base (.int i)
  | str x => cases r; exact .base (.str x)
  | lst xs => cases r with | lst s1 _ => exact .base (.lst (s _ _ s1))
  | tup xs => cases r with | tup s1 _ => exact .base (.tup (s _ _ s1))
  | rot xs => cases r with | rot s1 _ _ _ => exact sqt_ty (sqt_mono s (.inl (.inr ⟨_, s1⟩)))
  | ktp xs => cases r with | ktp s1 _ => exact sqt_ty (sqt_mono s s1)
  | obj cl i => cases r with | obj s1 _ => exact .base (.ins (s _ _ s1) cl i.ca i.cn i.ct i.cm)
theorem clsD_v {u : Value} (r : Rep K F v d) (h : ClsD d u) : ClsV v u := by
  cases h with
  | ty n => cases r; exact .ty n
  | own C => cases r; exact .own C
abbrev isiS (K : PySem.W.Frag) : RDNs := fun ds Q => ∃ x c t u b, ds = [x, c] ∧ ClsD c u ∧ TyD K x t ∧ PySem.W.kitOne K t u = some b ∧ Q (.bl b)
theorem cn_isi : CallNs K (rIsi K) (isiS K) := fun xs ds F H Q Qd s r ⟨x, c, t, u, b, e, hc, ht, hk, q⟩ k => by
  subst e
  cases r with
  | cons r t =>
    cases t with
    | cons r2 t => cases t; exact ⟨_, _, _, u, b, rfl, clsD_v r2 hc, tyD_x s r ht, hk, k _ _ q rfl⟩
/-- of several classes -/
inductive ClsDs : List D → List Value → Prop where
  | nil : ClsDs [] []
  | cons {d : D} {u : Value} {ds : List D} {us : List Value} (h : ClsD d u) (t : ClsDs ds us) : ClsDs (d :: ds) (u :: us)
theorem clsDs_v : ∀ {ds : List D} {us : List Value} {vs : List V}, RepL K F vs ds → ClsDs ds us → Paired ClsV vs us
  | _, _, _, .nil, .nil => .nil
  | _, _, _, .cons r t, .cons h u => .cons (clsD_v r h) (clsDs_v t u)
/-- list(row), tuple(row) -/
abbrev listN : RDN := fun ds Q => ∃ a xs, ds = [a] ∧ a.its = some xs ∧ Q (.own (.lst xs))
theorem cn_list : CallN K (fun xs H Q => ∃ p ys, xs = [.ref p] ∧ (SqL K H p ys ∨ SqT K H p ys) ∧ ∀ l, H l = none → Q (.ref l) (upd H l (.lst ys))) listN := fun xs ds F H Q Qd s r ⟨a, ys, e1, e2, q⟩ k => by
  subst e1
  cases r with
  | cons r t =>
    cases t
    obtain ⟨p, vs, rfl, h, r2⟩ := r.row e2
    exact ⟨p, vs, rfl, sq_mono s h, fun l n => k _ _ _ _ q (made_list n s r2)⟩
abbrev tupleN : RDN := fun ds Q => ∃ a xs, ds = [a] ∧ (a = .lst xs ∨ a = .ro xs ∨ a = .tup xs) ∧ Q (.d (.tup xs))
theorem cn_tuple : CallN K (fun xs H Q => ∃ p ys, xs = [.ref p] ∧ ((SqL K H p ys ∧ ∀ l, H l = none → Q (.ref l) (upd H l (.tup ys))) ∨ (SqT K H p ys ∧ Q (.ref p) H))) tupleN := fun xs ds F H Q Qd s r ⟨a, ys, e1, e2, q⟩ k => by
  subst e1
  cases r with
  | cons r t =>
    cases t
    rcases e2 with rfl | rfl | rfl
    · cases r with | lst s1 r1 => exact ⟨_, _, rfl, .inl ⟨s.seq (SqL.of s1), fun l n => k _ _ _ _ q (made_tup n s r1)⟩⟩
    · cases r with | ro s1 r1 => exact ⟨_, _, rfl, .inl ⟨s.seq s1, fun l n => k _ _ _ _ q (made_tup n s r1)⟩⟩
    · cases r with | tup s1 r1 => exact ⟨_, _, rfl, .inr ⟨SqT.of (s _ _ s1), k _ _ _ _ q (made_d s (.tup s1 r1))⟩⟩
end
end DL

set_option Elab.async false
set_option linter.all false
set_option maxRecDepth 100000
namespace DL
open PySem PySem.Spec PyProof.Rows L2
section
variable {X : Cx} {c : Fc} {W : WX}
/-! ### displays, unary, chains, truth -/
def tupD (ta : TDA) : TD := fun δ Q E => ta δ (fun as δ1 => ∃ ds, as = ds.map .d ∧ ds.length ≤ sizeLine ∧ Q (.d (.tup ds)) δ1) E
theorem pd_tup {es : List Expr} {ta : TDA} {k : Nat} {pos : Pos} (h : ∀ {t : TA}, PA X es t → PE X (.Tuple es k pos) (tTup t)) (ha : PA X es (LA X.K c W ta)) : PE X (.Tuple es k pos) (LE X.K c W (tupD ta)) :=
  PE_imp (h ha) fun σ H Q ⟨δ, tmp, Qd, Ed, S, t, k, w⟩ => ⟨δ, tmp, _, Ed, S, t, fun vs as δ1 F ow H1 ⟨ds, e, hz, q⟩ S1 ra => by
    subst e
    have r := args_d ra
    exact ⟨by rw [r.len]; exact hz, fun p n => k _ _ _ _ q ((made_tup n S1.fh r).stt S1)⟩, w⟩
def lstD (ta : TDA) : TD := fun δ Q E => ta δ (fun as δ1 => ∃ ds, as = ds.map .d ∧ ds.length ≤ sizeLine ∧ Q (.own (.lst ds)) δ1) E
theorem pd_lst {es : List Expr} {ta : TDA} {pos : Pos} (h : ∀ {t : TA}, PA X es t → PE X (.List es pos) (tLst t)) (ha : PA X es (LA X.K c W ta)) : PE X (.List es pos) (LE X.K c W (lstD ta)) :=
  PE_imp (h ha) fun σ H Q ⟨δ, tmp, Qd, Ed, S, t, k, w⟩ => ⟨δ, tmp, _, Ed, S, t, fun vs as δ1 F ow H1 ⟨ds, e, hz, q⟩ S1 ra => by
    subst e
    have r := args_d ra
    exact ⟨by rw [r.len]; exact hz, fun p n => k _ _ _ _ q ((made_list n S1.fh r).stt S1)⟩, w⟩
def negD (t : TD) : TD := fun δ Q E => t δ (fun x δ1 => ∃ i, x.toD = .int i ∧ Q (.d (.int (-i))) δ1) E
theorem pd_neg {e : Expr} {t : TD} {pos : Pos} (he : PE X e (LE X.K c W t)) : PE X (.UnaryOp .USub e pos) (LE X.K c W (negD t)) :=
  PE_imp (pe_un un_neg he) fun σ H Q ⟨δ, tmp, Qd, Ed, S, t, k, w⟩ => ⟨δ, tmp, _, Ed, S, t, fun v x δ1 H1 ⟨i, e, q⟩ ⟨F, ow, S1⟩ => by
    obtain ⟨F2, S2, _⟩ := S1.top_frz
    rw [e] at S2
    cases S2.top
    exact ⟨i, rfl, k _ _ _ _ q ⟨F2, ow, S2.pop.push (.int _)⟩⟩, w⟩
def chainD (rd rd' : RD2) (ta tb tc : TD) : TD := fun δ Q E => ta δ (fun x δ1 => tb δ1 (fun y δ2 => rd x.toD y.toD fun z => ∃ k, z = .d (.bl k) ∧ if k = true then tc δ2 (fun w δ3 => rd' y.toD w.toD fun z' => Q z' δ3) E else Q (.d (.bl false)) δ2) E) E
/-- a test whose value is a bool -/
def tvD (t : TD) : TDT := fun δ Q E => boolE t Q E δ
theorem ptd_val {e : Expr} {t : TD} (he : PE X e (LE X.K c W t)) (h : ∀ {t : TE}, PE X e t → PT X e (tB t)) : PT X e (LT X.K c W (tvD t)) :=
  PT_imp (h he) fun σ H Q ⟨δ, tmp, Qd, Ed, S, q, k, w⟩ => ⟨δ, tmp, _, _, S, q, fun v x δ' H' ⟨b, e, q'⟩ ⟨F, ow, S'⟩ => by
    subst e
    cases S'.top
    exact ⟨b, rfl, k _ _ _ q' ⟨F, ow, S'.pop⟩⟩, w⟩
/-! ### what is walked -/
/-- from turn i on the iterator J hands back the items: whatever grows, while src stands for v -/
structure Serve (K : PySem.W.Frag) (J : It) (v : V) (src : D) (items : List D) : Prop where
  go : ∀ (i : Nat) (F H : Hp), Same F H → Rep K F v src → i < items.length → J.go i H
  stop : ∀ (i : Nat) (F H : Hp), Same F H → Rep K F v src → items.length ≤ i → J.stop i H
  yld : ∀ (i : Nat) (F H : Hp) (x : V) (H' : Hp), Same F H → Rep K F v src → J.yld i H x H' → ∀ d, items[i]? = some d → ∃ F', Ext F H F' H' ∧ Rep K F' x d
abbrev TDI := DSt → (List D → DSt → Prop) → XD → Prop
def LI (K : PySem.W.Frag) (c : Fc) (W : WX) (t : TDI) : TI := fun σ H R => ∃ δ tmp Qd Ed, Stt K c δ tmp σ H ∧ t δ Qd Ed ∧ (∀ J v src items δ' H', Qd items δ' → Serve K J v src items → Stt K c δ' ((v, .d src) :: tmp) σ H' → R J H') ∧ WD K c W tmp Ed
theorem PI_imp {tg e : Expr} {t t' : TI} (h : PI X tg e t) (f : ∀ σ H R, t' σ H R → t σ H R) : PI X tg e t' := ⟨fun pins s σ H R I q => h.run pins s σ H R I (f _ _ _ q)⟩
theorem serve_list {K : PySem.W.Frag} {p : Addr} {src : D} {items : List D} (e : src = .lst items ∨ src = .ro items) : Serve K (Itl K p) (.ref p) src items := by
  have sq : ∀ {F H : Hp}, Same F H → Rep K F (.ref p) src → ∃ vs, SqL K H p vs ∧ RepL K F vs items := fun {F H} s r => by
    rcases e with rfl | rfl
    · cases r with | lst s1 r1 => exact ⟨_, s.seq (SqL.of s1), r1⟩
    · cases r with | ro s1 r1 => exact ⟨_, s.seq s1, r1⟩
  refine ⟨fun i F H s r hi => ?_, fun i F H s r hi => ?_, fun i F H x H' s r y d hd => ?_⟩
  · obtain ⟨vs, h, rl⟩ := sq s r
    obtain ⟨v, e, _⟩ := rl.get (List.getElem?_eq_getElem hi)
    exact ⟨vs, v, h, e⟩
  · obtain ⟨vs, h, rl⟩ := sq s r
    exact ⟨vs, h, by rw [rl.len]; exact hi⟩
  · obtain ⟨vs, h, rl⟩ := sq s r
    obtain ⟨rfl, y⟩ := y
    obtain ⟨v, e, rv⟩ := rl.get hd
    rw [y vs h] at e
    cases e
    exact ⟨F, Ext.refl s, rv⟩
theorem serve_tup {K : PySem.W.Frag} {p : Addr} {items : List D} : Serve K (Itt K p) (.ref p) (.tup items) items := by
  have sq : ∀ {F H : Hp}, Same F H → Rep K F (.ref p) (.tup items) → ∃ vs, SqT K H p vs ∧ RepL K F vs items := fun {F H} s r => by
    cases r with | tup s1 r1 => exact ⟨_, SqT.of (s _ _ s1), r1⟩
  refine ⟨fun i F H s r hi => ?_, fun i F H s r hi => ?_, fun i F H x H' s r y d hd => ?_⟩
  · obtain ⟨vs, h, rl⟩ := sq s r
    obtain ⟨v, e, _⟩ := rl.get (List.getElem?_eq_getElem hi)
    exact ⟨vs, v, h, e⟩
  · obtain ⟨vs, h, rl⟩ := sq s r
    exact ⟨vs, h, by rw [rl.len]; exact hi⟩
  · obtain ⟨vs, h, rl⟩ := sq s r
    obtain ⟨rfl, y⟩ := y
    obtain ⟨v, e, rv⟩ := rl.get hd
    rw [y vs h] at e
    cases e
    exact ⟨F, Ext.refl s, rv⟩
def listI (t : TD) : TDI := fun δ Q E => t δ (fun x δ1 => ∃ xs, (x.toD = .lst xs ∨ x.toD = .ro xs) ∧ Q xs δ1) E
def tupI (t : TD) : TDI := fun δ Q E => t δ (fun x δ1 => ∃ xs, x.toD = .tup xs ∧ Q xs δ1) E
def strI (t : TD) : TDI := fun δ Q E => t δ (fun x δ1 => ∃ z, x.toD = .str z ∧ Q (z.cps.toList.map fun ch => .str ⟨#[ch]⟩) δ1) E
theorem pid_list {tg e : Expr} {t : TD} (he : PE X e (LE X.K c W t)) : PI X tg e (LI X.K c W (listI t)) :=
  PI_imp (pi_list he) fun σ H R ⟨δ, tmp, Qd, Ed, S, q, k, w⟩ => ⟨δ, tmp, _, _, S, q, fun v x δ' H' ⟨xs, e, q'⟩ ⟨F, ow, S'⟩ => by
    obtain ⟨F2, S2, _⟩ := S'.top_frz
    obtain ⟨p, vs, rfl, h, r⟩ := S2.top.row (xs := xs) (by rcases e with e | e <;> rw [e] <;> rfl)
    have h' : ∃ xs, SqL X.K H' p xs := by
      have r0 := S2.top
      rcases e with e | e
      · rw [e] at r0; cases r0 with | lst s1 _ => exact ⟨_, S2.fh.seq (SqL.of s1)⟩
      · rw [e] at r0; cases r0 with | ro s1 _ => exact ⟨_, S2.fh.seq s1⟩
    exact ⟨p, rfl, h', k _ _ _ xs _ _ q' (serve_list e) ⟨F2, ow, S2⟩⟩, w⟩
theorem pid_tup {tg e : Expr} {t : TD} (he : PE X e (LE X.K c W t)) : PI X tg e (LI X.K c W (tupI t)) :=
  PI_imp (pi_tup he) fun σ H R ⟨δ, tmp, Qd, Ed, S, q, k, w⟩ => ⟨δ, tmp, _, _, S, q, fun v x δ' H' ⟨xs, e, q'⟩ ⟨F, ow, S'⟩ => by
    obtain ⟨F2, S2, _⟩ := S'.top_frz
    rw [e] at S2
    have r0 := S2.top
    cases r0 with
    | tup s1 _ => exact ⟨_, rfl, ⟨_, SqT.of (S2.fh _ _ s1)⟩, k _ _ _ xs _ _ q' serve_tup ⟨F2, ow, S2⟩⟩, w⟩
theorem pid_str {tg e : Expr} {t : TD} (he : PE X e (LE X.K c W t)) : PI X tg e (LI X.K c W (strI t)) :=
  PI_imp (pi_str he) fun σ H R ⟨δ, tmp, Qd, Ed, S, q, k, w⟩ => ⟨δ, tmp, _, _, S, q, fun v x δ' H' ⟨z, e, q'⟩ ⟨F, ow, S'⟩ => by
    obtain ⟨F2, S2, _⟩ := S'.top_frz
    rw [e] at S2
    have r0 := S2.top
    cases r0 with
    | str k1 =>
      refine ⟨z, rfl, k _ _ _ _ _ _ q' ⟨fun i F H s r hi => ?_, fun i F H s r hi => ?_, fun i F H x H' s r y d hd => ?_⟩ ⟨F2, ow, S2⟩⟩
      · show i < z.cps.size
        simpa using hi
      · show z.cps.size ≤ i
        simpa using hi
      · obtain ⟨rfl, ch, hc, rfl⟩ := y
        have hc' : z.cps.toList[i]? = some ch := by simpa using hc
        rw [List.getElem?_map, hc'] at hd
        cases hd
        exact ⟨F, Ext.refl s, .str (strOk_one k1 (List.mem_of_getElem? hc'))⟩, w⟩
def upto (lo : Int) (n : Nat) : List D := (List.range n).map fun k => .int (lo + (k : Nat))
theorem serve_range {K : PySem.W.Frag} {lo : Int} {n : Nat} {v : V} {src : D} : Serve K (Itr lo n) v src (upto lo n) := by
  have hl : (upto lo n).length = n := by simp [upto]
  refine ⟨fun i F H s r hi => ?_, fun i F H s r hi => ?_, fun i F H x H' s r y d hd => ?_⟩
  · rw [hl] at hi; exact hi
  · rw [hl] at hi; exact hi
  · obtain ⟨rfl, rfl⟩ := y
    unfold upto at hd
    rw [List.getElem?_map] at hd
    cases q : (List.range n)[i]? with
    | none => rw [q] at hd; cases hd
    | some j =>
      rw [q] at hd
      cases hd
      have : j = i := by
        have := (List.getElem?_eq_some_iff.mp q).2
        simpa using this.symm
      subst this
      exact ⟨F, Ext.refl s, .int _⟩
def range1I (ta : TDA) : TDI := fun δ Q E => ta δ (fun as δ1 => ∃ j, as = [.d (.int j)] ∧ -(2 ^ 62) ≤ j ∧ j < 2 ^ 62 ∧ Q (upto 0 j.toNat) δ1) E
theorem pid_range1 {tg a : Expr} {ta : TDA} {p pos : Pos} (hg : Gl X "range") (hm : X.mg "range" = none) (ha : PA X [a] (LA X.K c W ta)) (hs : starEach [a] X.env = [(false, eval a X.env)] := by rfl) : PI X tg (.Call (.Name "range" p) [a] [] pos) (LI X.K c W (range1I ta)) :=
  PI_imp (pi_range1 hg hm ha hs) fun σ H R ⟨δ, tmp, Qd, Ed, S, q, k, w⟩ => ⟨δ, tmp, _, _, S, q, fun vs as δ' F ow H' ⟨j, e, h1, h2, q'⟩ S' ra => by
    subst e
    cases ra with
    | d h t => cases t; cases h; exact ⟨j, rfl, h1, h2, k _ .non .non _ _ _ q' serve_range ⟨F, ow, S'.push .non⟩⟩, w⟩
/-! ### targets -/
abbrev TDG := D → DSt → (DSt → Prop) → Prop
/-- a target, of frozen things -/
def LG (K : PySem.W.Frag) (c : Fc) (vs : List Nat) (g : TDG) : TG := fun v σ H Q => ∃ δ tmp x Qd, Stt K c δ ((v, .d x) :: tmp) σ H ∧ g x δ Qd ∧ ∀ δ' σ' H', Qd δ' → Stt K c δ' tmp σ' H' → wipe σ' vs = wipe σ vs → Q σ' H'
theorem wipe_set {σ : L2.St} {i : Nat} {x : Option V} : ∀ {vs : List Nat}, i ∈ vs → wipe (σ.set i x) vs = wipe σ vs
  | v :: vs, h => by
    unfold wipe
    by_cases e : i ∈ vs
    · rw [wipe_set e]
    · have : i = v := (List.mem_cons.mp h).elim id fun z => absurd z e
      subst this
      have aux : ∀ (vs : List Nat), (wipe (σ.set i x) vs).set i none = (wipe σ vs).set i none := fun vs => by
        induction vs with
        | nil => unfold wipe; rw [List.set_set]
        | cons a r ih =>
          unfold wipe
          by_cases q : a = i
          · subst q; rw [List.set_set, List.set_set]; exact ih
          · rw [List.set_comm _ _ q, List.set_comm _ _ q, ih]
      exact aux vs
theorem PG_imp {e : Expr} {t t' : TG} (h : PG X e t) (f : ∀ v σ H Q, t' v σ H Q → t v σ H Q) : PG X e t' := ⟨fun pins s σ H x u Q I r q => h.run pins s σ H x u Q I r (f _ _ _ _ q)⟩
def nameG (i : Nat) : TDG := fun x δ Q => Q (δ.set i (some (.d x)))
theorem pgd_name {i : Nat} {vs : List Nat} {e : Expr} (h : PG X e (gName i)) (ni : i ∉ c.sl) (iv : i ∈ vs) : PG X e (LG X.K c vs (nameG i)) :=
  PG_imp h fun v σ H Q ⟨δ, tmp, x, Qd, ⟨F, ow, S⟩, q, k⟩ => k _ _ _ q (S.set' ni) (wipe_set iv)
/-- the items of a tuple to names -/
def namesG : List Nat → List D → DSt → (DSt → Prop) → Prop
  | [], [], δ, Q => Q δ
  | i :: is, x :: xs, δ, Q => namesG is xs (δ.set i (some (.d x))) Q
  | _, _, _, _ => False
def tupG (is : List Nat) : TDG := fun x δ Q => ∃ xs, x = .tup xs ∧ namesG is xs δ Q
def gNames : List Nat → TGs
  | [] => gNil
  | i :: is => gCons (gName i) (gNames is)
theorem names_run {K : PySem.W.Frag} {c : Fc} {Q : L2.St → Hp → Prop} {tmp : List (V × DV)} {ws : List Nat} {w0 : L2.St} : ∀ {is : List Nat} {xs : List D} {vs : List V} {δ : DSt} {σ : L2.St} {F H : Hp} {ow : Addr → Option Hold} {Qd : DSt → Prop}, (∀ i ∈ is, i ∉ c.sl ∧ i ∈ ws) → wipe σ ws = w0 → SttF K c F ow δ tmp σ H → RepL K F vs xs → namesG is xs δ Qd → (∀ δ' σ' H', Qd δ' → Stt K c δ' tmp σ' H' → wipe σ' ws = w0 → Q σ' H') → gNames is vs σ H Q
  | [], [], _, δ, σ, F, H, ow, Qd, _, hw, S, .nil, q, k => ⟨rfl, k _ _ _ q ⟨F, ow, S⟩ hw⟩
  | i :: is, x :: xs, _, δ, σ, F, H, ow, Qd, hn, hw, S, .cons r t, q, k => by
    refine ⟨_, _, rfl, ?_⟩
    show gNames is _ _ H Q
    rcases Nat.lt_or_ge i δ.length with hi | hi
    · obtain ⟨ow', S'⟩ := (S.push r).set hi (hn i List.mem_cons_self).1
      exact names_run (fun j hj => hn j (List.mem_cons_of_mem _ hj)) ((wipe_set (hn i List.mem_cons_self).2).trans hw) S' t q k
    · have q' : namesG is xs (δ.set i (some (.d x))) Qd := q
      rw [List.set_eq_of_length_le hi] at q'
      rw [List.set_eq_of_length_le (by rw [S.len]; exact hi)]
      exact names_run (fun j hj => hn j (List.mem_cons_of_mem _ hj)) hw S t q' k
  | [], _ :: _, _, _, _, _, _, _, _, _, _, _, _, q, _ => q.elim
  | _ :: _, [], _, _, _, _, _, _, _, _, _, _, _, q, _ => q.elim
theorem names_len {Q : DSt → Prop} : ∀ {is : List Nat} {xs : List D} {δ : DSt}, namesG is xs δ Q → xs.length = is.length
  | [], [], _, _ => rfl
  | _ :: is, _ :: xs, _, q => congrArg (· + 1) (names_len (is := is) (xs := xs) q)
  | [], _ :: _, _, q => q.elim
  | _ :: _, [], _, q => q.elim
theorem pgd_tup {is vs : List Nat} {e : Expr} {n : Nat} (h : PG X e (gTup X.K n (gNames is))) (hn : n = is.length) (ni : ∀ i ∈ is, i ∉ c.sl ∧ i ∈ vs) : PG X e (LG X.K c vs (tupG is)) :=
  PG_imp h fun v σ H Q ⟨δ, tmp, x, Qd, ⟨F, ow, S⟩, ⟨xs, e, q⟩, k⟩ => by
    subst e
    have r0 := S.top
    cases r0 with
    | tup s1 r1 =>
      refine ⟨_, _, rfl, SqT.of (S.fh _ _ s1), ?_, names_run ni rfl S.pop r1 q k⟩
      rw [r1.len, hn]
      exact names_len q
/-! ### for -/
def forD (g : TDG) (tb : TDS) (D : EndsD) : List DL.D → DSt → Prop
  | [], δ => D.nx δ
  | x :: xs, δ => g x δ fun δ1 => tb { D with nx := forD g tb D xs, ct := forD g tb D xs, bk := D.nx } δ1
def forS (ti : TDI) (g : TDG) (tb : TDS) : TDS := fun D δ => ti δ (fun xs δ1 => forD g tb D xs δ1) D.ex
theorem psd_for {tg iter : Expr} {body : List Stmt} {ti : TDI} {g : TDG} {tb : TDS} {pos : Pos} (hp : PassesOwn (model X.prog X.w) X.A X.env X.xe) (hc : X.calm = true) (hi : PI X tg iter (LI X.K c W ti)) {vs : List Nat} (hg : PG X tg (LG X.K c vs g)) (hb : PSs X body (LS X.K c W tb))
    (hs : ∀ x, foldedSetIterable iter X.env x = pure x := by intro _; rfl) : PS X (.For tg iter body [] pos) (LS X.K c W (forS ti g tb)) :=
  PS_imp (ps_for hp hc hi hg hb hs) fun D σ H ⟨δ, tmp, Dd, S, q, k, kr, kb, kc, w⟩ => by
    refine ⟨δ, tmp, _, _, S, q, fun J v src items δ1 H1 q1 sv S1 => ?_, w⟩
    refine ⟨fun i m σ H => m = items.length - i ∧ i ≤ items.length ∧ ∃ δ, Stt X.K c δ ((v, .d src) :: tmp) σ H ∧ forD g tb Dd (items.drop i) δ, ⟨items.length, by simp, Nat.zero_le _, δ1, S1, q1⟩, ?_⟩
    rintro i m σ2 H2 ⟨rfl, hi, δ2, ⟨F2, ow2, S2⟩, q2⟩
    by_cases hlt : i < items.length
    · refine .inr ⟨sv.go i F2 H2 S2.fh S2.top hlt, fun σ H => i + 1 ≤ items.length ∧ ∃ δ, Stt X.K c δ ((v, .d src) :: tmp) σ H ∧ forD g tb Dd (items.drop (i + 1)) δ, fun σ' H' h => ⟨items.length - (i + 1), by omega, rfl, h⟩, fun x H' y => ?_⟩
      obtain ⟨F3, e3, r3⟩ := sv.yld i F2 H2 x H' S2.fh S2.top y _ (List.getElem?_eq_getElem hlt)
      rw [List.drop_eq_getElem_cons hlt] at q2
      refine ⟨δ2, (v, .d src) :: tmp, _, _, ⟨F3, ow2, (S2.ext e3).push r3⟩, q2, fun δ4 σ4 H4 q4 S4 _ => ⟨δ4, (v, .d src) :: tmp, _, S4, q4, fun δ5 σ5 H5 q5 S5 => ⟨hlt, δ5, S5, q5⟩, fun u z δ5 σ5 H5 q5 ⟨F5, ow5, S5⟩ => ?_, fun δ5 σ5 H5 q5 ⟨F5, ow5, S5⟩ => k δ5 σ5 H5 q5 ⟨F5, ow5, S5.pop⟩, fun δ5 σ5 H5 q5 S5 => ⟨hlt, δ5, S5, q5⟩, w.push⟩⟩
      -- the answer is on top of what is walked
      obtain ⟨F6, S6⟩ : ∃ F6 ow6, SttF X.K c F6 ow6 δ5 ((u, z) :: tmp) σ5 H5 := by
        have tm := S5.tm
        cases z with
        | d y => exact ⟨F5, ow5, { S5.pop.pop with tm := ⟨tm.1, tm.2.2⟩ }⟩
        | own o =>
          obtain ⟨p, rfl, e, b, n, r⟩ := tm.1
          have S7 := S5.pop.pop.reown (ow' := owSet ow5 p (.t tmp.length)) (fun k a z _ => owSet_ne fun y => by subst y; rw [e] at z; cases z) (fun k a hk z _ => owSet_ne fun y => by
            subst y; rw [e] at z; cases z
            have : tmp.length + 1 < tmp.length := hk
            omega)
          exact ⟨F5, _, { S7 with tm := ⟨⟨p, rfl, owSet_at, b, .inl n.t, r⟩, S7.tm⟩ }⟩
      exact kr u z δ5 σ5 H5 q5 ⟨F6, S6⟩
    · have e : i = items.length := by omega
      subst e
      rw [List.drop_length] at q2
      exact .inl ⟨sv.stop _ F2 H2 S2.fh S2.top (Nat.le_refl _), k _ _ _ q2 ⟨F2, ow2, S2.pop⟩⟩
/-! ### while: the invariant is the reader's -/
/-! ### list comprehensions -/
def wipeD (δ : DSt) : List Nat → DSt
  | [] => δ
  | v :: vs => (wipeD δ vs).set v none
abbrev W0 : WX := fun _ _ _ _ => False
abbrev noX : XD := fun _ _ => False
def lcD (g : TDG) (tt : TDT) (te : TD) (vs : List Nat) : List DL.D → List DL.D → DSt → (List DL.D → DSt → Prop) → Prop
  | [], acc, δ, Q => Q acc δ
  | x :: xs, acc, δ, Q => g x δ fun δ1 => tt δ1 (fun b δ2 => if b = true then te δ2 (fun y δ3 => acc.length < sizeLine ∧ lcD g tt te vs xs (acc ++ [y.toD]) (wipeD δ3 vs) Q) noX else lcD g tt te vs xs acc (wipeD δ2 vs) Q) noX
def compD (ti : TDI) (g : TDG) (tt : TDT) (te : TD) (vs : List Nat) : TD := fun δ Q E => ti δ (fun xs δ1 => lcD g tt te vs xs [] (wipeD δ1 vs) fun acc δ2 => Q (.own (.lst acc)) δ2) E
def yesD : TDT := fun δ Q _ => Q true δ
end
section
variable {K : PySem.W.Frag} {c : Fc} {F F' H H' : Hp} {ow : Addr → Option Hold} {δ : DSt} {tmp : List (V × DV)} {σ : L2.St} {i : Nat} {p : Addr}
theorem SttF.del (S : SttF K c F ow δ tmp σ H) (ni : i ∉ c.sl) : SttF K c F ow (δ.set i none) tmp (σ.set i none) H := by
  refine { S with len := by rw [List.length_set, List.length_set]; exact S.len, sl := fun j z q => ?_, ps := fun k j p q1 q2 => ?_ }
  · by_cases e : i = j
    · subst e
      rcases Nat.lt_or_ge i δ.length with h | h
      · rw [List.getElem?_set_self h] at q; cases q
      · rw [List.getElem?_eq_none (by rw [List.length_set]; exact h)] at q; cases q
    · rw [List.getElem?_set_ne e] at q ⊢
      exact S.sl j z q
  · rw [List.getElem?_set_ne (fun z => ni (by rw [z]; exact List.mem_of_getElem? q1))]
    exact S.ps k j p q1 q2
theorem SttF.wipe (S : SttF K c F ow δ tmp σ H) : ∀ {vs : List Nat}, (∀ i ∈ vs, i ∉ c.sl) → SttF K c F ow (wipeD δ vs) tmp (L2.wipe σ vs) H
  | [], _ => S
  | v :: vs, h => (S.wipe fun i hi => h i (List.mem_cons_of_mem _ hi)).del (h v List.mem_cons_self)
theorem wipeD_get : ∀ {vs : List Nat} {i : Nat} {x : DV}, (wipeD δ vs)[i]? = some (some x) → i ∉ vs
  | [], _, _, _ => fun h => nomatch h
  | v :: vs, i, x, e => fun h => by
    have e : ((wipeD δ vs).set v none)[i]? = some (some x) := e
    by_cases q : v = i
    · subst q
      rcases Nat.lt_or_ge v (wipeD δ vs).length with z | z
      · rw [List.getElem?_set_self z] at e; cases e
      · rw [List.getElem?_eq_none (by rw [List.length_set]; exact z)] at e; cases e
    · rw [List.getElem?_set_ne q] at e
      exact wipeD_get e ((List.mem_cons.mp h).elim (fun z => absurd z.symm q) id)
/-- the slots that are forgotten may be anything -/
theorem SttF.unwipe {vs : List Nat} (S : SttF K c F ow (wipeD δ vs) tmp (L2.wipe σ vs) H) (h : ∀ i ∈ vs, i ∉ c.sl) : SttF K c F ow (wipeD δ vs) tmp σ H := by
  refine { S with len := by rw [← S.len, wipe_length], sl := fun j z q => ?_, ps := fun k j p q1 q2 => ?_ }
  · obtain ⟨v, e, r⟩ := S.sl j z q
    rw [wipe_out (wipeD_get q)] at e
    exact ⟨v, e, r⟩
  · have := S.ps k j p q1 q2
    rwa [wipe_out fun z => h j z (List.mem_of_getElem? q1)] at this
/-- the own object on top of the stack is changed -/
theorem SttF.writeT {o o' : OC} {ob : HO} (S : SttF K c F ow δ ((.ref p, .own o) :: tmp) σ H) (r' : OwnRep K F (upd H p ob) p o') : SttF K c F ow δ ((.ref p, .own o') :: tmp) σ (upd H p ob) := by
  obtain ⟨p', e0, e, b, w, r⟩ := S.tm.1
  cases e0
  have keep : ∀ {h : Hold} {v : V} {x : DV}, RepV K c F H ow h v x → h ≠ .t tmp.length → RepV K c F (upd H p ob) ow h v x := fun {h v x} y ne => by
    cases x with
    | d z => exact y
    | own z =>
      obtain ⟨a, rfl, ea, ba, wa, ra⟩ := y
      exact ⟨a, rfl, ea, ba, wa, ra.mono (Same.refl F) (upd_ne fun t => by subst t; rw [e] at ea; cases ea; exact ne rfl)⟩
  have keepT : ∀ {l : List (V × DV)}, l.length ≤ tmp.length → RepTmp K c F H ow l → RepTmp K c F (upd H p ob) ow l := fun {l} => by
    induction l with
    | nil => exact fun _ _ => True.intro
    | cons a r ih =>
      obtain ⟨v, x⟩ := a
      exact fun hl y => ⟨keep y.1 (fun z => by have := Hold.t.inj z; have : r.length + 1 ≤ tmp.length := hl; omega), ih (Nat.le_of_succ_le hl) y.2⟩
  refine ⟨fun a u z => ?_, S.f0, S.fn, fun a u z n => ?_, fun a z => ?_, S.len, fun j z qz => ?_, ⟨⟨p, rfl, e, b, w, r'⟩, keepT (Nat.le_refl _) S.tm.2⟩, S.ps⟩
  · rw [upd_ne (ne_of_none z b)]
    exact S.fh _ _ z
  · rw [upd_ne (fun t => by subst t; rw [w.t] at z; cases z)]
    exact S.fr a u z n
  · by_cases t : a = p
    · subst t; rw [upd_same] at z; cases z
    · rw [upd_ne t] at z; exact S.up a z
  · obtain ⟨v, e2, r2⟩ := S.sl j z qz
    exact ⟨v, e2, keep r2 fun t => nomatch t⟩
end
section
variable {X : Cx} {c : Fc} {W : WX}
theorem lift_comp {K : PySem.W.Frag} {ti : TDI} {g : TDG} {tt : TDT} {te : TD} {vs : List Nat} (hv : ∀ i ∈ vs, i ∉ c.sl) : ∀ σ H Q, LE K c W (compD ti g tt te vs) σ H Q → tLc (LI K c W ti) (LG K c vs g) (LT K c W0 tt) (LE K c W0 te) vs σ H Q := fun σ H Q ⟨δ, tmp, Qd, Ed, S, q, k, w⟩ => by
  refine ⟨δ, tmp, _, _, S, q, fun J v src items δ1 H1 q1 sv ⟨F1, ow1, S1⟩ => ?_, w⟩
  intro D nD
  have S2 := (S1.wipe hv).pushNew (o := .lst []) nD ⟨[], upd_same, .nil⟩
  refine ⟨fun i m H => m = items.length - i ∧ i ≤ items.length ∧ ∃ δ acc, Stt K c (wipeD δ vs) ((.ref D, .own (.lst acc)) :: (v, .d src) :: tmp) (wipe σ vs) H ∧ lcD g tt te vs (items.drop i) acc (wipeD δ vs) fun acc δ2 => Qd (.own (.lst acc)) δ2,
    ⟨items.length, by simp, Nat.zero_le _, δ1, [], ⟨_, _, S2⟩, q1⟩, ?_⟩
  rintro i m H2 ⟨rfl, hi, δ2, acc, ⟨F2, ow2, S3⟩, q2⟩
  have src2 : Rep K F2 v src := S3.tm.2.1
  by_cases hlt : i < items.length
  · refine .inr ⟨sv.go i F2 H2 S3.fh src2 hlt, fun H => i + 1 ≤ items.length ∧ ∃ δ acc, Stt K c (wipeD δ vs) ((.ref D, .own (.lst acc)) :: (v, .d src) :: tmp) (wipe σ vs) H ∧ lcD g tt te vs (items.drop (i + 1)) acc (wipeD δ vs) fun acc δ2 => Qd (.own (.lst acc)) δ2,
      fun H' h => ⟨items.length - (i + 1), by omega, rfl, h⟩, fun x H' y => ?_⟩
    obtain ⟨F3, e3, r3⟩ := sv.yld i F2 H2 x H' S3.fh src2 y _ (List.getElem?_eq_getElem hlt)
    rw [List.drop_eq_getElem_cons hlt] at q2
    refine ⟨wipeD δ2 vs, (.ref D, .own (.lst acc)) :: (v, .d src) :: tmp, _, _, ⟨F3, ow2, (S3.ext e3).push r3⟩, q2, fun δ4 σ4 H4 q4 S4 hw => ?_⟩
    have hw' : wipe σ4 vs = wipe σ vs := by
      rw [hw]
      have idem : ∀ (l : List Nat), (∀ i ∈ l, i ∈ vs) → wipe (wipe σ l) vs = wipe σ vs := fun l => by
        induction l with
        | nil => exact fun _ => rfl
        | cons a r ih =>
          intro h
          show wipe ((wipe σ r).set a none) vs = _
          rw [wipe_set (h a List.mem_cons_self)]
          exact ih fun i hi => h i (List.mem_cons_of_mem _ hi)
      exact idem vs fun _ h => h
    refine ⟨hw', δ4, _, _, noX, S4, q4, fun b δ5 H5 q5 ⟨F5, ow5, S5⟩ => ?_, fun _ _ _ _ _ _ _ _ z => z.elim⟩
    cases b with
    | false =>
      have S6 := S5.wipe hv
      rw [hw'] at S6
      exact ⟨hlt, δ5, acc, ⟨_, _, S6⟩, q5⟩
    | true =>
      refine ⟨δ5, _, _, noX, ⟨F5, ow5, S5⟩, q5, fun u z δ6 H6 ⟨hz, q6⟩ ⟨F6, ow6, S6⟩ => ?_, fun _ _ _ _ _ _ _ _ z => z.elim⟩
      obtain ⟨F7, S7, s7⟩ := S6.top_frz
      obtain ⟨p', e0, _, _, _, ws, ep, rw'⟩ := S7.tm.2.1
      cases e0
      have S8 := S7.pop.writeT (o' := .lst (acc ++ [z.toD])) (ob := .lst (ws ++ [u])) ⟨_, upd_same, rw'.app (.cons S7.top .nil)⟩
      have S9 := S8.wipe hv
      rw [hw'] at S9
      exact ⟨ws, ep, by rw [rw'.len]; exact hz, hlt, δ6, _, ⟨_, _, S9⟩, q6⟩
  · have e : i = items.length := by omega
    subst e
    rw [List.drop_length] at q2
    refine .inl ⟨sv.stop _ F2 H2 S3.fh src2 (Nat.le_refl _), k _ _ _ _ q2 ?_⟩
    have S4 := S3.unwipe hv
    -- the list is moved down on the stack
    obtain ⟨p', e0, e, b, n, r⟩ := S4.tm.1
    cases e0
    have S5 := S4.pop.pop.reown (ow' := owSet ow2 D (.t tmp.length)) (fun k a z _ => owSet_ne fun y => by subst y; rw [e] at z; cases z) (fun k a hk z _ => owSet_ne fun y => by
      subst y; rw [e] at z; cases z
      have : tmp.length + 1 < tmp.length := hk
      omega)
    exact ⟨F2, _, { S5 with tm := ⟨⟨D, rfl, owSet_at, b, .inl n.t, r⟩, S5.tm⟩ }⟩
theorem PTs_imp {e : List Expr} {t t' : TT} (h : PTs X e t) (f : ∀ σ H Q, t' σ H Q → t σ H Q) : PTs X e t' := ⟨fun pins s σ H Q I q => h.run pins s σ H Q I (f _ _ _ q)⟩
theorem ptsd_nil : PTs X [] (LT X.K c W yesD) := PTs_imp pts_nil fun σ H Q ⟨δ, tmp, Qd, Ed, S, q, k, w⟩ => k _ _ _ q S
theorem ptsd_one {e : Expr} {t : TDT} (h : PT X e (LT X.K c W t)) : PTs X [e] (LT X.K c W t) := pts_one h
theorem pd_lc {elt tg iter : Expr} {ifs : List Expr} {scope : Scope} {own : List (Str × Nat)} {pos : Pos} {ti : TDI} {g : TDG} {tt : TDT} {te : TD} (hc : X.calm = true) (hN : X.N.Nodup) (hi : PI X tg iter (LI X.K c W ti)) (ok : BlkOk X.N X.env.scope scope own)
    (hg : ∀ (s : Shared) (H : Hp) (C : Addr) (cl : List (Str × Addr)) (fp : List Addr), PG (X.blk s H scope (compEnvC scope cl C X.env) fp) tg (LG X.K c (own.map (·.2)) g)) (ht : ∀ (s : Shared) (H : Hp) (C : Addr) (cl : List (Str × Addr)) (fp : List Addr), PTs (X.blk s H scope (compEnvC scope cl C X.env) fp) ifs (LT X.K c W0 tt))
    (he : ∀ (s : Shared) (H : Hp) (C : Addr) (cl : List (Str × Addr)) (fp : List Addr), PE (X.blk s H scope (compEnvC scope cl C X.env) fp) elt (LE X.K c W0 te)) (hv : ∀ i ∈ own.map (·.2), i ∉ c.sl) (hs : ∀ x, foldedSetIterable iter X.env x = pure x := by intro _; rfl) :
    PE X (.ListComp elt [⟨tg, iter, ifs, 0⟩] scope pos) (LE X.K c W (compD ti g tt te (own.map (·.2)))) := PE_imp (pe_lc hc hN hi ok hg ht he hs) (lift_comp hv)
/-- x = [..] on one line: the list is x's own, or frozen -/
def setLcD (i : Nat) (o : Bool) (t : TD) : TDS := fun D δ => t δ (fun x δ1 => D.nx (δ1.set i (some (asD o x)))) D.ex
theorem psd_setLc {i : Nat} {o : Bool} {y : Str} {py : Pos} {elt tg iter : Expr} {ifs : List Expr} {scope : Scope} {own : List (Str × Nat)} {pos spos : Pos} {ti : TDI} {g : TDG} {tt : TDT} {te : TD} (ni : i ∉ c.sl) (hc : X.calm = true) (hN : X.N.Nodup) (hy : X.N[i]? = some y) (hyl : X.env.scope.names.lookup y = some .local)
    (hsw : swapsWith (.ListComp elt [⟨tg, iter, ifs, 0⟩] scope pos) (some (.Name y py)) spos.line X.env = pure true) (hi : PI X tg iter (LI X.K c W ti)) (ok : BlkOk X.N X.env.scope scope own)
    (hg : ∀ (s : Shared) (H : Hp) (C : Addr) (cl : List (Str × Addr)) (fp : List Addr), PG (X.blk s H scope (compEnvC scope cl C X.env) fp) tg (LG X.K c (own.map (·.2)) g)) (ht : ∀ (s : Shared) (H : Hp) (C : Addr) (cl : List (Str × Addr)) (fp : List Addr), PTs (X.blk s H scope (compEnvC scope cl C X.env) fp) ifs (LT X.K c W0 tt))
    (he : ∀ (s : Shared) (H : Hp) (C : Addr) (cl : List (Str × Addr)) (fp : List Addr), PE (X.blk s H scope (compEnvC scope cl C X.env) fp) elt (LE X.K c W0 te)) (hv : ∀ i ∈ own.map (·.2), i ∉ c.sl) (hs : ∀ x, foldedSetIterable iter X.env x = pure x := by intro _; rfl) :
    PS X (.Assign [.Name y py] (.ListComp elt [⟨tg, iter, ifs, 0⟩] scope pos) spos) (LS X.K c W (setLcD i o (compD ti g tt te (own.map (·.2))))) :=
  PS_imp (ps_setLc (i := i) hc hN hy hyl hsw hi ok hg ht he hs) fun D σ H ⟨δ, tmp, Dd, S, q, k, kr, kb, kc, w⟩ => by
    show tLc _ _ _ _ _ σ H fun x H1 => gName i x σ H1 D.nx
    refine lift_comp hv _ _ _ ⟨δ, tmp, _, _, S, q, fun v x δ' H' q' ⟨F, ow, S'⟩ => ?_, w⟩
    obtain ⟨F', S2⟩ := S'.top_as o
    exact k _ _ _ q' (S2.set' ni)
end
end DL

set_option Elab.async false
set_option linter.all false
set_option maxRecDepth 100000
namespace DL
open PySem PySem.Spec PyProof.Rows L2
/-! ### a def's body keeps its promise -/
/-- the slots of the arguments that may change -/
def ownIx : List DV → Nat → List Nat
  | [], _ => []
  | .d _ :: r, k => ownIx r (k + 1)
  | .own _ :: r, k => k :: ownIx r (k + 1)
def startD (n : Nat) (as : List DV) : DSt := as.map some ++ List.replicate (n - as.length) none
def takeB (δ : DSt) : List Nat → List OC → Prop
  | [], os => os = []
  | i :: is, os => ∃ o r, os = o :: r ∧ δ[i]? = some (some (.own o)) ∧ takeB δ is r
def owOf : List DV → List V → Nat → Addr → Option Hold
  | .own _ :: as, .ref p :: vs, k => fun a => if a = p then some (.s k) else owOf as vs (k + 1) a
  | _ :: as, _ :: vs, k => owOf as vs (k + 1)
  | _, _, _ => fun _ => none
section
variable {K : PySem.W.Frag} {c : Fc} {F H : Hp}
theorem ArgsRep.len : ∀ {vs : List V} {as : List DV} {ps : List Addr}, ArgsRep K F H vs as ps → vs.length = as.length
  | _, _, _, .nil => rfl
  | _, _, _, .d _ t => congrArg (· + 1) t.len
  | _, _, _, .own _ _ _ t => congrArg (· + 1) t.len
theorem ArgsRep.plen : ∀ {vs : List V} {as : List DV} {ps : List Addr} {k : Nat}, ArgsRep K F H vs as ps → ps.length = (ownIx as k).length
  | _, _, _, _, .nil => rfl
  | _, _, _, k, .d _ t => t.plen (k := k + 1)
  | _, _, _, k, .own _ _ _ t => congrArg (· + 1) (t.plen (k := k + 1))
theorem owOf_in : ∀ {vs : List V} {as : List DV} {ps : List Addr} {k : Nat} {a : Addr} {h : Hold}, ArgsRep K F H vs as ps → owOf as vs k a = some h → a ∈ ps
  | _, _, _, _, _, _, .nil, e => nomatch e
  | _, _, _, k, a, h, .d _ t, e => owOf_in (k := k + 1) t e
  | _, _, _, k, a, h, .own (p := p) _ _ _ t, e => by
    have e : (if a = p then some (Hold.s k) else owOf _ _ (k + 1) a) = some h := e
    by_cases q : a = p
    · subst q; exact List.mem_cons_self
    · rw [if_neg q] at e; exact List.mem_cons_of_mem _ (owOf_in t e)
theorem ArgsRep.at' : ∀ {vs : List V} {as : List DV} {ps : List Addr} {k j : Nat} {x : DV}, ArgsRep K F H vs as ps → (∀ p ∈ ps, p ∈ c.ad) → (∀ i ∈ ownIx as k, i ∈ c.sl) → as[j]? = some x → ∃ v, vs[j]? = some v ∧ RepV K c F H (owOf as vs k) (.s (k + j)) v x
  | _, _, _, _, 0, _, .d h _, _, _, e => by cases e; exact ⟨_, rfl, h⟩
  | _, _, _, k, 0, _, .own n h _ _, hp, hs, e => by
    cases e
    exact ⟨_, rfl, _, rfl, if_pos rfl, n, .inr ⟨hp _ List.mem_cons_self, k, rfl, hs k List.mem_cons_self⟩, h⟩
  | _, _, _, k, j + 1, x, .d _ t, hp, hs, e => by
    obtain ⟨v, e1, r⟩ := t.at' (k := k + 1) (j := j) hp hs e
    refine ⟨v, e1, ?_⟩
    rw [show k + (j + 1) = k + 1 + j by omega]
    exact r
  | _, _, _, k, j + 1, x, .own (p := p) n h np t, hp, hs, e => by
    obtain ⟨v, e1, r⟩ := t.at' (k := k + 1) (j := j) (fun p hq => hp p (List.mem_cons_of_mem _ hq)) (fun i hi => hs i (List.mem_cons_of_mem _ hi)) e
    refine ⟨v, e1, ?_⟩
    rw [show k + (j + 1) = k + 1 + j by omega]
    refine r.reown fun q _ eq _ => ?_
    have : q ≠ p := fun z => np (by rw [← z]; exact owOf_in t eq)
    exact if_neg this
theorem ArgsRep.ix : ∀ {vs : List V} {as : List DV} {ps : List Addr} {k m i : Nat} {p : Addr}, ArgsRep K F H vs as ps → (ownIx as k)[m]? = some i → ps[m]? = some p → k ≤ i ∧ vs[i - k]? = some (.ref p)
  | _, _, _, k, m, i, p, .nil, e, _ => by simp [ownIx] at e
  | _, _, _, k, m, i, p, .d _ t, e, e' => by
    obtain ⟨h1, h2⟩ := t.ix (k := k + 1) e e'
    refine ⟨by omega, ?_⟩
    rw [show i - k = (i - (k + 1)) + 1 by omega]
    exact h2
  | _, _, _, k, 0, i, p, .own _ _ _ _, e, e' => by
    cases e; cases e'
    rw [Nat.sub_self]
    exact ⟨Nat.le_refl _, rfl⟩
  | _, _, _, k, m + 1, i, p, .own _ _ _ t, e, e' => by
    obtain ⟨h1, h2⟩ := t.ix (k := k + 1) (m := m) e e'
    refine ⟨by omega, ?_⟩
    rw [show i - k = (i - (k + 1)) + 1 by omega]
    exact h2
/-- at the entry -/
theorem entry {N : List Str} {vs : List V} {as : List DV} {ps : List Addr} (s : Same F H) (A : ArgsRep K F H vs as ps) : SttF K ⟨ownIx as 0, ps, F, H⟩ F (owOf as vs 0) (startD N.length as) [] (L2.start N vs) H := by
  have hl := A.len
  refine ⟨s, Same.refl F, fun a h => .inl h, fun a o e _ => e, fun a e => e, ?_, fun i x e => ?_, True.intro, fun m i p e1 e2 => ?_⟩
  · unfold L2.start startD
    rw [List.length_append, List.length_append, List.length_map, List.length_map, List.length_replicate, List.length_replicate, hl]
  · unfold startD at e
    rcases Nat.lt_or_ge i as.length with h | h
    · rw [List.getElem?_append_left (by rw [List.length_map]; exact h), List.getElem?_map, List.getElem?_eq_getElem h] at e
      have e := Option.some.inj (Option.some.inj e)
      obtain ⟨v, e1, r⟩ := A.at' (c := ⟨ownIx as 0, ps, F, H⟩) (k := 0) (j := i) (fun _ h => h) (fun _ h => h) (by rw [List.getElem?_eq_getElem h, e])
      refine ⟨v, ?_, by rw [Nat.zero_add] at r; exact r⟩
      unfold L2.start
      rw [List.getElem?_append_left (by rw [List.length_map, hl]; exact h), List.getElem?_map, e1]
      rfl
    · rw [List.getElem?_append_right (by rw [List.length_map]; exact h)] at e
      cases q : (List.replicate (N.length - as.length) (none : Option DV))[i - (as.map some).length]? with
      | none => rw [q] at e; cases e
      | some z =>
        rw [q] at e
        have := List.mem_of_getElem? q
        rw [(List.mem_replicate.mp this).2] at e
        cases e
  · obtain ⟨_, h⟩ := A.ix (k := 0) e1 e2
    have h : vs[i]? = some (.ref p) := h
    unfold L2.start
    rw [List.getElem?_append_left (by rw [List.length_map]; exact set_lt h), List.getElem?_map, h]
    rfl
theorem takeB_reps {F' H' : Hp} {ow : Addr → Option Hold} {δ : DSt} {tmp : List (V × DV)} {σ : L2.St} (S : SttF K c F' ow δ tmp σ H') : ∀ {is : List Nat} {ps : List Addr} {os : List OC}, ps.length = is.length → (∀ (k i : Nat) (p : Addr), is[k]? = some i → ps[k]? = some p → σ[i]? = some (some (.ref p))) → takeB δ is os → OwnsRep K F' H' ps os
  | [], [], _, _, _, e => by cases e; exact .nil
  | i :: is, p :: ps, _, hl, hs, ⟨o, r, e, ei, t⟩ => by
    subst e
    obtain ⟨v, e1, p', rfl, _, n, _, q⟩ := S.sl _ _ ei
    have e2 := hs 0 i p rfl rfl
    rw [e1] at e2
    cases e2
    exact .cons n q (takeB_reps S (Nat.succ.inj hl) (fun k i p a b => hs (k + 1) i p a b) t)
  | [], _ :: _, _, h, _, _ => nomatch h
  | _ :: _, [], _, h, _, _ => nomatch h
end
/-- what a def's end must bring -/
def endsD (sl : List Nat) (Qd : DV → List OC → Prop) (Ed : Ex → List OC → Prop) : EndsD where
  nx := fun δ => ∃ os, takeB δ sl os ∧ Qd (.d .non) os
  rt := fun x δ => ∃ os, takeB δ sl os ∧ Qd x os
  ex := fun x δ => ∃ os, takeB δ sl os ∧ Ed x os
section
variable {P : Program} {w : World} {K : PySem.W.Frag} {mg : Str → Option Value} {base : Heap}
theorem okD {x qual : Str} {st : Stmt} {f : Addr} {fd : FuncData} {N ps : List Str} {k : Nat} {sd : SpD} (G : Fun K x qual st f fd) (S : FnScope N ps (defScope st)) (sl : List Nat) (len : ∀ as Q E, sd as Q E → as.length = ps.length ∧ ownIx as 0 = sl)
    (hbody : ∃ t : TDS, (∀ (cdv : Value) (A : Around) (outer : List Env) (s : Shared) (H : Hp) (E : XK) (ad : List Addr) (F0 H0 : Hp), Room k (A.deeper (envOfC qual (defScope st) s.heap.objs.size f cdv)) →
        PSs (cxOf (L2.CX P w) P w K mg base N qual (defScope st) f cdv A outer s H E) (defBody st) (LS K ⟨sl, ad, F0, H0⟩ (fun cls d _ H => E cls d H) t)) ∧
      ∀ as Qd Ed, sd as Qd Ed → t (endsD sl Qd Ed) (startD N.length as)) :
    FnOk P w K mg base (L2.CX P w) (k + 1) f fd ps (spOf K sd) := by
  obtain ⟨t, ht, hq⟩ := hbody
  refine G.okX S (fun vs H Q E ⟨F, as, qs, Qd, Ed, _, A, h, _⟩ => by rw [A.len]; exact (len _ _ _ h).1) fun cdv A outer s H vs Q E hr ⟨F, as, qs, Qd, Ed, sm, ar, h, kq, ke⟩ => ?_
  have hsl := (len _ _ _ h).2
  have S0 := entry (N := N) sm ar
  rw [hsl] at S0
  have hpl : qs.length = sl.length := by rw [← hsl]; exact ar.plen
  have post : ∀ {δ' : DSt} {tmp : List (V × DV)} {σ' : L2.St} {F' H' : Hp} {ow' : Addr → Option Hold} {os : List OC}, SttF K ⟨sl, qs, F, H⟩ F' ow' δ' tmp σ' H' → takeB δ' sl os → Post K F H qs os F' H' := fun {δ' tmp σ' F' H' ow' os} S' tb =>
    ⟨S'.f0, S'.fh, S'.fr, S'.up, S'.fn, takeB_reps S' hpl S'.ps tb⟩
  refine ⟨_, ht cdv A outer s H E qs F H hr, startD N.length as, [], endsD sl Qd Ed, ⟨F, _, S0⟩, hq as Qd Ed h, fun δ' σ' H' ⟨os, tb, q⟩ ⟨F', ow', S'⟩ => ?_, fun v x δ' σ' H' ⟨os, tb, q⟩ ⟨F', ow', S'⟩ => ?_, fun _ _ _ z => z.elim, fun _ _ _ z => z.elim, fun x δ' σ' H' F' ow' cls d ⟨os, tb, q⟩ S' er => ?_⟩
  · exact kq .non (.d .non) os F' H' q (post S' tb) .non
  · refine kq v x os F' H' q (post S' tb) ?_
    cases x with
    | d y => exact S'.top
    | own o =>
      obtain ⟨p, rfl, e, b, n, r⟩ := S'.tm.1
      exact ⟨p, rfl, n.t, b, r⟩
  · exact ke cls d x os F' H' q (post S' tb) er
end
/-! ### own lists that change -/
section
variable {X : Cx} {c : Fc} {W : WX}
/-- xs[i] = e, xs the own list in slot j -/
def setItem (j : Nat) (ti te : TD) : TDS := fun D δ => ∃ o, δ[j]? = some (some (.own o)) ∧ te δ (fun y δ1 => ti δ1 (fun k δ2 => ∃ xs n m, δ2[j]? = some (some (.own (.lst xs))) ∧ k.toD = .int n ∧ ixN xs.length n = some m ∧ D.nx (δ2.set j (some (.own (.lst (xs.set m y.toD)))))) D.ex) D.ex
theorem psd_setItem {j : Nat} {x : Str} {e ei : Expr} {te ti : TD} {pos p2 p3 : Pos} (h : ∀ {te : TE} {g : TG}, PE X e te → PG X (.Subscript (.Name x p3) ei p2) g → PS X (.Assign [.Subscript (.Name x p3) ei p2] e pos) (tAsg te g))
    (hg : ∀ {to ti : TE} {t : TSet}, PE X (.Name x p3) to → PE X ei ti → PSet X t → PG X (.Subscript (.Name x p3) ei p2) (gSub to ti t)) (hv : PE X (.Name x p3) (tVar j)) (he : PE X e (LE X.K c W te)) (hi : PE X ei (LE X.K c W ti)) :
    PS X (.Assign [.Subscript (.Name x p3) ei p2] e pos) (LS X.K c W (setItem j ti te)) :=
  PS_imp (h he (hg hv hi set_list)) fun D σ H ⟨δ, tmp, Dd, ⟨F, ow, S⟩, ⟨o, eo, q⟩, k, kr, kb, kc, w⟩ => by
    obtain ⟨v, e1, p, rfl, _⟩ := S.sl _ _ eo
    refine ⟨δ, tmp, _, _, ⟨F, ow, S⟩, q, fun y d δ1 H1 q1 ⟨F1, ow1, S1⟩ => ?_, w⟩
    obtain ⟨F2, S2, _⟩ := S1.top_frz
    refine ⟨_, e1, δ1, _, _, _, ⟨F2, ow1, S2⟩, q1, fun u z δ2 H2 ⟨xs, n, m, ej, ek, em, q2⟩ ⟨F3, ow3, S3⟩ => ?_, w.push⟩
    obtain ⟨F4, S4, _⟩ := S3.top_frz
    rw [ek] at S4
    cases S4.top
    obtain ⟨v', e2, p', rfl, _, _, _, vs, ep, r⟩ := S4.sl _ _ ej
    rw [e1] at e2
    cases e2
    refine ⟨p, vs, n, m, rfl, rfl, ep, by rw [r.len]; exact em, k _ _ _ q2 ⟨F4, ow3, ?_⟩⟩
    exact (S4.pop.write (o' := .lst (xs.set m d.toD)) ej e1 ⟨_, upd_same, r.set S4.pop.top m⟩).pop
/-- a method of the own list in slot j: it changes, a value comes back -/
abbrev RDM := List D → List D → (D → List D → Prop) → Prop
def MtO (K : PySem.W.Frag) (r : V → List V → Hp → VK → Prop) (rd : RDM) : Prop := ∀ (p : Addr) (vs us : List V) (xs ds : List D) (F H : Hp) (Q : VK) (Qd : D → List D → Prop), Same F H → H p = some (.lst vs) → RepL K F vs xs → RepL K F us ds → rd xs ds Qd →
  (∀ v z ws zs, Qd z zs → Rep K F v z → RepL K F ws zs → Q v (upd H p (.lst ws))) → r (.ref p) us H Q
def methO (j : Nat) (rd : RDM) (ta : TDA) : TD := fun δ Q E => ∃ x0, δ[j]? = some (some (.own (.lst x0))) ∧ ta δ (fun as δ1 => ∃ ds xs, as = ds.map .d ∧ δ1[j]? = some (some (.own (.lst xs))) ∧ rd xs ds fun z zs => Q (.d z) (δ1.set j (some (.own (.lst zs))))) E
theorem pd_methO {j : Nat} {x m : Str} {es : List Expr} {ta : TDA} {r : V → List V → Hp → VK → Prop} {rd : RDM} {pos p2 p3 : Pos} (h : ∀ {to : TE} {t : TA}, PE X (.Name x p3) to → PA X es t → PE X (.Call (.Attribute (.Name x p3) m p2) es [] pos) (tBM X.K "list" r to t)) (hr : MtO X.K r rd)
    (hv : PE X (.Name x p3) (tVar j)) (ha : PA X es (LA X.K c W ta)) : PE X (.Call (.Attribute (.Name x p3) m p2) es [] pos) (LE X.K c W (methO j rd ta)) :=
  PE_imp (h hv ha) fun σ H Q ⟨δ, tmp, Qd, Ed, ⟨F, ow, S⟩, ⟨o, eo, q⟩, k, w⟩ => by
    obtain ⟨v, e1, p, rfl, _, _, _, vs0, ep0, _⟩ := S.sl _ _ eo
    refine ⟨_, e1, .inl ⟨rfl, vs0, SqL.of ep0⟩, δ, tmp, _, Ed, ⟨F, ow, S⟩, q, fun us as δ1 F1 ow1 H1 ⟨ds, xs, ea, ej, q1⟩ S1 ra => ?_, w⟩
    subst ea
    obtain ⟨v', e2, p', rfl, _, n, _, vs, ep, rr⟩ := S1.sl _ _ ej
    rw [e1] at e2
    cases e2
    exact hr p vs us xs ds F1 H1 Q _ S1.fh ep rr (args_d ra) q1 fun v z ws zs qz rz rws => k _ _ _ _ qz ⟨F1, ow1, (S1.write (o' := .lst zs) ej e1 ⟨_, upd_same, rws⟩).push rz⟩
end
section
variable {K : PySem.W.Frag}
abbrev appM : RDM := fun xs ds Q => ∃ d, ds = [d] ∧ xs.length < sizeLine ∧ Q .non (xs ++ [d])
theorem mo_append : MtO K rAppend appM := fun p vs us xs ds F H Q Qd s ep r ra ⟨d, e, hz, q⟩ k => by
  subst e
  cases ra with
  | cons ra t => cases t; exact ⟨p, vs, _, rfl, rfl, ep, by rw [r.len]; exact hz, k _ _ _ _ q .non (r.app (.cons ra .nil))⟩
end
/-! ### what is raised -/
section
variable {X : Cx} {c : Fc} {W : WX}
theorem repF_zip {K : PySem.W.Frag} {F : Hp} : ∀ {ns : List Str} {vs : List V} {ds : List D}, RepL K F vs ds → RepF K F (ns.zip vs) (ns.zip ds)
  | [], _, _, .nil => .nil
  | [], _, _, .cons _ _ => .nil
  | n :: ns, _, _, .nil => .nil
  | n :: ns, _, _, .cons h t => .cons h (repF_zip t)
/-- an own exception without an __init__ of its own -/
def raise0D (B : Addr) : TDS := fun D δ => D.ex ⟨B, none⟩ δ
theorem psd_raise0 {e : Expr} {B : Addr} {pos2 : Pos} (hc : X.calm = true) (tk : Takes X W) (hk : PMk X e (fun _ H Q => Q (.ref B) none H)) : PS X (.Raise (some e) none pos2) (LS X.K c W (raise0D B)) :=
  PS_imp (ps_raise hc tk hk) fun D σ H ⟨δ, tmp, Dd, ⟨F, ow, S⟩, q, k, kr, kb, kc, w⟩ => w _ _ _ _ F ow _ _ q S ⟨rfl, rfl⟩
/-! ### try -/
end
end DL

set_option Elab.async false
set_option linter.all false
set_option maxRecDepth 100000
namespace DL
open PySem PySem.Spec PyProof.Rows L2
section
variable {X : Cx} {c : Fc} {W : WX}
/-! ### comparisons as tests -/
theorem ptd_cmp {a b : Expr} {op : CmpOp} {r : R2} {rd : RD2} {ta tb : TD} {pos : Pos} (ho : OpR X (compareOp op) r) (hd : Op2 X.K r rd) (ha : PE X a (LE X.K c W ta)) (hb : PE X b (LE X.K c W tb)) (hm : behindInMarks op b = false) : PT X (.Compare a [op] [b] pos) (LT X.K c W (tvD (opD rd ta tb))) :=
  PT_imp (pt_cmpR ho ha hb hm) fun σ H Q ⟨δ, tmp, Qd, Ed, S, q, k, w⟩ => lift_op hd σ H _ ⟨δ, tmp, _, Ed, S, q, fun v x δ' H' ⟨b, e, q'⟩ ⟨F, ow, S'⟩ => by
    subst e
    cases S'.top
    exact ⟨b, rfl, k _ _ _ q' ⟨F, ow, S'.pop⟩⟩, w⟩
theorem lift_chain {K : PySem.W.Frag} {r r' : R2} {rd rd' : RD2} {ta tb tc : TD} (hd : Op2 K r rd) (hd' : Op2 K r' rd') : ∀ σ H Q, LE K c W (chainD rd rd' ta tb tc) σ H Q → tChain r r' (LE K c W ta) (LE K c W tb) (LE K c W tc) σ H Q := fun σ H Q ⟨δ, tmp, Qd, Ed, S, t, k, w⟩ => by
  refine ⟨δ, tmp, _, Ed, S, t, fun x a δ1 H1 t1 S1 => ?_, w⟩
  refine ⟨δ1, _, _, Ed, S1, t1, fun y b δ2 H2 t2 ⟨F, ow, S2⟩ => ?_, w.push⟩
  obtain ⟨F', S3, _⟩ := S2.top_frz2
  refine hd x y _ _ F' H2 _ _ S3.fh S3.pop.top S3.top t2 fun v dv F2 H3 ⟨kk, e, q⟩ m => ?_
  subst e
  cases m with
  | d e r =>
    cases r
    refine ⟨kk, rfl, ?_⟩
    have S4 := S3.ext e
    cases kk with
    | false => exact k _ _ _ _ q ⟨F2, ow, S4.pop.pop.push (.bl _)⟩
    | true =>
      have S5 : SttF K c F2 ow δ2 ((y, .d b.toD) :: tmp) σ H3 := S4.pop.pop.push S4.top
      refine ⟨δ2, _, _, Ed, ⟨F2, ow, S5⟩, q, fun u z δ3 H4 q2 ⟨F5, ow5, S6⟩ => ?_, w.push⟩
      obtain ⟨F7, S7, s7⟩ := S6.top_frz
      exact hd' y u _ _ F7 H4 Q _ S7.fh S7.pop.top S7.top q2 fun v dv F8 H5 q3 m => k _ _ _ _ q3 (m.stt S7.pop.pop)
theorem ptd_chain {a b e : Expr} {op op' : CmpOp} {r r' : R2} {rd rd' : RD2} {ta tb tc : TD} {pos : Pos} (ho : OpR X (compareOp op) r) (hd : Op2 X.K r rd) (ho' : OpR X (compareOp op') r') (hd' : Op2 X.K r' rd') (ha : PE X a (LE X.K c W ta)) (hb : PE X b (LE X.K c W tb)) (hc : PE X e (LE X.K c W tc)) (hm : lastMarks [op, op'] [b, e] = false) :
    PT X (.Compare a [op, op'] [b, e] pos) (LT X.K c W (tvD (chainD rd rd' ta tb tc))) :=
  PT_imp (pt_chain ho ho' ha hb hc (hm := hm)) fun σ H Q ⟨δ, tmp, Qd, Ed, S, q, k, w⟩ => lift_chain hd hd' σ H _ ⟨δ, tmp, _, Ed, S, q, fun v x δ' H' ⟨b, e, q'⟩ ⟨F, ow, S'⟩ => by
    subst e
    cases S'.top
    exact ⟨b, rfl, k _ _ _ q' ⟨F, ow, S'.pop⟩⟩, w⟩
/-! ### a, b = e -/
def unpackD (t : TD) (g : TDG) : TDS := fun D δ => t δ (fun x δ1 => g x.toD δ1 D.nx) D.ex
theorem psd_unpack {tg e : Expr} {t : TD} {g : TDG} {vs : List Nat} {pos : Pos} (he : PE X e (LE X.K c W t)) (hg : PG X tg (LG X.K c vs g)) (h : ∀ {te : TE} {g : TG}, PE X e te → PG X tg g → PS X (.Assign [tg] e pos) (tAsg te g)) : PS X (.Assign [tg] e pos) (LS X.K c W (unpackD t g)) :=
  PS_imp (h he hg) fun D σ H ⟨δ, tmp, Dd, S, q, k, kr, kb, kc, w⟩ => ⟨δ, tmp, _, _, S, q, fun v x δ' H' q' ⟨F, ow, S'⟩ => by
    obtain ⟨F2, S2, _⟩ := S'.top_frz
    exact ⟨δ', tmp, _, _, ⟨F2, ow, S2⟩, q', fun δ3 σ3 H3 q3 S3 _ => k _ _ _ q3 S3⟩, w⟩
/-! ### lists and tuples, whichever it is -/
/-! ### enumerate, zip: pairs -/
def zipL (xs ys : List D) : List D := (xs.zip ys).map fun p => .tup [p.1, p.2]
/-! ### slices -/
abbrev TDO := DSt → (Option Int → DSt → Prop) → XD → Prop
def LO (K : PySem.W.Frag) (c : Fc) (W : WX) (t : TDO) : TO := fun σ H Q => ∃ δ tmp Qd Ed, Stt K c δ tmp σ H ∧ t δ Qd Ed ∧ (∀ i δ' H', Qd i δ' → Stt K c δ' tmp σ H' → Q i H') ∧ WD K c W tmp Ed
theorem PO_imp {e : Option Expr} {t t' : TO} (h : PO X e t) (f : ∀ σ H Q, t' σ H Q → t σ H Q) : PO X e t' := ⟨fun pins s σ H Q I q => h.run pins s σ H Q I (f _ _ _ q)⟩
def noneO : TDO := fun δ Q _ => Q none δ
def someO (t : TD) : TDO := fun δ Q E => t δ (fun x δ1 => ∃ i, x.toD = .int i ∧ Q (some i) δ1) E
theorem pod_none : PO X none (LO X.K c W noneO) := PO_imp po_none fun σ H Q ⟨δ, tmp, Qd, Ed, S, q, k, w⟩ => k _ _ _ q S
theorem pod_some {e : Expr} {t : TD} (he : PE X e (LE X.K c W t)) : PO X (some e) (LO X.K c W (someO t)) := PO_imp (po_some he) fun σ H Q ⟨δ, tmp, Qd, Ed, S, q, k, w⟩ =>
  ⟨δ, tmp, _, Ed, S, q, fun v x δ' H' ⟨i, e, q'⟩ ⟨F, ow, S'⟩ => by
    obtain ⟨F2, S2, _⟩ := S'.top_frz
    rw [e] at S2
    cases S2.top
    exact ⟨i, rfl, k _ _ _ q' ⟨F2, ow, S2.pop⟩⟩, w⟩
abbrev RDS := D → Option Int → Option Int → (DV → Prop) → Prop
def SlD (K : PySem.W.Frag) (r : V → Option Int → Option Int → Hp → VK → Prop) (rd : RDS) : Prop := ∀ x a lo hi F H Q Qd, Same F H → Rep K F x a → rd a lo hi Qd → (∀ v dv F' H', Qd dv → Made K F H F' H' v dv → Q v H') → r x lo hi H Q
def sliceD (rd : RDS) (t : TD) (tl th : TDO) : TD := fun δ Q E => t δ (fun x δ1 => tl δ1 (fun l δ2 => th δ2 (fun h δ3 => rd x.toD l h fun z => Q z δ3) E) E) E
theorem pd_sliceR {e : Expr} {lo hi : Option Expr} {r : V → Option Int → Option Int → Hp → VK → Prop} {rd : RDS} {t : TD} {tl th : TDO} {p2 pos : Pos} (hr : SlR X r) (hd : SlD X.K r rd) (he : PE X e (LE X.K c W t)) (hl : PO X lo (LO X.K c W tl)) (hh : PO X hi (LO X.K c W th)) :
    PE X (.Subscript e (.Slice lo hi none p2) pos) (LE X.K c W (sliceD rd t tl th)) := PE_imp (pe_slice hr he hl hh) fun σ H Q ⟨δ, tmp, Qd, Ed, S, q, k, w⟩ =>
  ⟨δ, tmp, _, Ed, S, q, fun v x δ1 H1 q1 S1 => ⟨δ1, _, _, Ed, S1, q1, fun l δ2 H2 q2 S2 => ⟨δ2, _, _, Ed, S2, q2, fun h δ3 H3 q3 ⟨F, ow, S3⟩ => by
    obtain ⟨F2, S4, _⟩ := S3.top_frz
    exact hd v _ l h F2 H3 Q _ S4.fh S4.top q3 fun u dv F5 H5 q5 m => k _ _ _ _ q5 (m.stt S4.pop), w.push⟩, w.push⟩, w⟩
abbrev sliceL : RDS := fun a lo hi Q => ∃ xs, (a = .lst xs ∨ a = .ro xs) ∧ Q (.own (.lst (cutD xs lo hi)))
theorem sld_list {K : PySem.W.Frag} : SlD K (rSlL K) sliceL := fun x a lo hi F H Q Qd s r ⟨xs, e, q⟩ k => by
  rcases e with rfl | rfl
  · cases r with | lst s1 r1 => exact ⟨_, _, rfl, s.seq (SqL.of s1), fun p n => k _ _ _ _ q (made_list n s (r1.cut lo hi))⟩
  · cases r with | ro s1 r1 => exact ⟨_, _, rfl, s.seq s1, fun p n => k _ _ _ _ q (made_list n s (r1.cut lo hi))⟩
theorem pd_slice {e : Expr} {lo hi : Option Expr} {t : TD} {tl th : TDO} {p2 pos : Pos} (he : PE X e (LE X.K c W t)) (hl : PO X lo (LO X.K c W tl)) (hh : PO X hi (LO X.K c W th)) : PE X (.Subscript e (.Slice lo hi none p2) pos) (LE X.K c W (sliceD sliceL t tl th)) := pd_sliceR sl_list sld_list he hl hh
/-! ### dicts by tuples of ints and texts -/
/-- a tuple of ints and texts as a key -/
def keyD : List Key → D := fun ks => .tup (ks.map fun | .inl i => .int i | .inr x => .str x)
theorem keyD_V {K : PySem.W.Frag} {F H : Hp} {v : V} {ks : List Key} (s : Same F H) (r : Rep K F v (keyD ks)) : ∃ b, v = .ref b ∧ H b = some (.tup (ks.map kV)) := by
  unfold keyD at r
  cases r with
  | tup s1 r1 =>
    refine ⟨_, rfl, ?_⟩
    rw [s _ _ s1]
    congr 2
    exact repL_map (f := kV) (fun {F v a} r => by cases a <;> (cases r; rfl)) r1
def valD (kvs : List (List Key × D)) (k : List Key) : Option D := (kvs.find? fun p => decide (p.1 = k)).map (·.2)
end
end DL

set_option Elab.async false
set_option linter.all false
set_option maxRecDepth 100000
/-! readings step by step -/
namespace DR
open PySem PySem.Spec PyProof.Rows L2 DL
section
variable {δ : DSt} {Q : DK} {E : XD} {D : EndsD}
theorem seq {t u : TDS} (h : t { D with nx := u D } δ) : seqD t u D δ := h
theorem next (h : D.nx δ) : nextD D δ := h
theorem drop {t : TD} (h : t δ (fun _ δ1 => D.nx δ1) D.ex) : dropD t D δ := h
theorem ret {t : TD} (h : t δ D.rt D.ex) : retD t D δ := h
theorem set {i : Nat} {t : TD} (h : t δ (fun x δ1 => D.nx (δ1.set i (some (.d x.toD)))) D.ex) : setD i t D δ := h
theorem setO {i : Nat} {t : TD} (h : t δ (fun x δ1 => D.nx (δ1.set i (some x))) D.ex) : DL.setO i t D δ := h
theorem setLc {i : Nat} {o : Bool} {t : TD} (h : t δ (fun x δ1 => D.nx (δ1.set i (some (asD o x)))) D.ex) : setLcD i o t D δ := h
theorem unpack {t : TD} {g : TDG} (h : t δ (fun x δ1 => g x.toD δ1 D.nx) D.ex) : unpackD t g D δ := h
theorem if_ {c : TDT} {t u : TDS} (h : c δ (fun b δ1 => if b = true then t D δ1 else u D δ1) D.ex) : ifD c t u D δ := h
theorem ifE {c : TDT} {t u : TD} (h : c δ (fun b δ1 => if b = true then t δ1 Q E else u δ1 Q E) E) : ifExpD c t u δ Q E := h
theorem not {t : TDT} {Q : Bool → DSt → Prop} (h : t δ (fun b δ1 => Q (!b) δ1) E) : notD t δ Q E := h
theorem and {t u : TDT} {Q : Bool → DSt → Prop} (h : t δ (fun b δ1 => if b = true then u δ1 Q E else Q false δ1) E) : andD t u δ Q E := h
theorem or {t u : TDT} {Q : Bool → DSt → Prop} (h : t δ (fun b δ1 => if b = true then Q true δ1 else u δ1 Q E) E) : orD t u δ Q E := h
theorem tv {t : TD} {Q : Bool → DSt → Prop} (h : t δ (fun x δ1 => ∃ b, x = .d (.bl b) ∧ Q b δ1) E) : tvD t δ Q E := h
theorem notv {t : TD} (h : t δ (fun x δ1 => ∃ b, x = .d (.bl b) ∧ Q (.d (.bl (!b))) δ1) E) : notV t δ Q E := h
theorem andv {t u : TD} (h : t δ (fun x δ1 => ∃ b, x = .d (.bl b) ∧ if b = true then u δ1 Q E else Q (.d (.bl false)) δ1) E) : andV t u δ Q E := h
theorem orv {t u : TD} (h : t δ (fun x δ1 => ∃ b, x = .d (.bl b) ∧ if b = true then Q (.d (.bl true)) δ1 else u δ1 Q E) E) : orV t u δ Q E := h
theorem const {d : DL.D} (h : Q (.d d) δ) : constD d δ Q E := h
theorem var {i : Nat} {x : DL.D} (e : δ[i]? = some (some (.d x))) (h : Q (.d x) δ) : varD i δ Q E := ⟨x, e, h⟩
theorem fvar {i : Nat} {x : DV} (e : δ[i]? = some (some x)) (h : Q (.d x.toD) (δ.set i (some (.d x.toD)))) : fvarD i δ Q E := ⟨x, e, h⟩
theorem op {rd : RD2} {ta tb : TD} (h : ta δ (fun x δ1 => tb δ1 (fun y δ2 => rd x.toD y.toD fun z => Q z δ2) E) E) : opD rd ta tb δ Q E := h
theorem chain {rd rd' : RD2} {ta tb tc : TD} (h : ta δ (fun x δ1 => tb δ1 (fun y δ2 => rd x.toD y.toD fun z => ∃ k, z = .d (.bl k) ∧ if k = true then tc δ2 (fun w δ3 => rd' y.toD w.toD fun z' => Q z' δ3) E else Q (.d (.bl false)) δ2) E) E) : chainD rd rd' ta tb tc δ Q E := h
theorem neg {t : TD} (h : t δ (fun x δ1 => ∃ i, x.toD = .int i ∧ Q (.d (.int (-i))) δ1) E) : negD t δ Q E := h
theorem nil {Q : List AV → DSt → Prop} (h : Q [] δ) : nilD δ Q E := h
theorem cons {t : TD} {r : TDA} {Q : List AV → DSt → Prop} (h : t δ (fun x δ1 => r δ1 (fun as δ2 => Q (.d x.toD :: as) δ2) E) E) : consD t r δ Q E := h
theorem consO {i : Nat} {r : TDA} {Q : List AV → DSt → Prop} (h : r δ (fun as δ2 => Q (.o i :: as) δ2) E) : DL.consO i r δ Q E := h
theorem call {sd : SpD} {ta : TDA} (h : ta δ (fun as δ1 => ∃ xs, argsOf δ1 as xs ∧ (slotsOf as).Nodup ∧ sd xs (fun r os => Q r (putBack δ1 (slotsOf as) os)) (fun x os => E x (putBack δ1 (slotsOf as) os))) E) : callD sd ta δ Q E := h
theorem built {rd : RDN} {ta : TDA} (h : ta δ (fun as δ1 => ∃ ds, as = ds.map .d ∧ rd ds fun z => Q z δ1) E) : builtD rd ta δ Q E := h
theorem tup {ta : TDA} (h : ta δ (fun as δ1 => ∃ ds, as = ds.map .d ∧ ds.length ≤ sizeLine ∧ Q (.d (.tup ds)) δ1) E) : tupD ta δ Q E := h
theorem lst {ta : TDA} (h : ta δ (fun as δ1 => ∃ ds, as = ds.map .d ∧ ds.length ≤ sizeLine ∧ Q (.own (.lst ds)) δ1) E) : lstD ta δ Q E := h
theorem ixo {i : Nat} {t : TD} {o : OC} (e : δ[i]? = some (some (.own o))) (h : t δ (fun k δ1 => ∃ xs j d, δ1[i]? = some (some (.own (.lst xs))) ∧ k.toD = .int j ∧ atI xs j = some d ∧ Q (.d d) δ1) E) : ixO i t δ Q E := ⟨o, e, h⟩
theorem setItem {j : Nat} {ti te : TD} {o : OC} (e : δ[j]? = some (some (.own o))) (h : te δ (fun y δ1 => ti δ1 (fun k δ2 => ∃ xs n m, δ2[j]? = some (some (.own (.lst xs))) ∧ k.toD = .int n ∧ ixN xs.length n = some m ∧ D.nx (δ2.set j (some (.own (.lst (xs.set m y.toD)))))) D.ex) D.ex) : DL.setItem j ti te D δ := ⟨o, e, h⟩
theorem meth {j : Nat} {rd : RDM} {ta : TDA} {x0 : List DL.D} (e : δ[j]? = some (some (.own (.lst x0)))) (h : ta δ (fun as δ1 => ∃ ds xs, as = ds.map .d ∧ δ1[j]? = some (some (.own (.lst xs))) ∧ rd xs ds fun z zs => Q (.d z) (δ1.set j (some (.own (.lst zs))))) E) : methO j rd ta δ Q E := ⟨x0, e, h⟩
theorem fld {C : Addr} {f : Str} {t : TD} (h : t δ (fun o δ1 => ∃ fs d, o.toD = .obj C fs ∧ fs.lookup f = some d ∧ Q (.d d) δ1) E) : fldD C f t δ Q E := h
theorem fldo {C : Addr} {i : Nat} {f : Str} {fs : List (Str × DL.D)} {d : DL.D} (e : δ[i]? = some (some (.own (.ins C fs)))) (l : fs.lookup f = some d) (h : Q (.d d) δ) : fldO C i f δ Q E := ⟨fs, d, e, l, h⟩
theorem fldset {C : Addr} {i : Nat} {f : Str} {t : TD} (h : t δ (fun y δ1 => ∃ fs, δ1[i]? = some (some (.own (.ins C fs))) ∧ fs.length < 1000 ∧ D.nx (δ1.set i (some (.own (.ins C (putD f y.toD fs)))))) D.ex) : fldSet C i f t D δ := h
theorem methd {C : Addr} {m : Str} {sd : SpD} {to : TD} {ta : TDA} (h : to δ (fun o δ1 => ∃ fs, o.toD = .obj C fs ∧ fs.lookup m = none ∧ ta δ1 (fun as δ2 => ∃ xs, argsOf δ2 as xs ∧ (slotsOf as).Nodup ∧
  sd (.d (.obj C fs) :: xs) (fun r os => Q r (putBack δ2 (slotsOf as) os)) (fun x os => E x (putBack δ2 (slotsOf as) os))) E) E) : methD C m sd to ta δ Q E := h
theorem for_ {ti : TDI} {g : TDG} {tb : TDS} (h : ti δ (fun xs δ1 => forD g tb D xs δ1) D.ex) : forS ti g tb D δ := h
theorem comp {ti : TDI} {g : TDG} {tt : TDT} {te : TD} {vs : List Nat} (h : ti δ (fun xs δ1 => lcD g tt te vs xs [] (wipeD δ1 vs) fun acc δ2 => Q (.own (.lst acc)) δ2) E) : compD ti g tt te vs δ Q E := h
theorem yes {Q : Bool → DSt → Prop} (h : Q true δ) : yesD δ Q E := h
theorem nameg {i : Nat} {x : DL.D} {Q : DSt → Prop} (h : Q (δ.set i (some (.d x)))) : nameG i x δ Q := h
theorem tupg {is : List Nat} {xs : List DL.D} {Q : DSt → Prop} (h : namesG is xs δ Q) : tupG is (.tup xs) δ Q := ⟨xs, rfl, h⟩
theorem namesC {i : Nat} {is : List Nat} {x : DL.D} {xs : List DL.D} {Q : DSt → Prop} (h : namesG is xs (δ.set i (some (.d x))) Q) : namesG (i :: is) (x :: xs) δ Q := h
theorem namesN {Q : DSt → Prop} (h : Q δ) : namesG [] [] δ Q := h
theorem listi {t : TD} {Q : List DL.D → DSt → Prop} (h : t δ (fun x δ1 => ∃ xs, (x.toD = .lst xs ∨ x.toD = .ro xs) ∧ Q xs δ1) E) : listI t δ Q E := h
theorem tupi {t : TD} {Q : List DL.D → DSt → Prop} (h : t δ (fun x δ1 => ∃ xs, x.toD = .tup xs ∧ Q xs δ1) E) : tupI t δ Q E := h
theorem stri {t : TD} {Q : List DL.D → DSt → Prop} (h : t δ (fun x δ1 => ∃ z, x.toD = .str z ∧ Q (z.cps.toList.map fun ch => .str ⟨#[ch]⟩) δ1) E) : strI t δ Q E := h
theorem range1 {ta : TDA} {Q : List DL.D → DSt → Prop} (h : ta δ (fun as δ1 => ∃ j, as = [.d (.int j)] ∧ -(2 ^ 62) ≤ j ∧ j < 2 ^ 62 ∧ Q (upto 0 j.toNat) δ1) E) : range1I ta δ Q E := h
theorem iteT {A B : Prop} (h : A) : if true = true then A else B := h
theorem iteF {A B : Prop} (h : B) : if false = true then A else B := h
theorem nit {A B : Prop} (h : B) : if (!true) = true then A else B := h
theorem nif {A B : Prop} (h : A) : if (!false) = true then A else B := h
/-- an open test -/
theorem split {p : Prop} [Decidable p] {A B : Prop} (h1 : p → A) (h2 : ¬ p → B) : if decide p = true then A else B := by
  by_cases h : p
  · rw [if_pos (decide_eq_true h)]; exact h1 h
  · rw [if_neg (by rw [decide_eq_false h]; exact Bool.false_ne_true)]; exact h2 h
end
theorem args_n {δ : DSt} : argsOf δ [] [] := rfl
theorem args_d {δ : DSt} {x : DL.D} {r : List AV} {t : List DV} (h : argsOf δ r t) : argsOf δ (.d x :: r) (.d x :: t) := ⟨t, rfl, h⟩
theorem args_o {δ : DSt} {i : Nat} {o : OC} {r : List AV} {t : List DV} (e : δ[i]? = some (some (.own o))) (h : argsOf δ r t) : argsOf δ (.o i :: r) (.own o :: t) := ⟨o, t, e, rfl, h⟩
theorem nost_i {i : Int} : NoStr (.int i) := fun _ e => nomatch e
theorem nost_b {b : Bool} : NoStr (.bl b) := fun _ e => nomatch e
theorem start {t : TDS} {D : EndsD} {δ δ' : DSt} (e : δ = δ') (h : t D δ') : t D δ := by rw [e]; exact h
theorem tk_n {δ : DSt} : takeB δ [] [] := rfl
theorem tk_c {δ : DSt} {i : Nat} {is : List Nat} {o : OC} {os : List OC} (e : δ[i]? = some (some (.own o))) (h : takeB δ is os) : takeB δ (i :: is) (o :: os) := ⟨o, os, rfl, e, h⟩
theorem rt {sl : List Nat} {Qd : DV → List OC → Prop} {Ed : Ex → List OC → Prop} {x : DV} {δ : DSt} {os : List OC} (t : takeB δ sl os) (q : Qd x os) : (endsD sl Qd Ed).rt x δ := ⟨os, t, q⟩
theorem nx {sl : List Nat} {Qd : DV → List OC → Prop} {Ed : Ex → List OC → Prop} {δ : DSt} {os : List OC} (t : takeB δ sl os) (q : Qd (.d .non) os) : (endsD sl Qd Ed).nx δ := ⟨os, t, q⟩
theorem ex {sl : List Nat} {Qd : DV → List OC → Prop} {Ed : Ex → List OC → Prop} {x : Ex} {δ : DSt} {os : List OC} (t : takeB δ sl os) (q : Ed x os) : (endsD sl Qd Ed).ex x δ := ⟨os, t, q⟩
end DR
namespace DL
open PySem PySem.Spec PyProof.Rows L2
/-- a def as its callers know it -/
structure DefD (P : Program) (w : World) (K : PySem.W.Frag) (mg : Str → Option Value) (base : Heap) (x : Str) (k : Nat) (ps : List Str) (sd : SpD) where
  f : Addr
  fd : FuncData
  ok : FnOk P w K mg base (L2.CX P w) k f fd ps (spOf K sd)
  mg : mg x = some (.ref f)
  kp : PySem.W.keepIn K (.ref f) = true
  b : Binds K fd ps []
end DL

set_option Elab.async false
set_option linter.all false
set_option maxRecDepth 100000
namespace DL
open PySem PySem.Spec PyProof.Rows L2
/-! ### dicts by tuples -/
section
variable {K : PySem.W.Frag} {F H : Hp}
theorem repT_get {k : List Key} : ∀ {vs : List (List Key × V)} {ds : List (List Key × D)}, RepT K F vs ds → (valD ds k = none → valV vs k = none) ∧ ∀ d, valD ds k = some d → ∃ v, valV vs k = some v ∧ Rep K F v d
  | _, _, .nil => ⟨fun _ => rfl, fun d h => nomatch h⟩
  | _, _, .cons (n := n) (v := v) (d := d) (vs := vs) (ds := ds) h t => by
    by_cases e : n = k
    · have e1 : valD ((n, d) :: ds) k = some d := by simp [valD, List.find?_cons, e]
      rw [e1, valV_pos (p := (n, v)) e]
      exact ⟨(fun z => nomatch z), fun d z => by cases z; exact ⟨v, rfl, h⟩⟩
    · have e1 : valD ((n, d) :: ds) k = valD ds k := by simp [valD, List.find?_cons, e]
      rw [e1, valV_neg (p := (n, v)) e]
      exact repT_get t
end
section
variable {X : Cx} {c : Fc} {W : WX}
def getO (j : Nat) (ti : TD) : TD := fun δ Q E => ∃ o, δ[j]? = some (some (.own o)) ∧ ti δ (fun k δ1 => ∃ kvs ks d, δ1[j]? = some (some (.own (.dT kvs))) ∧ k.toD = keyD ks ∧ valD kvs ks = some d ∧ Q (.d d) δ1) E
/-! ### a property that raises nothing -/
end
end DL

set_option Elab.async false
set_option linter.all false
set_option maxRecDepth 100000
/-! loops by what stays true -/
namespace DR
open PySem PySem.Spec PyProof.Rows L2 DL
theorem cut {t u : TDS} {D : EndsD} {δ : DSt} (I : DSt → Prop) (h1 : ∀ N : DSt → Prop, (∀ δ, I δ → N δ) → t { D with nx := N } δ) (h2 : ∀ δ, I δ → u D δ) : seqD t u D δ := h1 _ h2
theorem icut {ti : TDI} {E : XD} {δ : DSt} {Q : List DL.D → DSt → Prop} (I : List DL.D → DSt → Prop) (h1 : ∀ N : List DL.D → DSt → Prop, (∀ xs δ, I xs δ → N xs δ) → ti δ N E) (h2 : ∀ xs δ, I xs δ → Q xs δ) : ti δ Q E := h1 _ h2
theorem for_inv {g : TDG} {tb : TDS} {D : EndsD} {xs : List DL.D} {δ : DSt} (I : Nat → DSt → Prop) (h0 : I 0 δ)
    (hs : ∀ i x δ (N : DSt → Prop), xs[i]? = some x → I i δ → (∀ δ', I (i + 1) δ' → N δ') → g x δ (fun δ1 => tb { D with nx := N, ct := N, bk := D.nx } δ1))
    (hn : ∀ δ, I xs.length δ → D.nx δ) : forD g tb D xs δ := by
  have go : ∀ (m i : Nat) δ, i + m = xs.length → I i δ → forD g tb D (xs.drop i) δ := fun m => by
    induction m with
    | zero =>
      intro i δ e h
      have e : i = xs.length := e
      subst e
      rw [List.drop_length]
      exact hn δ h
    | succ m ih =>
      intro i δ e h
      have hl : i < xs.length := by omega
      rw [List.drop_eq_getElem_cons hl]
      exact hs i _ δ _ (List.getElem?_eq_getElem hl) h fun δ' h' => ih (i + 1) δ' (by omega) h'
  exact go xs.length 0 δ (Nat.zero_add _) h0
theorem lc_inv {g : TDG} {tt : TDT} {te : TD} {vs : List Nat} {xs : List DL.D} {δ : DSt} {Q : List DL.D → DSt → Prop} (J : Nat → List DL.D → DSt → Prop) (h0 : J 0 [] δ)
    (hs : ∀ i x acc δ (N : List DL.D → DSt → Prop), xs[i]? = some x → J i acc δ → (∀ acc' δ', J (i + 1) acc' δ' → N acc' δ') →
      g x δ (fun δ1 => tt δ1 (fun b δ2 => if b = true then te δ2 (fun y δ3 => acc.length < sizeLine ∧ N (acc ++ [y.toD]) (wipeD δ3 vs)) noX else N acc (wipeD δ2 vs)) noX))
    (hn : ∀ acc δ, J xs.length acc δ → Q acc δ) : lcD g tt te vs xs [] δ Q := by
  have go : ∀ (m i : Nat) acc δ, i + m = xs.length → J i acc δ → lcD g tt te vs (xs.drop i) acc δ Q := fun m => by
    induction m with
    | zero =>
      intro i acc δ e h
      have e : i = xs.length := e
      subst e
      rw [List.drop_length]
      exact hn acc δ h
    | succ m ih =>
      intro i acc δ e h
      have hl : i < xs.length := by omega
      rw [List.drop_eq_getElem_cons hl]
      exact hs i _ acc δ (fun a d => lcD g tt te vs (xs.drop (i + 1)) a d Q) (List.getElem?_eq_getElem hl) h fun acc' δ' h' => ih (i + 1) acc' δ' (by omega) h'
  exact go xs.length 0 [] δ (Nat.zero_add _) h0
/-- each item gives one or none, and nothing else changes -/
theorem lc_filter {g : TDG} {tt : TDT} {te : TD} {vs : List Nat} {xs : List DL.D} {δ : DSt} {Q : List DL.D → DSt → Prop} (f : DL.D → Option DL.D)
    (hs : ∀ x (acc : List DL.D) (N : List DL.D → DSt → Prop), x ∈ xs → acc.length < xs.length → N (acc ++ (f x).toList) δ →
      g x δ (fun δ1 => tt δ1 (fun b δ2 => if b = true then te δ2 (fun y δ3 => acc.length < sizeLine ∧ N (acc ++ [y.toD]) (wipeD δ3 vs)) noX else N acc (wipeD δ2 vs)) noX))
    (hn : Q (xs.filterMap f) δ) : lcD g tt te vs xs [] δ Q := by
  refine lc_inv (fun i acc δ' => δ' = δ ∧ acc = (xs.take i).filterMap f) ⟨rfl, by rw [List.take_zero]; rfl⟩ (fun i x acc δ' N hx ⟨e1, e2⟩ k => ?_) fun acc δ' ⟨e1, e2⟩ => by subst e1; rw [e2, List.take_length]; exact hn
  subst e1
  have hl : i < xs.length := by
    rcases Nat.lt_or_ge i xs.length with h | h
    · exact h
    · rw [List.getElem?_eq_none h] at hx; cases hx
  have hle : acc.length ≤ i := by
    rw [e2]
    exact Nat.le_trans (List.length_filterMap_le ..) (by rw [List.length_take]; exact Nat.min_le_left ..)
  refine hs x acc N (List.mem_of_getElem? hx) (by omega) (k _ _ ⟨rfl, ?_⟩)
  rw [List.take_succ, hx, List.filterMap_append, ← e2]
  show _ = acc ++ [x].filterMap f
  cases e : f x <;> simp [e]
theorem lc_map {g : TDG} {tt : TDT} {te : TD} {vs : List Nat} {xs : List DL.D} {δ : DSt} {Q : List DL.D → DSt → Prop} (f : DL.D → DL.D)
    (hs : ∀ x (acc : List DL.D) (N : List DL.D → DSt → Prop), x ∈ xs → acc.length < xs.length → N (acc ++ [f x]) δ →
      g x δ (fun δ1 => tt δ1 (fun b δ2 => if b = true then te δ2 (fun y δ3 => acc.length < sizeLine ∧ N (acc ++ [y.toD]) (wipeD δ3 vs)) noX else N acc (wipeD δ2 vs)) noX))
    (hn : Q (xs.map f) δ) : lcD g tt te vs xs [] δ Q :=
  lc_filter (fun x => some (f x)) (fun x acc N hx hl n => hs x acc N hx hl n) (by rw [List.filterMap_eq_map']; exact hn)
end DR

set_option Elab.async false
set_option linter.all false
set_option maxRecDepth 100000
namespace DR
open PySem PySem.Spec PyProof.Rows L2 DL
theorem map_at {α β : Type} {f : α → β} {l : List α} {i : Nat} {y : β} (h : (l.map f)[i]? = some y) : ∃ x, l[i]? = some x ∧ y = f x := by
  rw [List.getElem?_map] at h
  cases q : l[i]? with
  | none => rw [q] at h; cases h
  | some x => rw [q] at h; cases h; exact ⟨x, rfl, rfl⟩
theorem at_lt {α : Type} {l : List α} {i : Nat} {x : α} (h : l[i]? = some x) : i < l.length := by
  rcases Nat.lt_or_ge i l.length with h1 | h1
  · exact h1
  · rw [List.getElem?_eq_none h1] at h; cases h
/-- the items stand for others -/
theorem lc_filterM {α : Type} {g : TDG} {tt : TDT} {te : TD} {vs : List Nat} {l : List α} {r : α → DL.D} {δ : DSt} {Q : List DL.D → DSt → Prop} (f : α → Option DL.D)
    (hs : ∀ x (acc : List DL.D) (N : List DL.D → DSt → Prop), x ∈ l → acc.length < l.length → N (acc ++ (f x).toList) δ →
      g (r x) δ (fun δ1 => tt δ1 (fun b δ2 => if b = true then te δ2 (fun y δ3 => acc.length < sizeLine ∧ N (acc ++ [y.toD]) (wipeD δ3 vs)) noX else N acc (wipeD δ2 vs)) noX))
    (hn : Q (l.filterMap f) δ) : lcD g tt te vs (l.map r) [] δ Q := by
  refine lc_inv (fun i acc δ' => δ' = δ ∧ acc = (l.take i).filterMap f) ⟨rfl, by rw [List.take_zero]; rfl⟩ (fun i x acc δ' N hx ⟨e1, e2⟩ k => ?_) fun acc δ' ⟨e1, e2⟩ => by subst e1; rw [e2, List.length_map, List.take_length]; exact hn
  subst e1
  obtain ⟨x, hy, rfl⟩ := map_at hx
  have hl := at_lt hy
  have hle : acc.length ≤ i := by
    rw [e2]
    exact Nat.le_trans (List.length_filterMap_le ..) (by rw [List.length_take]; exact Nat.min_le_left ..)
  refine hs x acc N (List.mem_of_getElem? hy) (by omega) (k _ _ ⟨rfl, ?_⟩)
  rw [List.take_succ, hy, List.filterMap_append, ← e2]
  show _ = acc ++ [x].filterMap f
  cases e : f x <;> simp [e]
theorem lc_mapM {α : Type} {g : TDG} {tt : TDT} {te : TD} {vs : List Nat} {l : List α} {r : α → DL.D} {δ : DSt} {Q : List DL.D → DSt → Prop} (f : α → DL.D)
    (hs : ∀ x (acc : List DL.D) (N : List DL.D → DSt → Prop), x ∈ l → acc.length < l.length → N (acc ++ [f x]) δ →
      g (r x) δ (fun δ1 => tt δ1 (fun b δ2 => if b = true then te δ2 (fun y δ3 => acc.length < sizeLine ∧ N (acc ++ [y.toD]) (wipeD δ3 vs)) noX else N acc (wipeD δ2 vs)) noX))
    (hn : Q (l.map f) δ) : lcD g tt te vs (l.map r) [] δ Q :=
  lc_filterM (fun x => some (f x)) (fun x acc N hx hl n => hs x acc N hx hl n) (by rw [List.filterMap_eq_map']; exact hn)
end DR
namespace DR
open PySem PySem.Spec PyProof.Rows L2 DL
section
variable {δ : DSt} {Q : DK} {E : XD} {D : EndsD}
theorem getO {j : Nat} {ti : TD} {o : OC} (e : δ[j]? = some (some (.own o))) (h : ti δ (fun k δ1 => ∃ kvs ks d, δ1[j]? = some (some (.own (.dT kvs))) ∧ k.toD = keyD ks ∧ valD kvs ks = some d ∧ Q (.d d) δ1) E) : DL.getO j ti δ Q E := ⟨o, e, h⟩
end
end DR
/-! own objects lent to a def that doesn't change them, for an answer without addresses -/
namespace DL
open PySem PySem.Spec PyProof.Rows L2
section
variable {K : PySem.W.Frag} {F F' F'' H H' : Hp}
end
end DL

set_option Elab.async false
set_option linter.all false
set_option maxRecDepth 100000
namespace DL
open PySem PySem.Spec PyProof.Rows L2
section
variable {X : Cx} {c : Fc} {W : WX}
/-! ### a list or a tuple -/
def seqO (t : TD) : TDI := fun δ Q E => listI t δ Q E ∨ tupI t δ Q E
theorem pid_seq {tg e : Expr} {t : TD} (he : PE X e (LE X.K c W t)) : PI X tg e (LI X.K c W (seqO t)) :=
  ⟨fun pins s σ H R I ⟨δ, tmp, Qd, Ed, S, q, k, w⟩ => q.elim (fun q => (pid_list he).run pins s σ H R I ⟨δ, tmp, Qd, Ed, S, q, k, w⟩) fun q => (pid_tup he).run pins s σ H R I ⟨δ, tmp, Qd, Ed, S, q, k, w⟩⟩
/-! ### zip -/
theorem zip_at {xs ys : List D} {i : Nat} {d : D} (h : (zipL xs ys)[i]? = some d) : ∃ x y, xs[i]? = some x ∧ ys[i]? = some y ∧ d = .tup [x, y] := by
  unfold zipL at h
  rw [List.getElem?_map] at h
  cases q : (xs.zip ys)[i]? with
  | none => rw [q] at h; cases h
  | some p =>
    rw [q] at h
    cases h
    obtain ⟨a, b⟩ := p
    obtain ⟨h1, h2⟩ := List.getElem?_zip_eq_some.mp q
    exact ⟨a, b, h1, h2, rfl⟩
theorem zip_len {xs ys : List D} : (zipL xs ys).length = min xs.length ys.length := by simp [zipL]
theorem row_l {K : PySem.W.Frag} {F H : Hp} {p : Addr} {x : D} {xs : List D} (e : x = .lst xs ∨ x = .ro xs) (s : Same F H) (r : Rep K F (.ref p) x) : ∃ vs, SqL K H p vs ∧ RepL K F vs xs := by
  rcases e with rfl | rfl
  · cases r with | lst s1 r1 => exact ⟨_, s.seq (SqL.of s1), r1⟩
  · cases r with | ro s1 r1 => exact ⟨_, s.seq s1, r1⟩
theorem row_t {K : PySem.W.Frag} {F H : Hp} {p : Addr} {xs : List D} (s : Same F H) (r : Rep K F (.ref p) (.tup xs)) : ∃ vs, SqT K H p vs ∧ RepL K F vs xs := by
  cases r with | tup s1 r1 => exact ⟨_, SqT.of (s _ _ s1), r1⟩
theorem gho2 {K : PySem.W.Frag} {F : Hp} {v : V} {a b : V} {x y : D} (r : Rep K F v (.gho [a, b] [x, y])) : Rep K F a x ∧ Rep K F b y := by
  cases r with
  | gho h =>
    cases h with
    | cons h1 t =>
      cases t with
      | cons h2 t => exact ⟨h1, h2⟩
theorem serve_zip {K : PySem.W.Frag} {a b : Addr} {x y : D} {xs ys : List D} (ex : x = .lst xs ∨ x = .ro xs) (ey : y = .lst ys ∨ y = .ro ys) : Serve K (Itz K a b) (.int 0) (.gho [.ref a, .ref b] [x, y]) (zipL xs ys) := by
  refine ⟨fun i F H s r hi => ?_, fun i F H s r hi => ?_, fun i F H z H' s r q d hd => ?_⟩
  · obtain ⟨vs, h1, l1⟩ := row_l ex s (gho2 r).1
    obtain ⟨us, h2, l2⟩ := row_l ey s (gho2 r).2
    rw [zip_len] at hi
    obtain ⟨v, e1, _⟩ := l1.get (List.getElem?_eq_getElem (show i < xs.length by omega))
    obtain ⟨u, e2, _⟩ := l2.get (List.getElem?_eq_getElem (show i < ys.length by omega))
    exact ⟨vs, us, v, u, h1, h2, e1, e2⟩
  · obtain ⟨vs, h1, l1⟩ := row_l ex s (gho2 r).1
    obtain ⟨us, h2, l2⟩ := row_l ey s (gho2 r).2
    rw [zip_len] at hi
    exact ⟨vs, us, h1, h2, by rw [l1.len, l2.len]; omega⟩
  · obtain ⟨vs, h1, l1⟩ := row_l ex s (gho2 r).1
    obtain ⟨us, h2, l2⟩ := row_l ey s (gho2 r).2
    obtain ⟨T, v, u, rfl, nT, rfl, y1, y2⟩ := q
    obtain ⟨d1, d2, g1, g2, rfl⟩ := zip_at hd
    obtain ⟨v', e1, r1⟩ := l1.get g1
    obtain ⟨u', e2, r2⟩ := l2.get g2
    rw [y1 vs h1] at e1
    rw [y2 us h2] at e2
    cases e1; cases e2
    have sF : Same F (upd F T (.tup [v, u])) := same_upd (Same.refl F) (s.free nT)
    exact ⟨_, Ext.new s nT, .tup upd_same (.cons (r1.mono sF) (.cons (r2.mono sF) .nil))⟩
theorem serve_zipT {K : PySem.W.Frag} {a b : Addr} {xs ys : List D} : Serve K (RZ.ItzT K a b) (.int 0) (.gho [.ref a, .ref b] [.tup xs, .tup ys]) (zipL xs ys) := by
  refine ⟨fun i F H s r hi => ?_, fun i F H s r hi => ?_, fun i F H z H' s r q d hd => ?_⟩
  · obtain ⟨vs, h1, l1⟩ := row_t s (gho2 r).1
    obtain ⟨us, h2, l2⟩ := row_t s (gho2 r).2
    rw [zip_len] at hi
    obtain ⟨v, e1, _⟩ := l1.get (List.getElem?_eq_getElem (show i < xs.length by omega))
    obtain ⟨u, e2, _⟩ := l2.get (List.getElem?_eq_getElem (show i < ys.length by omega))
    exact ⟨vs, us, v, u, h1, h2, e1, e2⟩
  · obtain ⟨vs, h1, l1⟩ := row_t s (gho2 r).1
    obtain ⟨us, h2, l2⟩ := row_t s (gho2 r).2
    rw [zip_len] at hi
    exact ⟨vs, us, h1, h2, by rw [l1.len, l2.len]; omega⟩
  · obtain ⟨vs, h1, l1⟩ := row_t s (gho2 r).1
    obtain ⟨us, h2, l2⟩ := row_t s (gho2 r).2
    obtain ⟨T, v, u, rfl, nT, rfl, y1, y2⟩ := q
    obtain ⟨d1, d2, g1, g2, rfl⟩ := zip_at hd
    obtain ⟨v', e1, r1⟩ := l1.get g1
    obtain ⟨u', e2, r2⟩ := l2.get g2
    rw [y1 vs h1] at e1
    rw [y2 us h2] at e2
    cases e1; cases e2
    have sF : Same F (upd F T (.tup [v, u])) := same_upd (Same.refl F) (s.free nT)
    exact ⟨_, Ext.new s nT, .tup upd_same (.cons (r1.mono sF) (.cons (r2.mono sF) .nil))⟩
def zipI (ta : TDA) : TDI := fun δ Q E => ta δ (fun as δ1 => ∃ x y xs ys, as = [.d x, .d y] ∧ (((x = .lst xs ∨ x = .ro xs) ∧ (y = .lst ys ∨ y = .ro ys)) ∨ (x = .tup xs ∧ y = .tup ys)) ∧ Q (zipL xs ys) δ1) E
theorem pid_zip {e e2 : Expr} {ta : TDA} {p pos tpos : Pos} {elts : List Expr} {kk : Nat} (hg : Gl X "zip") (hm : X.mg "zip" = none) (ha : PA X [e, e2] (LA X.K c W ta))
    (hs : starEach [e, e2] X.env = (false, eval e X.env) :: starEach [e2] X.env := by rfl) (hpl : (backTo pos (starEach [e2] X.env)).any (·.1) = false := by rfl) : PI X (.Tuple elts kk tpos) (.Call (.Name "zip" p) [e, e2] [] pos) (LI X.K c W (zipI ta)) :=
  PI_imp (RZ.pi_zipA hg hm ha hs hpl) fun σ H R ⟨δ, tmp, Qd, Ed, S, q, k, w⟩ => ⟨δ, tmp, _, _, S, q, fun vs as δ' F ow H' ⟨x, y, xs, ys, e, hx, q'⟩ S' ra => by
    subst e
    cases ra with
    | d h t =>
      cases t with
      | d h2 t =>
        cases t
        rcases hx with ⟨hx, hy⟩ | ⟨rfl, rfl⟩
        · have h0 := h
          have h20 := h2
          obtain ⟨a, us, rfl, g1, _⟩ := h.row (xs := xs) (by rcases hx with e | e <;> rw [e] <;> rfl)
          obtain ⟨b, ws, rfl, g2, _⟩ := h2.row (xs := ys) (by rcases hy with e | e <;> rw [e] <;> rfl)
          obtain ⟨us, g1, _⟩ := row_l hx S'.fh h
          obtain ⟨ws, g2, _⟩ := row_l hy S'.fh h2
          exact ⟨a, b, us, ws, rfl, .inl ⟨g1, g2, k _ _ _ _ _ _ q' (serve_zip hx hy) ⟨F, ow, S'.push (.gho (.cons h0 (.cons h20 .nil)))⟩⟩⟩
        · have h0 := h
          have h20 := h2
          cases h with
          | tup s1 r1 =>
            cases h2 with
            | tup s2 r2 => exact ⟨_, _, _, _, rfl, .inr ⟨SqT.of (S'.fh _ _ s1), SqT.of (S'.fh _ _ s2), k _ _ _ _ _ _ q' serve_zipT ⟨F, ow, S'.push (.gho (.cons h0 (.cons h20 .nil)))⟩⟩⟩, w⟩
end
end DL
namespace DR
open PySem PySem.Spec PyProof.Rows L2 DL
section
variable {δ : DSt} {E : XD} {Q : List DL.D → DSt → Prop}
theorem zipi {ta : TDA} (h : ta δ (fun as δ1 => ∃ x y xs ys, as = [.d x, .d y] ∧ (((x = .lst xs ∨ x = .ro xs) ∧ (y = .lst ys ∨ y = .ro ys)) ∨ (x = .tup xs ∧ y = .tup ys)) ∧ Q (zipL xs ys) δ1) E) : zipI ta δ Q E := h
theorem seqL {t : TD} (h : listI t δ Q E) : seqO t δ Q E := .inl h
theorem seqT {t : TD} (h : tupI t δ Q E) : seqO t δ Q E := .inr h
end
end DR

set_option Elab.async false
set_option linter.all false
set_option maxRecDepth 100000
namespace DL
open PySem PySem.Spec PyProof.Rows L2
section
variable {K : PySem.W.Frag} {F : Hp}
abbrev isiTS (K : PySem.W.Frag) : RDNs := fun ds Q => ∃ x cs t us b, ds = [x, .tup cs] ∧ ClsDs cs us ∧ TyD K x t ∧ PySem.W.kitAny K t us = some b ∧ Q (.bl b)
theorem cn_isiT : CallNs K (rIsiT K) (isiTS K) := fun xs ds F H Q Qd s r ⟨x, cs, t, us, b, e, hc, ht, hk, q⟩ k => by
  subst e
  cases r with
  | cons r t =>
    cases t with
    | cons r2 t =>
      cases t
      cases r2 with
      | tup s1 r1 => exact ⟨_, _, _, _, us, b, rfl, s _ _ s1, clsDs_v r1 hc, tyD_x s r ht, hk, k _ _ q rfl⟩
end
end DL

set_option Elab.async false
set_option linter.all false
set_option maxRecDepth 100000
namespace DL
open PySem PySem.Spec PyProof.Rows L2
theorem repL_str {K : PySem.W.Frag} {F : Hp} {l : List Str} {vs : List V} (r : RepL K F vs (l.map .str)) : vs = l.map V.str := repL_map (fun r => by cases r; rfl) r
section
variable {X : Cx} {c : Fc} {W : WX}
/-- len(set(t)) of a tuple of texts -/
def lenSetD (t : TD) : TD := fun δ Q E => t δ (fun x δ1 => ∃ xs : List Str, x.toD = .tup (xs.map .str) ∧ xs.length ≤ 1000 ∧ Q (.d (.int ((RS.uniq xs).length : Nat))) δ1) E
theorem pd_lenSet {e a : Expr} {t : TD} (h : ∀ {ta : TE}, PE X a ta → PE X e (RS.tLenSetT X.K ta)) (ha : PE X a (LE X.K c W t)) : PE X e (LE X.K c W (lenSetD t)) :=
  PE_imp (h ha) fun σ H Q ⟨δ, tmp, Qd, Ed, S, q, k, w⟩ => ⟨δ, tmp, _, Ed, S, q, fun v x δ1 H1 ⟨xs, ex, hl, q1⟩ ⟨F, ow, S1⟩ => by
    obtain ⟨F2, S2, _⟩ := S1.top_frz
    rw [ex] at S2
    have r := S2.top
    cases r with
    | tup s1 r1 =>
      have e := repL_str r1
      subst e
      exact ⟨_, xs, rfl, SqT.of (S2.fh _ _ s1), hl, k _ _ _ _ q1 ⟨F2, ow, S2.pop.push (.int _)⟩⟩, w⟩
end
end DL
namespace DR
open PySem PySem.Spec PyProof.Rows L2 DL
theorem lenSet {δ : DSt} {Q : DK} {E : XD} {t : TD} (h : t δ (fun x δ1 => ∃ xs : List Str, x.toD = .tup (xs.map .str) ∧ xs.length ≤ 1000 ∧ Q (.d (.int ((RS.uniq xs).length : Nat))) δ1) E) : lenSetD t δ Q E := h
end DR

set_option Elab.async false
set_option linter.all false
set_option maxRecDepth 100000
namespace DL
open PySem PySem.Spec PyProof.Rows L2
section
variable {K : PySem.W.Frag} {c : Fc} {W : WX} {F H : Hp} {ow : Addr → Option Hold} {δ : DSt} {tmp : List (V × DV)} {σ : L2.St} {p : Addr} {o : OC} {v : V} {d : D}
end
section
variable {X : Cx} {c : Fc} {W : WX}
end
end DL
namespace DR
open PySem PySem.Spec PyProof.Rows L2 DL
end DR

set_option Elab.async false
set_option linter.all false
set_option maxRecDepth 100000
namespace DL
open PySem PySem.Spec PyProof.Rows L2
theorem units65 {k : Nat} {A : Around} (r : Room k A) : A.units + 65 < cLine := by have := r.un; omega
section
variable {X : Cx} {c : Fc} {W : WX}
end
end DL
namespace DR
open PySem PySem.Spec PyProof.Rows L2 DL
end DR

set_option Elab.async false
set_option linter.all false
set_option maxRecDepth 100000
/-! several except clauses, each with a name -/
namespace DL
open PySem PySem.Spec PyProof.Rows L2
section
variable {X : Cx} {bd : List Stmt} {g : ExceptHandler} {gs : List ExceptHandler} {qs : List Clause} {pos : Pos} {tb : WX → TS} {out : WX}
end
/-! in data -/
end DL
namespace DR
open PySem PySem.Spec PyProof.Rows L2 DL
end DR

set_option Elab.async false
set_option linter.all false
set_option maxRecDepth 100000
/-! operators, subscripts and comparisons by own defs -/
namespace DL
open PySem PySem.Spec PyProof.Rows L2
section
variable {X : Cx} {k : Nat} {f C : Addr} {fd : FuncData} {ps : List Str} {sp : Sp} {E : L2.St → XK} {a b : Expr} {ta tb : TE} {pos : Pos} {r : L2.St → R2}
end
section
variable {K : PySem.W.Frag} {c : Fc} {W : WX} {F H : Hp} {ow : Addr → Option Hold} {δ : DSt} {tmp : List (V × DV)} {σ : L2.St} {Q : VK} {Qd : DK} {Ed : XD} {sd : SpD}
theorem RepL.args : ∀ {vs : List V} {ds : List D}, RepL K F vs ds → ArgsRep K F H vs (ds.map .d) []
  | _, _, .nil => .nil
  | _, _, .cons h t => .d h t.args
end
section
variable {X : Cx} {c : Fc} {W : WX} {k : Nat} {f C : Addr} {fd : FuncData} {ps : List Str} {sd : SpD} {a b : Expr} {ta tb : TD} {pos : Pos}
end
end DL
namespace DR
open PySem PySem.Spec PyProof.Rows L2 DL
end DR

set_option Elab.async false
set_option linter.all false
set_option maxRecDepth 100000
/-! == and != by an own def; classes called with keywords; defs with a star; classmethods -/
namespace DL
open PySem PySem.Spec PyProof.Rows L2
/-! ### == -/
/-- what stands on the right -/
inductive RightV (K : PySem.W.Frag) (G : Hp) (C : Addr) : V → Value → Prop where
  | val {y : V} {t : Value} (h : TyX K G y t) : RightV K G C y t
  | own {q e : Addr} {ws : List (Str × V)} (h : G q = some (.ins C e ws)) : RightV K G C (.ref q) (.ref C)
def rEqC (K : PySem.W.Frag) (C : Addr) (sp : Sp) : R2 := fun x y G Q => ∃ p d us t, x = .ref p ∧ G p = some (.ins C d us) ∧ RightV K G C y t ∧ PySem.W.notFirst K C t = true ∧ sp [x, y] G Q (fun _ _ _ => False)
section
variable {X : Cx} {k : Nat} {f C : Addr} {fd : FuncData} {ps : List Str} {sp : Sp}
theorem op_eqC (hs : PySem.W.findIn X.K (.ref C) "__eq__" = some (some (.ref f))) (hf : PySem.W.isFn X.K (.ref f) = true) (F : FnOk X.prog X.w X.K X.mg X.base (L2.CX X.prog X.w) k f fd ps sp) (room : Room k X.A) (bd : Binds X.K fd ps []) : OpR X (compareOp .Eq) (rEqC X.K C sp) := by
  rintro pins t τ G x y v u Q I rx ry ⟨p, d, us, ty, rfl, hp, hy, hn, h⟩
  obtain rfl : v = Value.ref p := rx
  obtain ⟨_, O, _⟩ := ins_get I.hok hp
  obtain ⟨_, J, _⟩ := O.look
  obtain ⟨_, fr⟩ := I.fr
  have look : PySem.W.Looks (model X.prog X.w) t.heap (typeOf u) ty := by
    cases hy with
    | val z =>
      obtain ⟨_, Z, z, _⟩ := kit_of I ry z
      exact Z.ty _ _ I.kIn z
    | own z =>
      obtain rfl : u = Value.ref _ := ry
      obtain ⟨_, O2, _⟩ := ins_get I.hok z
      obtain ⟨_, J2, _⟩ := O2.look
      exact J2.type
  refine PySem.W.cmp_K (op := .Eq) room.units0 fr I.ok.mod.kin J look hn hs hf ?_
  have run := run_fnS (E := WE W0) (CX := L2.CX X.prog X.w) (σ := τ) F room bd (passAt takes0 τ) I (.cons (show RelV (V.ref p) (Value.ref p) from rfl) (.cons ry .nil)) h
  exact wpAny_mono run (fun z t2 ⟨y, G2, I2, ry, qy⟩ => SlX.cmpback ry ⟨y, G2, I2, ry, qy⟩) fun _ _ z => z
end
/-! ### != -/
theorem ns_mg {K : PySem.W.Frag} {h : Heap} {N : Addr} {mg : Str → Option Value} {n : Str} {v : Value} (hX : K.In h) (hG : h.Ns N mg) (e : PySem.W.nsIn K N n = some (some v)) : mg n = some v := by
  obtain ⟨ob, es, ep, ho, hd, _, hf⟩ := hG
  unfold PySem.W.nsIn at e
  split at e
  · rename_i c d es2 n2 sl q
    cases ho.symm.trans (hX _ _ q)
    cases hd
    split at e
    · rename_i en he
      cases e
      rw [← hf]
      unfold nsFind findBy
      rw [← Array.find?_toList, he]
      rfl
    · split at e <;> cases e
  · cases e
/-- the class's own dict has __eq__ and no __ne__ -/
structure NeOf (K : PySem.W.Frag) (C f : Addr) : Prop where
  cls : ∃ nm q N bs hdct sn sub ab col dd k0 k1 k2 k3 k5 newId, K.lookup C = some (excClassObj nm q C N bs [.type "object"] hdct sn sub ab col dd k0 k1 k2 k3 k5 newId) ∧ PySem.W.nsOkIn K N = true ∧ PySem.W.nsIn K N "__eq__" = some (some (.ref f)) ∧ PySem.W.nsIn K N "__ne__" = some none
  fn : ∃ of, K.lookup f = some of ∧ of.cls = .type "function"
def rNeC (C : Addr) (sp : Sp) : R2 := fun x y G Q => ∃ p d us q e ws, x = .ref p ∧ y = .ref q ∧ G p = some (.ins C d us) ∧ G q = some (.ins C e ws) ∧ sp [x, y] G (fun z G2 => ∃ b, z = .bl b ∧ Q (.bl (!b)) G2) (fun _ _ _ => False)
section
variable {X : Cx} {k : Nat} {f C : Addr} {fd : FuncData} {ps : List Str} {sp : Sp}
theorem op_neC (N : NeOf X.K C f) (F : FnOk X.prog X.w X.K X.mg X.base (L2.CX X.prog X.w) k f fd ps sp) (room : Room (k + 1) X.A) (bd : Binds X.K fd ps []) : OpR X (compareOp .NotEq) (rNeC C sp) := by
  rintro pins t τ G x y v u Q I rx ry ⟨p, d, us, q, e, ws, rfl, rfl, hp, hq, h⟩
  obtain rfl : v = Value.ref p := rx
  obtain rfl : u = Value.ref q := ry
  obtain ⟨_, O, _⟩ := ins_get I.hok hp
  obtain ⟨_, J, _⟩ := O.look
  obtain ⟨_, O2, _⟩ := ins_get I.hok hq
  obtain ⟨_, J2, _⟩ := O2.look
  obtain ⟨nm, qn, NS, bs, hdct, sn, sub, ab, col, dd, k0, k1, k2, k3, k5, newId, hC, hN, hE, hNe⟩ := N.cls
  obtain ⟨of, hf, hfc⟩ := N.fn
  have ns : t.heap.Ns NS (t.heap.nsMap NS) := .of_isNs (PySem.W.isNs_of_in I.kIn hN)
  have own : t.heap.OwnEqNoNe p C f "object" [.type "object"] := ⟨_, of, nm, qn, NS, bs, hdct, sn, sub, ab, col, dd, k0, k1, k2, k3, k5, newId, _, _, J.1, J.2, I.kIn _ _ hC, ns, ns_mg I.kIn ns hE, I.kIn _ _ hf, hfc, PySem.F.cmp_object.mro, PySem.F.cmp_object.eq.lookup, PySem.W.ns_none_of I.kIn ns hNe⟩
  have rr : Vals [V.ref p, V.ref q] [Value.ref p, Value.ref q] := .cons rfl (.cons rfl .nil)
  have hl : [Value.ref p, Value.ref q].length = ps.length := by rw [← rr.length]; exact F.len _ _ _ _ h
  have b' := bd t [Value.ref p, Value.ref q] I.kIn (by rw [List.append_nil]; exact hl)
  rw [List.append_nil] at b'
  have run : wpAny (model X.prog X.w) X.A.in1 (call (.ref f) [.ref p, .ref q]) (fun z t2 => ∃ b, z = .bool b ∧ EP X pins τ Q (.bool (!b)) t2) X.xe t := by
    refine wpAny_call (codeAny_mono (F.run X.A.in1 X.stack t G ⟨[Value.ref p, Value.ref q], []⟩ _ _ _ _ room.in1 I.env0.in1 b' rr h) fun fin t2 z => ?_)
    cases fin with
    | error e => exact passAt (W := W0) takes0 τ pins _ _ e t2 I z
    | ok fl =>
      cases fl with
      | ret w =>
        obtain ⟨y, G2, J3, ry, b, ey, q2⟩ := I.after z
        subst ey
        exact ⟨b, ry, ⟨V.bl (!b), G2, J3, rfl, q2⟩⟩
      | next => exact z.elim
      | brk => exact z.elim
      | cont => exact z.elim
  obtain ⟨hh, gl, gd, tk, os⟩ := t
  exact compareOp_ne_ownEq PySem.F.cmp_object own J2.1 J2.2 (by have := room.units; omega) run
end
section
variable {K : PySem.W.Frag} {F H F' H' : Hp} {C : Addr} {sd : SpD}
theorem Post.ext (P : Post K F H [] [] F' H') : Ext F H F' H' := ⟨P.f, fun a u e => P.fr a u e (fun z => nomatch z), P.fh, P.nw⟩
theorem Post.nil {os : List OC} (P : Post K F H [] os F' H') : os = [] := by cases P.os; rfl
/-- what may stand on the right of an own == -/
def RightD (K : PySem.W.Frag) (C : Addr) (b : D) : Prop := (∃ gs, b = .obj C gs ∧ PySem.W.notFirst K C (.ref C) = true) ∨ ∃ t, TyD K b t ∧ PySem.W.notFirst K C t = true
abbrev eqC (K : PySem.W.Frag) (C : Addr) (sd : SpD) : RD2 := fun a b Q => ∃ fs, a = .obj C fs ∧ RightD K C b ∧ sd [.d a, .d b] (fun r _ => ∃ t, r = .d (.bl t) ∧ Q (.d (.bl t))) (fun _ _ => False)
theorem op2_eqC : Op2 K (rEqC K C (spOf K sd)) (eqC K C sd) := fun x y a b F H Q Qd s rx ry ⟨fs, ea, hb, h⟩ kq => by
  subst ea
  have one : ∃ p, x = .ref p := by cases rx; exact ⟨_, rfl⟩
  obtain ⟨p, rfl⟩ := one
  have s1 : ∃ d us, H p = some (.ins C d us) := by cases rx with | obj s1 _ => exact ⟨_, _, s _ _ s1⟩
  obtain ⟨d, us, hp⟩ := s1
  have hy : ∃ t, RightV K H C y t ∧ PySem.W.notFirst K C t = true := by
    rcases hb with ⟨gs, rfl, hn⟩ | ⟨t, ht, hn⟩
    · cases ry with | obj s2 _ => exact ⟨_, .own (s _ _ s2), hn⟩
    · exact ⟨t, .val (tyD_x s ry ht), hn⟩
  obtain ⟨t, h1, h2⟩ := hy
  refine ⟨p, d, us, t, rfl, hp, h1, h2, F, _, [], _, _, s, (RepL.cons rx (.cons ry .nil)).args, h, fun v r os F' H' ⟨t, er, q⟩ P rr => ?_, fun _ _ _ _ _ _ z _ _ => z.elim⟩
  subst er
  cases P.nil
  exact kq _ _ F' H' q (.d P.ext rr)
abbrev neC (K : PySem.W.Frag) (C : Addr) (sd : SpD) : RD2 := fun a b Q => ∃ fs gs, a = .obj C fs ∧ b = .obj C gs ∧ sd [.d a, .d b] (fun r _ => ∃ t, r = .d (.bl t) ∧ Q (.d (.bl (!t)))) (fun _ _ => False)
theorem op2_neC : Op2 K (rNeC C (spOf K sd)) (neC K C sd) := fun x y a b F H Q Qd s rx ry ⟨fs, gs, ea, eb, h⟩ kq => by
  subst ea eb
  have two : ∃ p q, x = .ref p ∧ y = .ref q := by cases rx; cases ry; exact ⟨_, _, rfl, rfl⟩
  obtain ⟨p, q, rfl, rfl⟩ := two
  have s1 : ∃ d us, H p = some (.ins C d us) := by cases rx with | obj s1 _ => exact ⟨_, _, s _ _ s1⟩
  have s2 : ∃ d us, H q = some (.ins C d us) := by cases ry with | obj s1 _ => exact ⟨_, _, s _ _ s1⟩
  obtain ⟨d, us, hp⟩ := s1
  obtain ⟨e, ws, hq⟩ := s2
  refine ⟨p, d, us, q, e, ws, rfl, rfl, hp, hq, F, _, [], _, _, s, (RepL.cons rx (.cons ry .nil)).args, h, fun v r os F' H' ⟨t, er, q⟩ P rr => ?_, fun _ _ _ _ _ _ z _ _ => z.elim⟩
  subst er
  cases P.nil
  cases (show Rep K F' v (.bl t) from rr)
  exact ⟨t, rfl, kq _ _ F' H' q (.d P.ext (.bl _))⟩
end
end DL

set_option Elab.async false
set_option linter.all false
set_option maxRecDepth 100000
/-! classes called with keywords, defs with a star, classmethods -/
namespace DL
open PySem PySem.Spec PyProof.Rows L2
section
variable {X : Cx} {k n : Nat} {f g C : Addr} {fd : FuncData} {ps ks : List Str} {sp : Sp} {E : L2.St → XK} {x m : Str} {p pos apos : Pos} {e o : Expr} {es : List Expr} {kws : List Keyword} {t tk : TA} {to : TE} {gU : List Value → List Value → List Value} {gV : List V → List V → List V} {i : Nat}
/-- a new instance by keywords too; what __init__ raises is wished for at the slots -/
def tNewK (C : Addr) (n m : Nat) (sp : Sp) (gV : List V → List V → List V) (E : L2.St → XK) (t tk : TA) : TE := fun τ G Q => t τ G fun vs G1 => tk τ G1 fun zs G2 => vs.length = n ∧ zs.length = m ∧ ∀ x dx, G2 x = none → G2 dx = none → dx ≠ x →
  sp (gV (.ref x :: vs) zs) (upd (upd G2 dx (.own x)) x (.ins C dx [])) (fun v G3 => v = .non ∧ Q (.ref x) G3) (E τ)
theorem run_newK {pins : List (Addr × Obj)} {τ : L2.St} {G : Hp} {s : Shared} {Q : VK} {us ws : List Value} {vs zs : List V} (M : Mk X.K C f) (F : FnOk X.prog X.w X.K X.mg X.base (L2.CX X.prog X.w) k f fd ps sp) (room : Room (k + 1) X.A) (kb : KBn X.K fd ps (n + 1) ks gU gV) (hx : PassesAt (L2.CX X.prog X.w) X τ (E τ))
    (I : Inv X pins τ G s) (rv : Vals vs us) (rz : Vals zs ws) (lv : vs.length = n) (lz : zs.length = ks.length)
    (h : ∀ x dx, G x = none → G dx = none → dx ≠ x → sp (gV (.ref x :: vs) zs) (upd (upd G dx (.own x)) x (.ins C dx [])) (fun v G2 => v = .non ∧ Q (.ref x) G2) (E τ)) :
    wpAny (model X.prog X.w) X.A (call (.ref C) us (ks.zip ws)) (EP X pins τ Q) X.xe s := by
  let z := s.heap.objs.size
  have q0 := h (z + 1) z (I.hok.fresh (Nat.le_succ _)) (I.hok.fresh (Nat.le_refl _)) (Nat.ne_of_lt (Nat.lt_succ_self _))
  have J := Inv.made (C := C) I
  have rr : Vals (V.ref (z + 1) :: vs) (Value.ref (z + 1) :: us) := .cons rfl rv
  have hn : (Value.ref (z + 1) :: us).length = n + 1 := congrArg (· + 1) (rv.length.symm.trans lv)
  have run := F.run _ X.stack _ _ ⟨Value.ref (z + 1) :: us, ks.zip ws⟩ (gU (Value.ref (z + 1) :: us) ws) _ _ (E τ) (room.make C us (ks.zip ws)) (J.env0.make C us (ks.zip ws)) (kb.to _ (Value.ref (z + 1) :: us) ws J.kIn hn (rz.length.symm.trans lz)) (kb.rel rr rz) q0
  refine wpAny_call (make_map (f := f) I.kIn M.makes M.init (beq_iff_eq.mp M.fn) (codeAny_mono run fun fin s2 y => ?_))
  cases fin with
  | error er => exact hx pins _ _ er s2 J y
  | ok fl =>
    cases fl with
    | next => exact y.elim
    | brk => exact y.elim
    | cont => exact y.elim
    | ret u =>
      obtain ⟨v, G2, J2, rv2, ev, q3⟩ := J.after y
      subst ev
      exact ⟨rv2, ⟨V.ref (z + 1), G2, J2, rfl, q3⟩⟩
theorem pe_newK (M : Mk X.K C f) (F : FnOk X.prog X.w X.K X.mg X.base (L2.CX X.prog X.w) k f fd ps sp) (room : Room (k + 1) X.A) (hg : Gl X x) (hm : X.mg x = some (.ref C)) (kb : KBn X.K fd ps (n + 1) ks gU gV) (hx : ∀ τ, PassesAt (L2.CX X.prog X.w) X τ (E τ)) (ha : PA X (e :: es) t) (hk : PK X kws tk)
    (hall : (backToKw pos (keywordEach kws X.env)).all (·.1.isSome) = true := by rfl) (hks : (backToKw pos (keywordEach kws X.env)).filterMap (·.1) = ks := by rfl) (hdb : (x == ("__debug__" : Str)) = false := by decide)
    (he : starEach (e :: es) X.env = (false, eval e X.env) :: starEach es X.env := by rfl) (hpl : ((backTo pos (starEach (e :: es) X.env)).any (·.1) || (backToKw pos (keywordEach kws X.env)).any (·.1.isNone)) = false := by rfl) :
    PE X (.Call (.Name x p) (e :: es) kws pos) (tNewK C n ks.length sp gV E t tk) :=
  ⟨fun pins s τ G Q I h => wpAny_Call_Name_kw (ld_glob I hg hm (PySem.W.callWith_KW (h₀ := X.base) I.ok.mod.kin M.kp hall (thn (ha.run pos pins s τ G _ I h) fun us s1 ⟨vs, G1, I1, rv, q⟩ =>
    thn (hk.run pos pins s1 τ G1 _ I1 q) fun ws s2 ⟨zs, G2, I2, rz, lv, lz, q2⟩ => ⟨I2.kIn, by rw [hks]; exact run_newK M F room kb (hx τ) I2 rv rz lv lz q2⟩) hpl he) hdb)⟩
/-! ### a def by what its values are (a star among its parameters) -/
/-! ### C.m(..), m a classmethod -/
end
end DL

set_option Elab.async false
set_option linter.all false
set_option maxRecDepth 100000
/-! the same in data -/
namespace DL
open PySem PySem.Spec PyProof.Rows L2
section
variable {K : PySem.W.Frag} {c : Fc} {W : WX} {F H : Hp} {ow : Addr → Option Hold} {δ : DSt} {tmp : List (V × DV)} {σ : L2.St}
theorem SttF.pushL : ∀ {vs : List V} {ds : List D} {tmp : List (V × DV)}, SttF K c F ow δ tmp σ H → RepL K F vs ds → SttF K c F ow δ (vs.zip (ds.map .d) ++ tmp) σ H
  | _, _, _, S, .nil => S
  | _, _, _, S, .cons h t => (SttF.pushL S t).push h
theorem SttF.popL : ∀ {vs : List V} {ds : List D} {tmp : List (V × DV)}, vs.length = ds.length → SttF K c F ow δ (vs.zip (ds.map .d) ++ tmp) σ H → RepL K F vs ds ∧ SttF K c F ow δ tmp σ H
  | [], [], _, _, S => ⟨.nil, S⟩
  | v :: vs, d :: ds, tmp, hl, S => by
    have S' : SttF K c F ow δ ((v, .d d) :: (vs.zip (ds.map .d) ++ tmp)) σ H := S
    obtain ⟨r, S2⟩ := SttF.popL (Nat.succ.inj hl) S'.pop
    exact ⟨.cons S'.top r, S2⟩
theorem WD.pushL {Ed : XD} {l : List (V × DV)} (w : WD K c W tmp Ed) : WD K c W (l ++ tmp) Ed := by
  induction l with
  | nil => exact w
  | cons a l ih => obtain ⟨v, x⟩ := a; exact ih.push
theorem RepL.avs : ∀ {vs : List V} {ds : List D}, RepL K F vs ds → RepArgs K F σ vs (ds.map .d)
  | _, _, .nil => .nil
  | _, _, .cons h t => .d h t.avs
theorem argsOf_d : ∀ {ds : List D}, argsOf δ (ds.map .d) (ds.map .d)
  | [] => rfl
  | _ :: _ => ⟨_, rfl, argsOf_d⟩
theorem slots_d : ∀ {ds : List D}, slotsOf (ds.map .d) = []
  | [] => rfl
  | _ :: ds => slots_d (ds := ds)
end
section
variable {X : Cx} {c : Fc} {W : WX} {k n : Nat} {f g C : Addr} {fd : FuncData} {ps ks : List Str} {sd : SpD} {x m : Str} {p pos apos kpos : Pos} {e o : Expr} {es : List Expr} {kws : List Keyword} {t : TD} {ta tk : TDA} {nm : Option Str} {gU : List Value → List Value → List Value} {gV : List V → List V → List V} {i : Nat}
theorem PK_imp {t t' : TA} (h : PK X kws t) (f : ∀ σ H Q, t' σ H Q → t σ H Q) : PK X kws t' := ⟨fun pos pins s σ H Q I q => h.run pos pins s σ H Q I (f _ _ _ q)⟩
theorem pkd_nil : PK X [] (LA X.K c W nilD) := PK_imp pk_nil fun σ H Q ⟨δ, tmp, Qd, Ed, ⟨F, ow, S⟩, q, k, w⟩ => k [] [] δ F ow H q S .nil
/-- C(.., k = v, ..) of data alone; dd: the defaults behind -/
def newKD (C : Addr) (n m : Nat) (dd : List D) (sd : SpD) (ta tk : TDA) : TD := fun δ Q E => ta δ (fun as δ1 => ∃ ds, as = ds.map .d ∧ ds.length = n ∧ tk δ1 (fun zs δ2 => ∃ es, zs = es.map .d ∧ es.length = m ∧
  sd (.own (.ins C []) :: (ds ++ es ++ dd).map .d) (fun r os => r = .d .non ∧ ∃ fs os', os = .ins C fs :: os' ∧ Q (.d (.obj C fs)) δ2) (fun x os => ∃ o os', os = o :: os' ∧ E x δ2)) E) E
theorem lift_newK {K : PySem.W.Frag} {dv : List V} {dd : List D} {tA tB : TA} {m : Nat} (hA : tA = LA K c W ta) (hB : tB = LA K c W tk) (hd : ∀ F, RepL K F dv dd) (hg : ∀ v vs zs, gV (v :: vs) zs = v :: (vs ++ zs ++ dv)) : ∀ σ H Q, LE K c W (newKD C n m dd sd ta tk) σ H Q → tNewK C n m (spOf K sd) gV (WE W) tA tB σ H Q := by
  subst hA hB
  rintro σ H Q ⟨δ, tmp, Qd, Ed, S, t, k, w⟩
  refine ⟨δ, tmp, _, Ed, S, t, fun vs as δ1 F ow H1 ⟨ds, ea, ln, t1⟩ S1 ra => ?_, w⟩
  subst ea
  have r1 := args_d ra
  refine ⟨δ1, vs.zip (ds.map .d) ++ tmp, _, Ed, ⟨F, ow, S1.pushL r1⟩, t1, fun zs bs δ2 F2 ow2 H2 ⟨es, eb, lm, h⟩ S2 rb => ?_, w.pushL⟩
  subst eb
  have r2 := args_d rb
  obtain ⟨r1, S3⟩ := S2.popL r1.len
  refine ⟨r1.len.trans ln, r2.len.trans lm, fun y dy ny ndy ne => ?_⟩
  rw [hg]
  refine lift_make (as := (ds ++ es ++ dd).map .d) (xs := (ds ++ es ++ dd).map .d) (Qd := Qd) (Ed := Ed) S3 ((r1.app r2).app (hd F2)).avs argsOf_d (by rw [slots_d]; exact .nil) ?_ k w y dy ny ndy ne
  rw [slots_d]
  exact h
/-- the class called by its name -/
theorem pd_newK {dv : List V} {dd : List D} (M : Mk X.K C f) (G : FnOk X.prog X.w X.K X.mg X.base (L2.CX X.prog X.w) k f fd ps (spOf X.K sd)) (hr : Room (k + 1) X.A) (hg : Gl X x) (hm : X.mg x = some (.ref C)) (kb : KBn X.K fd ps (n + 1) ks gU gV) (hd : ∀ F, RepL X.K F dv dd) (hv : ∀ v vs zs, gV (v :: vs) zs = v :: (vs ++ zs ++ dv)) (tk0 : Takes X W)
    (ha : PA X (e :: es) (LA X.K c W ta)) (hk : PK X kws (LA X.K c W tk))
    (hall : (backToKw pos (keywordEach kws X.env)).all (·.1.isSome) = true := by rfl) (hks : (backToKw pos (keywordEach kws X.env)).filterMap (·.1) = ks := by rfl) (hdb : (x == ("__debug__" : Str)) = false := by decide)
    (he : starEach (e :: es) X.env = (false, eval e X.env) :: starEach es X.env := by rfl) (hpl : ((backTo pos (starEach (e :: es) X.env)).any (·.1) || (backToKw pos (keywordEach kws X.env)).any (·.1.isNone)) = false := by rfl) :
    PE X (.Call (.Name x p) (e :: es) kws pos) (LE X.K c W (newKD C n ks.length dd sd ta tk)) :=
  PE_imp (pe_newK (E := WE W) M G hr hg hm kb (fun τ => passAt tk0 τ) ha hk hall hks hdb he hpl) (lift_newK rfl rfl hd hv)
/-! ### by values alone -/
end
/-! ### a def with a star -/
section
variable {P : Program} {w : World} {K : PySem.W.Frag} {mg : Str → Option Value} {base : Heap}
end
end DL
namespace DR
open PySem PySem.Spec PyProof.Rows L2 DL
section
variable {δ : DSt} {Q : DK} {E : XD}
theorem newk {C : Addr} {n m : Nat} {dd : List DL.D} {sd : SpD} {ta tk : TDA} (h : ta δ (fun as δ1 => ∃ ds, as = ds.map .d ∧ ds.length = n ∧ tk δ1 (fun zs δ2 => ∃ es, zs = es.map .d ∧ es.length = m ∧
  sd (.own (.ins C []) :: (ds ++ es ++ dd).map .d) (fun r os => r = .d .non ∧ ∃ fs os', os = .ins C fs :: os' ∧ Q (.d (.obj C fs)) δ2) (fun x os => ∃ o os', os = o :: os' ∧ E x δ2)) E) E) : newKD C n m dd sd ta tk δ Q E := h
end
end DR

set_option Elab.async false
set_option linter.all false
set_option maxRecDepth 100000
/-! walking an object whose __iter__ hands back iter(self.f), f a tuple -/
namespace DL
open PySem PySem.Spec PyProof.Rows L2
/-! ### iter of a tuple -/
abbrev titObj (l : Addr) : Obj := { cls := .type "tuple_iterator", data := .fields #[.ref l, .int 0 0] }
def TitO (l it : Addr) : HO := .ext fun h => h.get? it = some (titObj l)
theorem titO_ok {P : Program} {w : World} {G : Hp} {h : Heap} {l it : Addr} (e : h.get? it = some (titObj l)) : ObjOk P w G h it (TitO l it) := ⟨e, ⟨_, e⟩, fun _ _ q k => k _ q⟩
theorem run_iterT {prog : Program} {w : World} {A : Around} {E : Value → Shared → Prop} {s : Shared} {l : Addr} {items : Array Value} {Q : Value → Shared → Prop} (hl : s.heap.IsTuple l items) (h : Q (.ref s.heap.objs.size) { s with heap := s.heap.push (titObj l) }) : wpAny (model prog w) A (call (.builtin "iter") [.ref l]) Q E s := by
  refine Calls.call_function_entry (by decide +kernel) (by decide +kernel) PySem.W.kdk_entry_iter (PySem.W.kdk_args_iter _) ?_
  unfold Builtin.«iter»
  refine wpAny_bind (m := someArgs "iter" 1 2 _) (wpAny_of_eq (a := [Value.ref l]) (by first | rfl | kernel_rfl!) ?_)
  show wpAny _ _ (pyIter (.ref l) >>= _) _ _ s
  exact wpAny_bind (wpAny_pyIter_tuple hl (wpAny_pure ⟨_, rfl, h⟩))
def rIterT (K : PySem.W.Frag) (n : Nat) : List V → Hp → VK → Prop := fun xs G Q => ∃ (l : Addr) (zs : List V), xs = [.ref l] ∧ SqT K G l zs ∧ ∀ it, G it = none → n ≤ it → Q (.ref it) (upd G it (TitO l it))
theorem call_iterT {X : Cx} : CallR X (.builtin "iter") (rIterT X.K X.s_0.heap.objs.size) := by
  rintro pins s σ G xs us Q I r ⟨l, zs, rfl, hq, q⟩
  obtain ⟨u, rfl, ru⟩ := r.one
  obtain rfl : u = Value.ref l := ru
  obtain ⟨its, rv, pl, hz⟩ := I.tuple hq
  exact run_iterT (items := its.toArray) pl ⟨.ref s.heap.objs.size, _, I.laid (t' := s.toks) (fun _ _ e => Heap.get?_push_of_some _ e) (Nat.le_refl _) (titO_ok (Heap.get?_push_size _ rfl)), rfl, q _ (I.hok.fresh (Nat.le_refl _)) I.sz⟩
/-! ### a def run where it stands -/
theorem run_at {P : Program} {w : World} {K : PySem.W.Frag} {mg : Str → Option Value} {base : Heap} {k : Nat} {f : Addr} {name qual : Str} {params : Arguments} {body : List Stmt} {scope : Scope} {dV kV doc pm cdv ct oc : Value} {an od : Option Addr}
    {osl : Array (Option Value)} {N ps : List Str} (lk : K.lookup f = some ⟨oc, od, .func (PySem.W.fnOf name qual params body scope dV kV doc pm an cdv ct), osl⟩) (hcd : PySem.W.codeIn K cdv qual = true) (S : FnScope N ps scope)
    {A : Around} {outer : List Env} {s : Shared} {G : Hp} {args : Args} {us : List Value} {vs : List V} {Q : VK} {E : XK} (hr : Room (k + 1) A) (e0 : Env0 P w K mg base A outer s G) (hb : BindsTo s (PySem.W.fnOf name qual params body scope dV kV doc pm an cdv ct) args (ps.zip us)) (rv : Vals vs us) (hl : vs.length = ps.length)
    (hbody : Room k (A.deeper (envOfC qual scope s.heap.objs.size f cdv)) → ∃ t, PSs (cxOf (L2.CX P w) P w K mg base N qual scope f cdv A outer s G E) body t ∧ t { nx := fun _ G2 => Q .non G2, rt := Q } (start N vs) G) :
    codeAny (model P w) A (.call (.ref f) args) (CR (L2.CX P w) outer P w G s Q E) s := by
  have kin : K.In s.heap := e0.mod.kin.keeps fun b o e => (e0.bs b o e).1
  have lim : s.heap.NoLimit := e0.mod.nolimit.keeps fun b o e => (e0.bs b o e).1
  refine codeAny_call_function hr.depth (kin _ _ lk) rfl S.co S.gen rfl (PySem.W.codeRec_of kin hcd) (hb _ _ _ _ (wpAny_newFunctionEnv_cells S.kind (fun y hy => ?_) fun env he s1 x => ?_))
  · rcases S.par y.1 (List.of_mem_zip hy).1 with q | q
    · exact .inl q
    · exact .inr ⟨q, PySem.W.cellsFrom_some _ _ _ (.inl q)⟩
  · subst he
    obtain ⟨t, ht, hq⟩ := hbody (hr.deeper _)
    have I0 : Inv (cxOf (L2.CX P w) P w K mg base N qual scope f cdv A outer s G E) [] (start N vs) G s1 := inv_start S hr.hd e0 hl rv x
    refine ⟨lim.keeps x.toInCall.keep, codeAny_func (wpAny_mono (ht.run [] s1 (start N vs) G _ I0 hq) (fun fl s2 z => ?_) fun _ _ z => z)⟩
    cases fl with
    | ret u => obtain ⟨v, σ2, G2, J, rv2, q⟩ := z; exact ⟨v, G2, J.os, J.bare, J.base, J.hok, rv2, q⟩
    | next => obtain ⟨σ2, G2, J, q⟩ := z; exact ⟨V.non, G2, J.os, J.bare, J.base, J.hok, rfl, q⟩
    | brk => obtain ⟨_, _, _, q⟩ := z; exact q.elim
    | cont => obtain ⟨_, _, _, q⟩ := z; exact q.elim
/-! ### the class's __iter__ -/
/-- def __iter__(self): return iter(self.fld) -/
structure IterOf (K : PySem.W.Frag) (C f : Addr) (qual fld : Str) (st : Stmt) (fd : FuncData) : Prop where
  at_ : PySem.W.findIn K (.ref C) "__iter__" = some (some (.ref f))
  fn : PySem.W.isFn K (.ref f) = true
  fu : Fun K "__iter__" qual st f fd
  sc : FnScope ["self"] ["self"] (defScope st)
  bd : Binds K fd ["self"] []
  body : ∀ (P : Program) (w : World) (mg : Str → Option Value) (base : Heap) (A : Around) (outer : List Env) (s : Shared) (G : Hp) (E : XK) (cdv : Value), mg "iter" = none → ∃ t, PSs (cxOf (L2.CX P w) P w K mg base ["self"] qual (defScope st) f cdv A outer s G E) (defBody st) t ∧
    ∀ (a dx q : Addr) (us : List (Str × V)) (xs : List V) (Q : VK), G a = some (.ins C dx us) → us.lookup fld = some (.ref q) → SqT K G q xs → (∀ it, G it = none → s.heap.objs.size ≤ it → Q (.ref it) (upd G it (TitO q it))) → t { nx := fun _ G2 => Q .non G2, rt := Q } (start ["self"] [.ref a]) G
section
variable {X : Cx} {C f : Addr} {qual fld : Str} {st : Stmt} {fd : FuncData}
theorem iter_run (T : IterOf X.K C f qual fld st fd) (hm : X.mg "iter" = none) {k : Nat} (hr : Room (k + 2) X.A) {pins : List (Addr × Obj)} {σ : L2.St} {G : Hp} {s : Shared} {a dx q : Addr} {us : List (Str × V)} {xs : List V} {tg : Expr} {R : It → Hp → Prop} (I : Inv X pins σ G s)
    (ha : G a = some (.ins C dx us)) (hf : us.lookup fld = some (.ref q)) (hq : SqT X.K G q xs) (h : R (Itt X.K q) G) : wpAny (model X.prog X.w) X.A (pyIter (.ref a)) (PIE X pins σ tg R) X.xe s := by
  obtain ⟨_, O, _⟩ := ins_get I.hok ha
  obtain ⟨_, J, _⟩ := O.look
  obtain ⟨_, fr⟩ := I.fr
  refine PySem.W.owit_iter fr I.ok.mod.kin J T.at_ T.fn ?_
  obtain ⟨oc, od, kV, doc, pm, an, cdv, ct, osl, rfl, lk, hcd⟩ := T.fu.ex
  have bd := T.bd s [.ref a] I.kIn rfl
  have run := run_at (mg := X.mg) (base := X.base) (w := X.w) (P := X.prog) (k := k + 1) lk hcd T.sc (A := X.A) (outer := X.stack) (s := s) (G := G) (args := ⟨[.ref a], []⟩) (us := [.ref a]) (vs := [V.ref a]) (E := fun _ _ _ => False)
    (Q := fun v G2 => ∃ it, v = .ref it ∧ G it = none ∧ s.heap.objs.size ≤ it ∧ G2 = upd G it (TitO q it)) hr I.env0 bd (.cons rfl .nil) rfl (fun _ => by
      obtain ⟨t, ht, hread⟩ := T.body X.prog X.w X.mg X.base X.A X.stack s G (fun _ _ _ => False) cdv hm
      exact ⟨t, ht, hread a dx q us xs (fun v G2 => ∃ it, v = .ref it ∧ G it = none ∧ s.heap.objs.size ≤ it ∧ G2 = upd G it (TitO q it)) ha hf hq fun it n1 n2 => ⟨it, rfl, n1, n2, rfl⟩⟩)
  refine wpAny_call (codeAny_mono run fun fin s2 z => ?_)
  cases fin with
  | error er => exact passAt (W := W0) takes0 σ pins _ _ er s2 I z
  | ok fl =>
    cases fl with
    | next => exact z.elim
    | brk => exact z.elim
    | cont => exact z.elim
    | ret u =>
      obtain ⟨v, G2, I2, rv, it, rfl, hn, hy, rfl⟩ := I.after z
      obtain rfl : u = Value.ref it := rv
      have got : s2.heap.get? it = some (titObj q) := (I2.hok it _ upd_same).1
      have ti : s2.heap.IsTupleIter it q 0 := ⟨_, got, rfl, rfl⟩
      unfold PySem.W.OwitIt
      refine wpAny_specialOf ti.typeIs F.slot_tuple_iterator_next.lookup ?_
      have I3 := ItX.inv_drop I2 upd_same
      have fp := ItX.inv_fp I2 upd_same (Nat.le_trans I.sz hy)
      have e : ItX.dropH (upd G it (TitO q it)) it = G := ItX.dropH_upd hn
      rw [e] at I3 fp
      exact ⟨it, [it], _, _, G, rfl, I3, turn_tuple q it, ti, fun b hb => by rw [List.mem_singleton.mp hb]; exact fp, h⟩
def iOwn (K : PySem.W.Frag) (C : Addr) (fld : Str) (tl : TE) : TI := fun σ G R => tl σ G fun x G1 => ∃ a dx us q xs, x = .ref a ∧ G1 a = some (.ins C dx us) ∧ us.lookup fld = some (.ref q) ∧ SqT K G1 q xs ∧ R (Itt K q) G1
theorem pi_own {tg l : Expr} {tl : TE} (T : IterOf X.K C f qual fld st fd) (hm : X.mg "iter" = none) {k : Nat} (hr : Room (k + 2) X.A) (hl : PE X l tl) : PI X tg l (iOwn X.K C fld tl) :=
  ⟨fun pins s σ G R I h => thn (hl.run pins s σ G _ I h) fun v s1 ⟨x, G1, I1, rx, a, dx, us, q, xs, ex, ha, hf, hq, hR⟩ => by
    subst ex
    obtain rfl : v = Value.ref a := rx
    exact iter_run T hm hr I1 ha hf hq hR⟩
end
/-! ### in data -/
/-- o an instance of C whose field fld is a tuple -/
def ownI (C : Addr) (fld : Str) (t : TD) : TDI := fun δ Q E => t δ (fun o δ1 => ∃ fs xs, o.toD = .obj C fs ∧ fs.lookup fld = some (.tup xs) ∧ Q xs δ1) E
section
variable {X : Cx} {c : Fc} {W : WX} {C f : Addr} {qual fld : Str} {st : Stmt} {fd : FuncData}
theorem pid_own {tg l : Expr} {t : TD} (T : IterOf X.K C f qual fld st fd) (hm : X.mg "iter" = none) {k : Nat} (hr : Room (k + 2) X.A) (he : PE X l (LE X.K c W t)) : PI X tg l (LI X.K c W (ownI C fld t)) :=
  PI_imp (pi_own (tg := tg) T hm hr he) fun σ H R ⟨δ, tmp, Qd, Ed, S, q, k, w⟩ => ⟨δ, tmp, _, _, S, q, fun v x δ' H' ⟨fs, xs, e, el, q'⟩ ⟨F, ow, S'⟩ => by
    obtain ⟨F2, S2, _⟩ := S'.top_frz
    rw [e] at S2
    have r0 := S2.top
    cases r0 with
    | @obj a _ dx us _ s1 h =>
      obtain ⟨u, e1, ru⟩ := (RepF.lookup h).2 _ el
      have S3 := S2.pop.push ru
      cases ru with
      | @tup p vs _ s2 r2 => exact ⟨a, dx, us, p, vs, rfl, S2.fh _ _ s1, e1, SqT.of (S2.fh _ _ s2), k _ _ _ xs _ _ q' serve_tup ⟨F2, ow, S3⟩⟩, w⟩
end
end DL
namespace DR
open PySem PySem.Spec PyProof.Rows L2 DL
theorem owni {C : Addr} {fld : Str} {t : TD} {δ : DSt} {Q : List DL.D → DSt → Prop} {E : XD} (h : t δ (fun o δ1 => ∃ fs xs, o.toD = .obj C fs ∧ fs.lookup fld = some (.tup xs) ∧ Q xs δ1) E) : ownI C fld t δ Q E := h
end DR

set_option Elab.async false
set_option linter.all false
set_option maxRecDepth 100000
/-! defs as their callers know them -/
namespace DL
open PySem PySem.Spec PyProof.Rows L2
section
variable (P : Program) (w : World) (K : PySem.W.Frag) (mg : Str → Option Value) (base : Heap)
/-- == -/
structure DefE (C : Addr) (k : Nat) (ps : List Str) (sd : SpD) where
  f : Addr
  fd : FuncData
  ok : FnOk P w K mg base (L2.CX P w) k f fd ps (spOf K sd)
  b : Binds K fd ps []
  at_ : PySem.W.findIn K (.ref C) "__eq__" = some (some (.ref f))
  fn : PySem.W.isFn K (.ref f) = true
  ne : NeOf K C f
/-- a method -/
structure DefM (C : Addr) (x : Str) (k : Nat) (ps : List Str) (sd : SpD) where
  f : Addr
  fd : FuncData
  ok : FnOk P w K mg base (L2.CX P w) k f fd ps (spOf K sd)
  b : Binds K fd ps []
  me : Meth K C x f
/-- a class whose __init__ has n parameters (self among them) and keyword-only ones ks, with the defaults dv -/
structure DefK (C : Addr) (k n : Nat) (ps ks : List Str) (dv : List V) (sd : SpD) where
  f : Addr
  fd : FuncData
  g0 : List Value → List Value → List Value
  g1 : List Value → List Value → List Value
  mkc : Mk K C f
  ok : FnOk P w K mg base (L2.CX P w) k f fd ps (spOf K sd)
  kb0 : KBn K fd ps n [] g0 (fun vs zs => vs ++ zs ++ dv)
  kb1 : KBn K fd ps n ks g1 (fun vs zs => vs ++ zs ++ [])
end
end DL

set_option Elab.async false
set_option linter.all false
set_option maxRecDepth 100000
/-! enumerate over a tuple -/
namespace EnT
open PySem
open PySem.Sem (wp)
section
variable {prog : Program} {w : World} {A : Around} {E : Value → Shared → Prop} {s : Shared} {e it l : Addr} {i : Nat} {items : Array Value} {x old : Value}
end
end EnT

set_option Elab.async false
set_option linter.all false
set_option maxRecDepth 100000
namespace EnT
open PySem
open PySem.Sem (wp)
open AutoSeq1 (wpAny_loadPart')
end EnT
namespace DL
open PySem PySem.Spec PyProof.Rows L2
section
variable {X : Cx} {c : Fc} {W : WX}
end
/-- one way or the other -/
def orI (t u : TDI) : TDI := fun δ Q E => t δ Q E ∨ u δ Q E
theorem PI.or {X : Cx} {c : Fc} {W : WX} {tg e : Expr} {t u : TDI} (h1 : PI X tg e (LI X.K c W t)) (h2 : PI X tg e (LI X.K c W u)) : PI X tg e (LI X.K c W (orI t u)) :=
  ⟨fun pins s σ H R I ⟨δ, tmp, Qd, Ed, S, q, k, w⟩ => q.elim (fun q => h1.run pins s σ H R I ⟨δ, tmp, Qd, Ed, S, q, k, w⟩) fun q => h2.run pins s σ H R I ⟨δ, tmp, Qd, Ed, S, q, k, w⟩⟩
end DL
namespace DR
open PySem PySem.Spec PyProof.Rows L2 DL
end DR

set_option Elab.async false
set_option linter.all false
set_option maxRecDepth 100000
/-! zip of three lists -/
namespace Z3
open PySem
open PySem.Sem (wp)
section
variable {prog : Program} {w : World} {A : Around} {E : Value → Shared → Prop} {s : Shared}
variable {n l1 l2 l3 : Nat} {i : Nat} {xs ys zs : Array Value} {x y z a b c : Value}
end
/-! ### making one -/
end Z3

set_option Elab.async false
set_option linter.all false
set_option maxRecDepth 100000
namespace DL
open PySem PySem.Spec PyProof.Rows L2
section
variable {X : Cx} {c : Fc} {W : WX}
end
end DL
namespace DR
open PySem PySem.Spec PyProof.Rows L2 DL
end DR

set_option Elab.async false
set_option linter.all false
set_option maxRecDepth 100000
/-! equality of plain data -/
namespace DL
open PySem PySem.Spec PyProof.Rows L2
/-- may be compared, n deep at most -/
def Dp_ (n : Nat) (d : D) : Prop := d.isPy = true ∧ d.py.depth ≤ n
theorem Dp_.cmp {n : Nat} {d : D} (h : Dp_ n d) (l : n ≤ 64 := by decide) : Cmp d := ⟨h.1, Nat.le_trans h.2 l⟩
theorem dp_str {x : Str} : Dp_ 1 (.str x) := ⟨rfl, by simp [D.py, PyData.depth]⟩
theorem dp_int {x : Int} : Dp_ 1 (.int x) := ⟨rfl, by simp [D.py, PyData.depth]⟩
theorem dp_all {n : Nat} : ∀ {ds : List D}, (∀ d ∈ ds, Dp_ n d) → isPyL ds = true ∧ PyData.depthAll (pyL ds) ≤ n
  | [], _ => ⟨rfl, by simp [pyL, PyData.depthAll]⟩
  | d :: ds, h => by
    obtain ⟨a, b⟩ := dp_all fun e he => h e (List.mem_cons_of_mem _ he)
    obtain ⟨c, e⟩ := h d List.mem_cons_self
    refine ⟨by simp [isPyL, a, c], ?_⟩
    simp [pyL, PyData.depthAll]
    omega
theorem dp_tup {n : Nat} {ds : List D} (h : ∀ d ∈ ds, Dp_ n d) : Dp_ (n + 1) (.tup ds) := by
  obtain ⟨a, b⟩ := dp_all h
  refine ⟨a, ?_⟩
  simp [D.py, PyData.depth]
  omega
theorem dp_lst {n : Nat} {ds : List D} (h : ∀ d ∈ ds, Dp_ n d) : Dp_ (n + 1) (.lst ds) := by
  obtain ⟨a, b⟩ := dp_all h
  refine ⟨a, ?_⟩
  simp [D.py, PyData.depth]
  omega
theorem dp_map {α : Type} {n : Nat} {r : α → D} {l : List α} (h : ∀ a ∈ l, Dp_ n (r a)) : ∀ d ∈ l.map r, Dp_ n d := fun d hd => by
  obtain ⟨a, ha, rfl⟩ := List.mem_map.mp hd
  exact h a ha
theorem eqv_str {a b : Str} : PyData.eqv (D.str a).py (D.str b).py = decide (a = b) := by
  simp only [D.py, PyData.eqv]
  by_cases h : a = b <;> simp [h]
theorem eqv_int {a b : Int} : PyData.eqv (D.int a).py (D.int b).py = decide (a = b) := by
  simp only [D.py, PyData.eqv]
  by_cases h : a = b <;> simp [h]
theorem eqv_all {α : Type} [DecidableEq α] {r : α → D} (h : ∀ a b, PyData.eqv (r a).py (r b).py = decide (a = b)) : ∀ {l k : List α}, PyData.eqvAll (pyL (l.map r)) (pyL (k.map r)) = decide (l = k)
  | [], [] => by simp [pyL, PyData.eqvAll]
  | [], _ :: _ => by simp [pyL, PyData.eqvAll]
  | _ :: _, [] => by simp [pyL, PyData.eqvAll]
  | a :: l, b :: k => by
    simp only [List.map_cons, pyL, PyData.eqvAll, h, eqv_all h]
    by_cases e : a = b <;> by_cases e2 : l = k <;> simp [e, e2]
theorem eqv_tups {α : Type} [DecidableEq α] {r : α → D} (h : ∀ a b, PyData.eqv (r a).py (r b).py = decide (a = b)) {l k : List α} : PyData.eqv (D.tup (l.map r)).py (D.tup (k.map r)).py = decide (l = k) := by
  simp only [D.py, PyData.eqv]
  exact eqv_all h
theorem eqd_t {x y : D} {b : Bool} {Q : D → Prop} (c1 : Cmp x) (c2 : Cmp y) (h : PyData.eqv x.py y.py = b) (k : Q (.bl b)) : eqP false x y Q := ⟨c1, c2, by rw [if_neg Bool.false_ne_true, h]; exact k⟩
theorem eqd_f {x y : D} {b : Bool} {Q : D → Prop} (c1 : Cmp x) (c2 : Cmp y) (h : PyData.eqv x.py y.py = b) (k : Q (.bl (!b))) : eqP true x y Q := ⟨c1, c2, by rw [if_pos rfl, h]; exact k⟩
theorem eqv_strs (a b : Str) : PyData.eqv (D.str a).py (D.str b).py = decide (a = b) := eqv_str
theorem eqv_ints (a b : Int) : PyData.eqv (D.int a).py (D.int b).py = decide (a = b) := eqv_int
end DL

set_option Elab.async false
set_option linter.all false
set_option maxRecDepth 100000
set_option maxHeartbeats 2000000
/-! DL30: an own exception class made without an argument. -/
namespace DL
open PySem PySem.Spec PyProof.Rows L2
/-- what the top has written of an exception class without __init__ -/
structure Oex0 (K : PySem.W.Frag) (C : Addr) : Prop where
  ex : PySem.W.excIn K C [.type "ValueError", .type "Exception", .type "BaseException", .type "object"] "ValueError.__new__" = true
  kp : PySem.W.keepIn K (.ref C) = true
  sb : PySem.W.subIn K (.ref C) (.type "BaseException") = some true
  ty : PySem.W.typeIn K (.ref C) = some (.type "type")
section
variable {X : Cx}
theorem pmk_own0 {C : Addr} {x : Str} {p pos : Pos} (O : Oex0 X.K C) (gC : X.mg x = some (.ref C)) (hg : Gl X x) (hdb : (x == ("__debug__" : Str)) = false := by decide) :
    PMk X (.Call (.Name x p) [] [] pos) (fun _ H Q => Q (.ref C) none H) := by
  intro pins s σ H Q I h
  refine wpAny_Call_Name_kw (ld_glob I hg gC ?_ hdb)
  refine PySem.W.callWith_K0 I.kIn O.kp ?_
  obtain ⟨bm, N, nm, qn, bs, hdct, sn, sub, ab, col, dd, k0, k1, k2, k3, k5, mN, hC, hN, hni, T⟩ := exc_obj I.kIn O.ex
  refine wpAny_call_exc_subT PySem.F.excBase_ValueError T hC hN hni (fun h' e hm => ?_) (by show 0 ≤ sizeLine; omega)
  exact mk_of I hm (raises_own O.sb O.ty) h (I.hok.gone hm.new)
end
end DL

set_option Elab.async false
set_option linter.all false
set_option maxRecDepth 100000
set_option maxHeartbeats 2000000
/-! DL31: a try whose suite knows the exception's address; isinstance of what was caught. -/
namespace DL
open PySem PySem.Spec PyProof.Rows L2
section
variable {X : Cx} {c : Fc} {W : WX} {pos : Pos}
def tryDA (K : PySem.W.Frag) (cv : Value) (i : Nat) (tb : TDS) (ts : Addr → Value → Option Addr → TDS) : TDS := fun D δ =>
  tb { D with ex := fun x δ1 => ∃ b, PySem.W.exmOne K (.ref x.C) cv = some b ∧
    (b = true → ∀ a dd, (x.fs = none → dd = none) → ts a (.ref x.C) dd { nx := fun δ2 => D.nx (δ2.set i none), rt := D.rt, ex := noX, bk := fun δ2 => D.bk (δ2.set i none), ct := fun δ2 => D.ct (δ2.set i none) } (δ1.set i (some (.d (.exc a (.ref x.C) dd x.C x.fs))))) ∧ (b = false → D.ex x δ1) } δ
theorem psd_tryA (K : PySem.W.Frag) (hK : X.K = K) {x n : Str} {cv : Value} {i : Nat} {body suite : List Stmt} {b₀ : Stmt} {np pos pos' : Pos} {tb : TDS} {ts : Addr → Value → Option Addr → TDS} (ni : i ∉ c.sl) (hs : X.stack = X.env :: X.outer) (hf : X.env.frame = some X.env.locals) (hN : X.N.Nodup) (hi : X.N[i]? = some n) (hln : X.env.kindOf n = some .local) (hc : Names X x cv) (tk : Takes X W)
    (hb : ∀ (W : WX) (pn : List (Addr × Obj)) (xe : Value → Shared → Prop), Takes (X.tr pn xe) W → PassesOwn (model X.prog X.w) X.A X.env xe → PSs (X.tr pn xe) body (LS X.K c W tb))
    (hsu : ∀ (a : Addr) (oe : Obj) (cls : Value) (d : Option Addr) (pn : List (Addr × Obj)), Zc cls d oe → (∃ vs, oe.data = .fields vs) → PSs (X.suite a ((a, oe) :: pn)) (b₀ :: suite) (LS X.K c W0 (ts a cls d))) :
    PS X (.Try body [.ExceptHandler (some (.Name x np)) (some n) (b₀ :: suite) pos'] [] [] pos) (LS X.K c W (tryDA K cv i tb ts)) := by
  subst hK
  exact PS_imp (ps_try_as (tb := fun W => LS X.K c W tb) (ts := fun a cls d => LS X.K c W0 (ts a cls d)) hs hf hN hi hln hc tk hb hsu) fun D σ H ⟨δ, tmp, Dd, S, q, k, kr, kb, kc, w⟩ => by
    refine ⟨δ, tmp, _, S, q, k, kr, kb, kc, fun y δ1 σ1 H1 F ow cls d ⟨b, eb, yes, no⟩ S1 er => ?_⟩
    obtain ⟨C, fs⟩ := y
    obtain ⟨rfl, er'⟩ := id er
    refine ⟨b, eb, fun hb a na => ?_, fun hb => w _ _ _ _ F ow _ d (no hb) S1 er⟩
    have hn : fs = none → d = none := fun e => by subst e; exact er'
    have rx : Rep X.K F (.ref a) (.exc a (.ref C) d C fs) := by
      cases fs with
      | none => obtain rfl : d = none := er'; exact .exc0
      | some fs => obtain ⟨dd, vs, rfl, e2, e3⟩ := er'; exact .exc e2 e3
    exact ⟨_, tmp, _, (S1.push rx).set' ni, yes hb a d hn, fun δ2 σ2 H2 q2 ⟨F2, ow2, S2⟩ => k _ _ _ q2 ⟨F2, ow2, S2.del ni⟩, kr, fun δ2 σ2 H2 q2 ⟨F2, ow2, S2⟩ => kb _ _ _ q2 ⟨F2, ow2, S2.del ni⟩, fun δ2 σ2 H2 q2 ⟨F2, ow2, S2⟩ => kc _ _ _ q2 ⟨F2, ow2, S2.del ni⟩, fun _ _ _ _ _ _ _ _ z => z.elim⟩
/-! ### isinstance(e, c) -/
def rIsXc (K : PySem.W.Frag) (a : Addr) (cls : Value) (d : Option Addr) : List V → Hp → VK → Prop := fun xs H Q => ∃ (D : Addr) (c : V) (cv : Value) (b : Bool),
  xs = [.ref a, c] ∧ cls = .ref D ∧ (d = none ∨ ∃ dd fs, d = some dd ∧ H dd = some (.xd fs)) ∧ ExcC K D ∧ (∀ u, RelV c u → u = cv) ∧ PySem.W.kitOne K (.ref D) cv = some b ∧ Q (.bl b) H
theorem call_isXc {a : Addr} {oe : Obj} {pn : List (Addr × Obj)} {cls : Value} {d : Option Addr} (hz : Zc cls d oe) (hf : ∃ vs, oe.data = .fields vs) : CallR (X.suite a ((a, oe) :: pn)) (.builtin "isinstance") (rIsXc X.K a cls d) := by
  intro pins s σ H xs us Q I r h
  obtain ⟨D, c, cv, b, rfl, rfl, hd, T, hcv, e, q⟩ := h
  rcases hd with rfl | ⟨dd, fs, rfl, hdd⟩
  · exact call_isE T hz hf pins s σ H _ us Q I r ⟨c, cv, b, rfl, hcv, e, q⟩
  obtain ⟨u1, u2, rfl, r1, r2⟩ := vals2 r
  cases (show u1 = Value.ref a from r1)
  have e2 := hcv _ r2
  subst e2
  have hget := (I.pin (a, oe) (List.mem_append.mpr (.inl List.mem_cons_self))).1
  obtain ⟨vs, hd⟩ := hf
  obtain ⟨mA, hns, _⟩ := (show ObjOk X.prog X.w H s.heap dd (.xd fs) from I.hok dd _ hdd)
  obtain ⟨od, ho, _⟩ := lookIn_ns hns
  have J : PySem.W.InstAt s.heap a oe D (some od) := ⟨hget, hz.1, by unfold PySem.W.notCls; rw [hd] <;> rfl, by rw [hz.2]; exact ho⟩
  have hc : (PySem.W.clsIn X.K D).isSome = true := by
    obtain ⟨cd, hc, _⟩ := PySem.W.any_some T.hd
    rw [hc] <;> rfl
  exact PySem.W.kia_one (PySem.W.kitx_exc hc T.hg T.hk T.hs T.ha T.hn T.ht T.hm) I.kIn J e (fun z => nomatch z) fun tk => ⟨.bl b, H, I.kept (t' := tk) fun _ _ z => z, rfl, q⟩
end
end DL
namespace DR
open PySem PySem.Spec PyProof.Rows L2 DL
theorem trya {K : PySem.W.Frag} {cv : Value} {i : Nat} {tb : TDS} {ts : Addr → Value → Option Addr → TDS} {D : EndsD} {δ : DSt} (h : tb { D with ex := fun x δ1 => ∃ b, PySem.W.exmOne K (.ref x.C) cv = some b ∧
    (b = true → ∀ a dd, (x.fs = none → dd = none) → ts a (.ref x.C) dd { nx := fun δ2 => D.nx (δ2.set i none), rt := D.rt, ex := noX, bk := fun δ2 => D.bk (δ2.set i none), ct := fun δ2 => D.ct (δ2.set i none) } (δ1.set i (some (.d (.exc a (.ref x.C) dd x.C x.fs))))) ∧ (b = false → D.ex x δ1) } δ) : tryDA K cv i tb ts D δ := h
end DR

set_option Elab.async false
set_option linter.all false
set_option maxRecDepth 100000
set_option maxHeartbeats 2000000
/-! DL32: a, b, c = x, y, z with plain local names. -/
namespace DL
open PySem PySem.Spec PyProof.Rows L2
section
variable {X : Cx} {c : Fc} {W : WX}
end
end DL
namespace DR
open PySem PySem.Spec PyProof.Rows L2 DL
end DR

set_option Elab.async false
set_option linter.all false
set_option maxRecDepth 100000
set_option maxHeartbeats 2000000
/-! DL33: several except clauses whose suites know what was caught; a field of it. -/
namespace DL
open PySem PySem.Spec PyProof.Rows L2
/-! ### e.f of what was caught -/
end DL
namespace DR
open PySem PySem.Spec PyProof.Rows L2 DL
end DR

set_option Elab.async false
set_option linter.all false
set_option maxRecDepth 100000
set_option maxHeartbeats 2000000
/-! DL34: try .. except X: without a name. -/
namespace DL
open PySem PySem.Spec PyProof.Rows L2
end DL
namespace DR
open PySem PySem.Spec PyProof.Rows L2 DL
end DR

set_option Elab.async false
set_option linter.all false
set_option maxRecDepth 100000
/-! DL35: own errors whose __init__ sets fields (the last one set stands first) -/
namespace DL
open PySem PySem.Spec PyProof.Rows L2
def ErrR (K : PySem.W.Frag) (B : Addr) (ns : List Str) : Sp := fun vs H Q _ => ∃ (a : Addr) (xs : List V), vs = .ref a :: xs ∧ xs.length = ns.length ∧ H a = some (exo a B none) ∧ ∀ d, H d = none → d ≠ a → Q .non (upd (upd H d (exd d (ns.zip xs).reverse)) a (exo a B (some d)))
theorem repF_app {K : PySem.W.Frag} {F : Hp} : ∀ {vs us : List (Str × V)} {ds es : List (Str × D)}, RepF K F vs ds → RepF K F us es → RepF K F (vs ++ us) (ds ++ es)
  | _, _, _, _, .nil, g => g
  | _, _, _, _, .cons h t, g => .cons h (repF_app t g)
theorem repF_rev {K : PySem.W.Frag} {F : Hp} : ∀ {vs : List (Str × V)} {ds : List (Str × D)}, RepF K F vs ds → RepF K F vs.reverse ds.reverse
  | _, _, .nil => .nil
  | _, _, .cons h t => by
    rw [List.reverse_cons, List.reverse_cons]
    exact repF_app (repF_rev t) (.cons h .nil)
section
variable (P : Program) (w : World) (K : PySem.W.Frag) (mg : Str → Option Value) (base : Heap)
structure DefX (x : Str) (B : Addr) (ns : List Str) where
  f : Addr
  fd : FuncData
  ps : List Str
  ox : OexC K B
  ini : PySem.W.findIn K (.ref B) "__init__" = some (some (.ref f))
  ty : PySem.W.typeIn K (.ref f) = some (.type "function")
  ok : FnOk P w K mg base CX0 1 f fd ps (ErrR K B ns)
  b : Binds K fd ps []
  mg : mg x = some (.ref B)
end
section
variable {P : Program} {w : World} {K : PySem.W.Frag} {mg : Str → Option Value} {base : Heap} {B : Addr}
theorem ok_err1 {qual n : Str} {st : Stmt} {f : Addr} {fd : FuncData} (F : Fun K "__init__" qual st f fd) (sc : FnScope ["self", n] ["self", n] (defScope st)) (ox : OexC K B) (nw : PySem.W.findIn K (.ref B) n = some none)
    (ht : ∀ (cdv : Value) (A : Around) (outer : List Env) (s : Shared) (H : Hp) (E : XK), PSs (cxOf CX0 P w K mg base ["self", n] qual (defScope st) f cdv A outer s H E).nox (defBody st) (tOst K n (tVar 0) (tVar 1))) :
    FnOk P w K mg base CX0 1 f fd ["self", n] (ErrR K B [n]) := by
  refine F.ok sc (fun vs H Q E h => ?_) (fun cdv A outer s H vs Q E hr h => ?_)
  · obtain ⟨a, xs, rfl, hl, _⟩ := h
    match xs, hl with
    | [_], _ => rfl
  · obtain ⟨a, xs, rfl, hl, ha, k⟩ := h
    obtain ⟨x, rfl⟩ : ∃ x, xs = [x] := by
      match xs, hl with
      | [x], _ => exact ⟨x, rfl⟩
    refine ⟨_, ht cdv A outer s H E, ?_⟩
    refine ⟨x, rfl, .ref a, rfl, a, B, rfl, ox, nw, .inl ⟨ha, fun dx n ne => ?_⟩⟩
    exact k dx n ne
end
section
variable {X : Cx} {c : Fc} {W : WX}
def raiseR (B : Addr) (ns : List Str) (ta : TDA) : TDS := fun D δ => ta δ (fun as δ1 => ∃ ds, as = ds.map .d ∧ ds.length = ns.length ∧ ds.length ≤ 1000 ∧ D.ex ⟨B, some (ns.zip ds).reverse⟩ δ1) D.ex
theorem psd_raiseR {x : Str} {B : Addr} {ns : List Str} {e : Expr} {es : List Expr} {ta : TDA} {p pos pos2 : Pos} (hc : X.calm = true) (tk : Takes X W)
    (hk : ∀ {ta : TA}, PA X (e :: es) ta → PMk X (.Call (.Name x p) (e :: es) [] pos) (tMkO B (ErrR X.K B ns) [] ta)) (ha : PA X (e :: es) (LA X.K c W ta)) :
    PS X (.Raise (some (.Call (.Name x p) (e :: es) [] pos)) none pos2) (LS X.K c W (raiseR B ns ta)) :=
  PS_imp (ps_raise hc tk (hk ha)) fun D σ H ⟨δ, tmp, Dd, S, q, k, kr, kb, kc, w⟩ => ⟨δ, tmp, _, _, S, q, fun vs as δ1 F ow H1 ⟨ds, ea, hl, hz, q1⟩ S1 ra => by
    subst ea
    have r := args_d ra
    refine ⟨by rw [r.len]; exact hz, fun a na => ?_⟩
    refine ⟨a, vs, by rw [List.append_nil], by rw [r.len]; exact hl, upd_same, fun d nd ne => ⟨rfl, d, (ns.zip vs).reverse, upd_same, by rw [upd_ne ne, upd_same], by rwa [upd_ne ne] at nd, ?_⟩⟩
    have nd1 : H1 d = none := by rwa [upd_ne ne] at nd
    have eH : upd (del (upd (upd (upd H1 a (exo a B none)) d (exd d (ns.zip vs).reverse)) a (exo a B (some d))) a) d (.xd (ns.zip vs).reverse) = upd H1 d (.xd (ns.zip vs).reverse) := by
      funext b
      by_cases h1 : b = d
      · subst h1; rw [upd_same, upd_same]
      · rw [upd_ne h1, upd_ne h1]
        by_cases h2 : b = a
        · subst h2; rw [del_same]; exact na.symm
        · rw [del_ne h2, upd_ne h2, upd_ne h1, upd_ne h2]
    rw [eH]
    exact w _ _ _ _ _ ow _ _ q1 (S1.ext (Ext.new S1.fh nd1)) ⟨rfl, d, _, rfl, upd_same, repF_rev (repF_zip (r.mono (same_upd (Same.refl F) (S1.fh.free nd1))))⟩, w⟩
end
end DL
namespace DR
open PySem PySem.Spec PyProof.Rows L2 DL
theorem raiser {B : Addr} {ns : List Str} {ta : TDA} {D : EndsD} {δ : DSt} (h : ta δ (fun as δ1 => ∃ ds, as = ds.map .d ∧ ds.length = ns.length ∧ ds.length ≤ 1000 ∧ D.ex ⟨B, some (ns.zip ds).reverse⟩ δ1) D.ex) : raiseR B ns ta D δ := h
end DR

set_option Elab.async false
set_option linter.all false
set_option maxRecDepth 100000
/-! DL36: methods with defaults, classmethods with keywords, deep `in` of tuples, join -/
namespace DL
open PySem PySem.Spec PyProof.Rows L2
section
variable {X : Cx} {k n : Nat} {f g C : Addr} {fd : FuncData} {ps ks : List Str} {sp : Sp} {E : L2.St → XK} {x m : Str} {p pos apos : Pos} {e o : Expr} {es : List Expr} {kws : List Keyword} {t tk : TA} {to : TE} {gU : List Value → List Value → List Value} {gV : List V → List V → List V} {i : Nat}
/-! ### o.m(..) by values alone -/
/-! ### C.m(.., k = v), m a classmethod -/
end
section
variable {X : Cx} {c : Fc} {W : WX} {k n : Nat} {f g C : Addr} {fd : FuncData} {ps ks : List Str} {sd : SpD} {x m : Str} {p pos apos kpos : Pos} {e o : Expr} {es : List Expr} {kws : List Keyword} {t to : TD} {ta tk : TDA} {gU : List Value → List Value → List Value} {gV : List V → List V → List V} {i : Nat}
end
section
variable (P : Program) (w : World) (K : PySem.W.Frag) (mg : Str → Option Value) (base : Heap)
end
/-! ### x in (..), items of any depth -/
section
variable {X : Cx}
def rInT (K : PySem.W.Frag) (neg : Bool) : R2 := fun x y H Q => ∃ d ds, Dp K H x d ∧ (Dp K H y (.list ds) ∧ SeqAt.shaped (.list ds) = true ∨ Dp K H y (.tuple ds) ∧ SeqAt.shaped (.tuple ds) = true) ∧ SeqAt.shaped d = true ∧ Q (.bl (if neg then !ds.any fun z => PyData.eqv z d else ds.any fun z => PyData.eqv z d)) H
theorem op_inT (hu : X.A.units + 65 < cLine) : OpR X (compareOp .In) (rInT X.K false) := by
  intro pins s σ H x y v u Q I rx ry h
  obtain ⟨d, ds, hd, he, sd, q⟩ := h
  obtain ⟨as, r1⟩ := Dp.reads I d x v hd rx
  rcases he with ⟨he, se⟩ | ⟨he, se⟩
  · obtain ⟨bs, r2⟩ := Dp.reads I (.list ds) y u he ry
    exact SeqAt.in_list_reads r2 r1 (SeqAt.canLay_of_shaped se) (SeqAt.canLay_of_shaped sd) (room_in_shaped sd hu) ⟨.bl _, H, I, rfl, q⟩
  · obtain ⟨bs, r2⟩ := Dp.reads I (.tuple ds) y u he ry
    exact SeqAt.in_tuple_reads r2 r1 (SeqAt.canLay_of_shaped se) (SeqAt.canLay_of_shaped sd) (room_in_shaped sd hu) ⟨.bl _, H, I, rfl, q⟩
end
abbrev inTS (neg : Bool) : RD2s := fun a b Q => ∃ xs, (b = .lst xs ∨ b = .tup xs) ∧ Cmp a ∧ Cmp b ∧ Q (.bl (if neg then !(pyL xs).any fun z => PyData.eqv z a.py else (pyL xs).any fun z => PyData.eqv z a.py))
theorem op2_inT {K : PySem.W.Frag} (neg : Bool) : Op2s K (rInT K neg) (inTS neg) := fun x y a b F H Q Qd s rx ry ⟨xs, hb, ca, cb, q⟩ k => by
  refine ⟨a.py, pyL xs, dp_mono s (rx.dp ca.1), ?_, rx.shp ca, k _ _ q rfl⟩
  rcases hb with rfl | rfl
  · exact .inl ⟨dp_mono s (ry.dp cb.1), ry.shp cb⟩
  · exact .inr ⟨dp_mono s (ry.dp cb.1), ry.shp cb⟩
end DL
namespace DR
open PySem PySem.Spec PyProof.Rows L2 DL
section
variable {δ : DSt} {Q : DK} {E : XD}
end
end DR

set_option Elab.async false
set_option linter.all false
set_option maxRecDepth 100000
/-! DL37: defs with positional defaults -/
namespace DL
open PySem PySem.Spec PyProof.Rows L2
section
variable {P : Program} {w : World} {K : PySem.W.Frag} {mg : Str → Option Value} {base : Heap}
end
end DL

set_option Elab.async false
set_option linter.all false
set_option maxRecDepth 100000
/-! DL38: sep.join(texts) -/
namespace DL
open PySem PySem.Spec PyProof.Rows L2
theorem strOk_join {y : Str} (hy : PyData.strOk y = true) : ∀ {xs : List Str}, (∀ x ∈ xs, PyData.strOk x = true) → PyData.strOk (Str.join y xs) = true
  | [], _ => by
    show PyData.strOk Str.empty = true
    decide +kernel
  | [x], h => h x List.mem_cons_self
  | x :: z :: r, h => by
    show PyData.strOk (x ++ y ++ Str.join y (z :: r)) = true
    exact strOk_app (strOk_app (h x List.mem_cons_self) hy) (strOk_join hy fun a ha => h a (List.mem_cons_of_mem _ ha))
section
variable {X : Cx} {c : Fc} {W : WX}
end
end DL
namespace DR
open PySem PySem.Spec PyProof.Rows L2 DL
end DR

set_option Elab.async false
set_option linter.all false
set_option maxRecDepth 100000
set_option maxHeartbeats 2000000
/-! DL39: dict(zip(a, b)) of two tuples, a of texts -/
namespace ZT
open PySem PySem.Spec
open PySem.Sem (wp)
section
variable {prog : Program} {w : World} {A : Around} {E : Value → Shared → Prop} {s : Shared} {z TI TO T i1 i2 l1 l2 : Addr} {f : Bool} {oT : Obj} {k1 k2 : Nat} {xs ys : Array Value}
/-- two tuples are zipped, a tuple given out before is still there -/
theorem item_h {x y : Value} {Q : Value → Shared → Prop} (D : ZipApart z TI TO i1 i2 l1 l2) (hz : IsZipHeld s.heap z TI TO T f) (hT : s.heap.get? T = some oT) (hI : IsPair s.heap TI (.ref i1) (.ref i2)) (a1 : s.heap.IsTupleIter i1 l1 k1) (a2 : s.heap.IsTupleIter i2 l2 k2) (b1 : s.heap.IsTuple l1 xs) (b2 : s.heap.IsTuple l2 ys) (ex : xs[k1]? = some x) (ey : ys[k2]? = some y)
    (hQ : ∀ g, IsZipHeld g z TI TO T true → g.IsTupleIter i1 l1 (k1 + 1) → g.IsTupleIter i2 l2 (k2 + 1) → IsPair g s.heap.objs.size x y → (∀ c o, c ≠ z → c ≠ i1 → c ≠ i2 → s.heap.get? c = some o → g.get? c = some o) → Q (.ref s.heap.objs.size) { s with heap := g }) :
    wpAny (model prog w) A (Builtin.«zip.__next__» ⟨[.ref z], []⟩) (fun fin s' => ∃ v, fin = .done (.ret v) ∧ Q v s') E s := by
  show wpAny _ _ (field (.ref z) 2 >>= _) _ _ _; refine wpAny_bind (wpAny_field hz rfl (x := .bool false) rfl ?_); show wpAny _ _ (field (.ref z) 3 >>= _) _ _ _
  refine wpAny_bind (wpAny_field hz rfl (x := .ref TI) rfl ?_); refine wpAny_bind (wpAny_seqItems hI rfl ?_); show wpAny _ _ (Builtin.SmallTypes.ownedTupleIsFree (.ref z) >>= _) _ _ _
  refine wpAny_bind (wpAny_tupleHeld_zip hz hT fun g1 z1 s1 => ?_); simp only [Bool.false_eq_true, if_false]; refine wpAny_bind ?_; rw [← Array.forIn_toList]; simp only [List.forIn_cons, List.forIn_nil]
  refine wpAny_bind (wpAny_bind (wpAny_holding ?_)); show wpAny _ _ (Builtin.SmallTypes.nextOf (.ref i1) >>= _) _ _ _
  refine wpAny_bind (RZ.nextOf_tuple_item (s := { s with heap := g1 }) (a1.extBut s1.extBut D.i1z) (b1.extBut s1.extBut D.l1z) ex fun g2 j1 s2 => wpAny_pure ?_); refine wpAny_pure ?_
  refine wpAny_bind (wpAny_bind (wpAny_holding ?_)); show wpAny _ _ (Builtin.SmallTypes.nextOf (.ref i2) >>= _) _ _ _
  refine wpAny_bind (RZ.nextOf_tuple_item (s := { s with heap := g2 }) ((a2.extBut s1.extBut D.i2z).extBut s2.extBut D.i12.symm) ((b2.extBut s1.extBut D.l2z).extBut s2.extBut D.l2i1) ey fun g3 j2 s3 => wpAny_pure ?_)
  refine wpAny_pure (wpAny_pure ?_); show wpAny _ _ (newTuple [x, y] >>= _) _ _ _; refine wpAny_bind (wpAny_newTuple ?_)
  have sz : g3.objs.size = s.heap.objs.size := by rw [s3.1, s2.1, s1.1]
  have z3 : IsZipHeld g3 z TI TO T true := s3.extBut _ _ D.i2z.symm (s2.extBut _ _ D.i1z.symm z1)
  have kp : ∀ c o, c ≠ z → c ≠ i1 → c ≠ i2 → s.heap.get? c = some o → g3.get? c = some o := fun c o c1 c2 c3 e => s3.extBut _ _ c3 (s2.extBut _ _ c2 (s1.extBut _ _ c1 e))
  have j3 : g3.IsTupleIter i1 l1 (k1 + 1) := j1.extBut s3.extBut D.i12
  refine wpAny_pure ⟨_, rfl, ?_⟩; show Q (.ref g3.objs.size) _
  have hp : IsPair (g3.push { cls := .type "tuple", data := .seq #[x, y] }) g3.objs.size x y := Heap.get?_push_size _ rfl; rw [sz] at hp ⊢
  exact hQ _ (Heap.get?_push_of_some _ z3) (j3.at fun o e => Heap.get?_push_of_some _ e) (j2.at fun o e => Heap.get?_push_of_some _ e) hp fun c o c1 c2 c3 e => Heap.get?_push_of_some _ (kp c o c1 c2 c3 e)
theorem end_h {Q : Fin → Shared → Prop} (hh : A.handled = none) (D : ZipApart z TI TO i1 i2 l1 l2) (hz : IsZipHeld s.heap z TI TO T f) (hT : s.heap.get? T = some oT) (hI : IsPair s.heap TI (.ref i1) (.ref i2)) (a1 : s.heap.IsTupleIter i1 l1 k1) (a2 : s.heap.IsTupleIter i2 l2 k2) (b1 : s.heap.IsTuple l1 xs) (b2 : s.heap.IsTuple l2 ys) (hend : xs[k1]? = none ∨ ys[k2]? = none)
    (hE : ∀ g e, (∀ c o, c ≠ z → c ≠ i1 → c ≠ i2 → s.heap.get? c = some o → g.get? c = some o) → (∃ o, g.get? e = some o ∧ o.cls = .type "StopIteration") → E (.ref e) { s with heap := g }) : wpAny (model prog w) A (Builtin.«zip.__next__» ⟨[.ref z], []⟩) Q E s := by
  show wpAny _ _ (field (.ref z) 2 >>= _) _ _ _; refine wpAny_bind (wpAny_field hz rfl (x := .bool false) rfl ?_); show wpAny _ _ (field (.ref z) 3 >>= _) _ _ _
  refine wpAny_bind (wpAny_field hz rfl (x := .ref TI) rfl ?_); refine wpAny_bind (wpAny_seqItems hI rfl ?_); show wpAny _ _ (Builtin.SmallTypes.ownedTupleIsFree (.ref z) >>= _) _ _ _
  refine wpAny_bind (wpAny_tupleHeld_zip hz hT fun g1 z1 s1 => ?_); simp only [Bool.false_eq_true, if_false]; refine wpAny_bind ?_; rw [← Array.forIn_toList]; simp only [List.forIn_cons, List.forIn_nil]
  refine wpAny_bind (wpAny_bind (wpAny_holding ?_)); show wpAny _ _ (Builtin.SmallTypes.nextOf (.ref i1) >>= _) _ _ _
  cases hx : xs[k1]? with
  | none => exact wpAny_bind (RZ.nextOf_tuple_end (s := { s with heap := g1 }) hh (a1.extBut s1.extBut D.i1z) (b1.extBut s1.extBut D.l1z) hx fun g2 e s2 he => hE g2 e (fun c o c1 c2 _ q => s2 _ _ c2 (s1.extBut _ _ c1 q)) he)
  | some x =>
    have hy : ys[k2]? = none := by rcases hend with h | h <;> first | exact h | (rw [hx] at h; cases h)
    refine wpAny_bind (RZ.nextOf_tuple_item (s := { s with heap := g1 }) (a1.extBut s1.extBut D.i1z) (b1.extBut s1.extBut D.l1z) hx fun g2 j1 s2 => wpAny_pure ?_); refine wpAny_pure ?_
    refine wpAny_bind (wpAny_bind (wpAny_holding ?_)); show wpAny _ _ (Builtin.SmallTypes.nextOf (.ref i2) >>= _) _ _ _
    exact wpAny_bind (RZ.nextOf_tuple_end (s := { s with heap := g2 }) hh ((a2.extBut s1.extBut D.i2z).extBut s2.extBut D.i12.symm) ((b2.extBut s1.extBut D.l2z).extBut s2.extBut D.l2i1) hy fun g3 e s3 he => hE g3 e (fun c o c1 c2 c3 q => s3 _ _ c3 (s2.extBut _ _ c2 (s1.extBut _ _ c1 q))) he)
theorem next_h {x y : Value} {Q : Option Value → Shared → Prop} (D : ZipApart z TI TO i1 i2 l1 l2) (hz : IsZipHeld s.heap z TI TO T f) (hT : s.heap.get? T = some oT) (hI : IsPair s.heap TI (.ref i1) (.ref i2)) (a1 : s.heap.IsTupleIter i1 l1 k1) (a2 : s.heap.IsTupleIter i2 l2 k2) (b1 : s.heap.IsTuple l1 xs) (b2 : s.heap.IsTuple l2 ys) (ex : xs[k1]? = some x) (ey : ys[k2]? = some y)
    (hQ : ∀ g, IsZipHeld g z TI TO T true → g.IsTupleIter i1 l1 (k1 + 1) → g.IsTupleIter i2 l2 (k2 + 1) → IsPair g s.heap.objs.size x y → (∀ c o, c ≠ z → c ≠ i1 → c ≠ i2 → s.heap.get? c = some o → g.get? c = some o) → Q (some (.ref s.heap.objs.size)) { s with heap := g }) :
    wpAny (model prog w) A (pyNext (.ref z)) Q E s := by
  have ty : s.TypeIs (.ref z) "zip" := ⟨_, hz, rfl⟩
  unfold pyNext
  exact wpAny_bind (wpAny_attempt (wpAny_callSpecial?_slot (name := Str.ofString "__next__") ty F.slot_zip_next (wpAny_call_entry F.slot_zip_next ty F.entry_zip_next (item_h D hz hT hI a1 a2 b1 b2 ex ey fun g c1 c2 c3 c4 c5 => wpAny_pure (hQ g c1 c2 c3 c4 c5)) (F.args_zip_next_1 _))))
theorem last_h {Q : Option Value → Shared → Prop} (hh : A.handled = none) (D : ZipApart z TI TO i1 i2 l1 l2) (hz : IsZipHeld s.heap z TI TO T f) (hT : s.heap.get? T = some oT) (hI : IsPair s.heap TI (.ref i1) (.ref i2)) (a1 : s.heap.IsTupleIter i1 l1 k1) (a2 : s.heap.IsTupleIter i2 l2 k2) (b1 : s.heap.IsTuple l1 xs) (b2 : s.heap.IsTuple l2 ys) (hend : xs[k1]? = none ∨ ys[k2]? = none)
    (hQ : ∀ g, (∀ c o, c ≠ z → c ≠ i1 → c ≠ i2 → s.heap.get? c = some o → g.get? c = some o) → Q none { s with heap := g }) : wpAny (model prog w) A (pyNext (.ref z)) Q E s := by
  have ty : s.TypeIs (.ref z) "zip" := ⟨_, hz, rfl⟩
  unfold pyNext
  refine wpAny_bind (wpAny_attempt (wpAny_callSpecial?_slot (name := Str.ofString "__next__") ty F.slot_zip_next (wpAny_call_entry F.slot_zip_next ty F.entry_zip_next (end_h hh D hz hT hI a1 a2 b1 b2 hend fun g e hk he => ?_) (F.args_zip_next_1 _))))
  obtain ⟨o, ho, hc⟩ := he
  exact wpAny_bind (wpAny_isInstance (T := "StopIteration") (b := true) ⟨o, ho, hc⟩ isSubtype_stop (wpAny_pure (hQ _ hk)))
end
section
variable {prog : Program} {w : World}
end
end ZT
namespace DL
open PySem PySem.Spec PyProof.Rows L2
end DL

set_option Elab.async false
set_option linter.all false
set_option maxRecDepth 100000
set_option maxHeartbeats 2000000
/-! DL40: dicts by plain keys in data; tuple * int; index of a text; isinstance of what was caught, of a built-in class -/
namespace DL
open PySem PySem.Spec PyProof.Rows L2
/-! ### dict(zip(a, b)) -/
section
variable {X : Cx} {c : Fc} {W : WX}
/-! ### d[k] -/
/-! ### xs.index(x), texts -/
/-! ### isinstance(e, X), X a built-in class -/
abbrev isXcT (K : PySem.W.Frag) (a : Addr) (cls : Value) (d : Option Addr) : RDNs := fun ds Q => ∃ (C : Addr) (n : String) (fs : Option (List (Str × D))) (b : Bool), ds = [.exc a (.ref C) d C fs, .ty n] ∧ cls = .ref C ∧ ExcC K C ∧ PySem.W.kitOne K (.ref C) (.type n) = some b ∧ Q (.bl b)
theorem rel_ty {K : PySem.W.Frag} {F : Hp} {v : V} {n : String} (r : Rep K F v (.ty n)) : ∀ u, RelV v u → u = .type n := by
  cases r
  intro u h
  exact h
theorem cn_isXcT {K : PySem.W.Frag} {a : Addr} {cls : Value} {d : Option Addr} : CallNs K (rIsXc K a cls d) (isXcT K a cls d) := fun xs ds F H Q Qd s r ⟨C, n, fs, b, e, hc, T, hk, q⟩ k => by
  subst e
  cases r with
  | cons r t =>
    cases t with
    | cons r2 t =>
      cases t
      cases r with
      | exc0 => exact ⟨C, _, _, b, rfl, hc, .inl rfl, T, rel_ty r2, hk, k _ _ q rfl⟩
      | exc s1 h => exact ⟨C, _, _, b, rfl, hc, .inr ⟨_, _, rfl, s _ _ s1⟩, T, rel_ty r2, hk, k _ _ q rfl⟩
/-! ### (x, ..) * n -/
end
end DL
namespace DR
open PySem PySem.Spec PyProof.Rows L2 DL
section
variable {δ : DSt} {Q : DK} {E : XD}
end
end DR

set_option Elab.async false
set_option linter.all false
set_option maxRecDepth 100000
set_option maxHeartbeats 2000000
/-! DL41: f(a, *xs) of a def with a star; sum of a list of numbers -/
namespace DL
open PySem PySem.Spec PyProof.Rows L2
section
variable {X : Cx} {c : Fc} {W : WX}
end
section
variable {X : Cx} {c : Fc} {W : WX}
variable {k : Nat} {f C : Addr} {sd : SpD} {x m : Str} {p pos apos : Pos} {e o : Expr} {es : List Expr} {ta : TDA}
end
/-! ### if xs: a tuple or a list -/
section
variable {X : Cx} {c : Fc} {W : WX}
end
end DL
namespace DR
open PySem PySem.Spec PyProof.Rows L2 DL
variable {δ : DSt} {E : XD}
end DR

set_option Elab.async false
set_option linter.all false
set_option maxRecDepth 100000
/-! comprehensions whose body may raise: the exception leaves the block, and then the def or a try of it -/
namespace L2
open PySem PySem.Spec PyProof.Rows
section
variable {M : Model} {A : Around} {E : Value → Shared → Prop} {s : Shared} {env : Env}
end
section
variable {M : Model} {A : Around} {E : Value → Shared → Prop} {s : Shared} {env : Env} {base : Heap} {outer : List Env} {e L : Addr} {Z : Obj → Prop} {fl : Value}
end
end L2
namespace L2
open PySem PySem.Spec PyProof.Rows
section
variable {X : Cx}
end
end L2
namespace L2
open PySem PySem.Spec PyProof.Rows
section
variable {X : Cx} {W : WX}
end
end L2
namespace L2
open PySem PySem.Spec PyProof.Rows
section
variable {X : Cx} {W : WX} {elt tg iter : Expr} {ifs : List Expr} {scope : Scope} {own : List (Str × Nat)} {pos : Pos} {wi : TI} {g : TG} {tt : WX → TT} {te : WX → TE}
end
end L2

set_option Elab.async false
set_option linter.all false
set_option maxRecDepth 100000
namespace DL
open PySem PySem.Spec PyProof.Rows L2
section
variable {K : PySem.W.Frag} {c : Fc} {F F' H H' : Hp} {ow ow' : Addr → Option Hold} {δ δ' : DSt} {tmp : List (V × DV)} {σ σ' : L2.St}
end
section
variable {X : Cx} {c : Fc} {W : WX}
end
end DL
namespace DR
open PySem PySem.Spec PyProof.Rows L2 DL
end DR

set_option Elab.async false
set_option linter.all false
set_option maxRecDepth 100000
/-! zip of two, each a list or a tuple, of one length -/
namespace Z2
open PySem
open PySem.Sem (wp)
def It (b : Bool) (h : Heap) (it l : Addr) (i : Nat) : Prop := if b = true then h.IsTupleIter it l i else h.IsListIter it l i
def Sq (b : Bool) (h : Heap) (l : Addr) (xs : Array Value) : Prop := if b = true then h.IsTuple l xs else h.IsList l xs
theorem keepI {b : Bool} {h h2 : Heap} {it l : Addr} {i : Nat} (z : It b h it l i) (k : ∀ o, h.get? it = some o → h2.get? it = some o) : It b h2 it l i := by
  cases b with
  | false => obtain ⟨o, a, r⟩ := (show h.IsListIter it l i from z); exact (show h2.IsListIter it l i from ⟨o, k o a, r⟩)
  | true => obtain ⟨o, a, r⟩ := (show h.IsTupleIter it l i from z); exact (show h2.IsTupleIter it l i from ⟨o, k o a, r⟩)
theorem keepL {b : Bool} {h h2 : Heap} {l : Addr} {xs : Array Value} (z : Sq b h l xs) (k : ∀ o, h.get? l = some o → h2.get? l = some o) : Sq b h2 l xs := by
  cases b with
  | false => obtain ⟨o, a, r⟩ := (show h.IsList l xs from z); exact (show h2.IsList l xs from ⟨o, k o a, r⟩)
  | true => obtain ⟨o, a, r⟩ := (show h.IsTuple l xs from z); exact (show h2.IsTuple l xs from ⟨o, k o a, r⟩)
theorem It.there {b : Bool} {h : Heap} {it l : Addr} {i : Nat} (z : It b h it l i) : ∃ o, h.get? it = some o ∧ ∀ v, o.data ≠ .cell v := by
  cases b with
  | false => obtain ⟨o, a, c, d⟩ := (show h.IsListIter it l i from z); exact ⟨o, a, fun v q => by rw [d] at q; cases q⟩
  | true => obtain ⟨o, a, c, d⟩ := (show h.IsTupleIter it l i from z); exact ⟨o, a, fun v q => by rw [d] at q; cases q⟩
section
variable {prog : Program} {w : World} {A : Around} {E : Value → Shared → Prop} {s : Shared} {p q : Bool}
theorem nextOf_item {it l : Addr} {i : Nat} {xs : Array Value} {x : Value} {Q : Value → Shared → Prop} (h1 : It p s.heap it l i) (h2 : Sq p s.heap l xs) (hx : xs[i]? = some x)
    (hQ : ∀ k, It p k it l (i + 1) → Heap.SameBut it s.heap k → Q x { s with heap := k }) : wpAny (model prog w) A (Builtin.SmallTypes.nextOf (.ref it)) Q E s := by
  cases p with
  | false => exact wpAny_nextOf_list_item (show s.heap.IsListIter it l i from h1) (show s.heap.IsList l xs from h2) hx fun k a b => hQ k (show k.IsListIter it l (i + 1) from a) b
  | true => exact RZ.nextOf_tuple_item (show s.heap.IsTupleIter it l i from h1) (show s.heap.IsTuple l xs from h2) hx fun k a b => hQ k (show k.IsTupleIter it l (i + 1) from a) b
theorem nextOf_end {it l : Addr} {i : Nat} {xs : Array Value} {Q : Value → Shared → Prop} (hh : A.handled = none) (h1 : It p s.heap it l i) (h2 : Sq p s.heap l xs) (hx : xs[i]? = none)
    (hE : ∀ k e, Heap.ExtBut it s.heap k → (∃ o, k.get? e = some o ∧ o.cls = .type "StopIteration") → E (.ref e) { s with heap := k }) : wpAny (model prog w) A (Builtin.SmallTypes.nextOf (.ref it)) Q E s := by
  cases p with
  | false => exact wpAny_nextOf_list_end hh (show s.heap.IsListIter it l i from h1) (show s.heap.IsList l xs from h2) hx hE
  | true => exact RZ.nextOf_tuple_end hh (show s.heap.IsTupleIter it l i from h1) (show s.heap.IsTuple l xs from h2) hx hE
abbrev Duo (h : Heap) (T : Addr) (a b : Value) : Prop := h.get? T = some { cls := .type "tuple", data := .seq #[a, b] }
theorem put {T : Addr} {a b x : Value} {k : Nat} {Q : Unit → Shared → Prop} (hT : Duo s.heap T a b) (h : ∀ h2, h2.get? T = some { cls := .type "tuple", data := .seq ((#[a, b] : Array Value).setIfInBounds k x) } → Heap.SameBut T s.heap h2 → Q () { s with heap := h2 }) :
    wpAny (model prog w) A (updateSeq T (·.setIfInBounds k x)) Q E s := by
  refine wpAny_updateSeq hT rfl (h _ ?_ (Heap.SameBut.update ..))
  rw [Heap.get?_update_self _ hT rfl]
  simp [Obj.mapSeq]
variable {n l1 l2 : Nat} {i : Nat} {xs ys : Array Value} {x y a b : Value}
theorem next_item {Q : Value → Shared → Prop} (g1 : l1 < n) (g2 : l2 < n) (hz : IsZip s.heap (n + 4) (n + 2) (n + 3) .none) (hI : Duo s.heap (n + 2) (.ref n) (.ref (n + 1))) (hO : Duo s.heap (n + 3) a b)
    (h1 : It p s.heap n l1 i) (h2 : It q s.heap (n + 1) l2 i) (q1 : Sq p s.heap l1 xs) (q2 : Sq q s.heap l2 ys) (e1 : xs[i]? = some x) (e2 : ys[i]? = some y)
    (hQ : ∀ k, IsZip k (n + 4) (n + 2) (n + 3) (rawInt s.heap.objs.size) → Duo k (n + 3) x y → It p k n l1 (i + 1) → It q k (n + 1) l2 (i + 1) → Duo k s.heap.objs.size x y → k.objs.size = s.heap.objs.size + 1 →
      (∀ d o, d ≠ n + 4 → d ≠ n + 3 → d ≠ n → d ≠ n + 1 → s.heap.get? d = some o → k.get? d = some o) → Q (.ref s.heap.objs.size) { s with heap := k }) :
    wpAny (model prog w) A (Builtin.«zip.__next__» ⟨[.ref (n + 4)], []⟩) (fun fin t => ∃ v, fin = .done (.ret v) ∧ Q v t) E s := by
  show wpAny _ _ (field (.ref (n + 4)) 2 >>= _) _ _ s
  refine wpAny_bind (wpAny_field hz rfl (x := .bool false) rfl ?_)
  show wpAny _ _ (field (.ref (n + 4)) 3 >>= _) _ _ s
  refine wpAny_bind (wpAny_field hz rfl (x := .ref (n + 2)) rfl (wpAny_bind (wpAny_seqItems hI rfl ?_)))
  show wpAny _ _ (Builtin.SmallTypes.ownedTupleIsFree (.ref (n + 4)) >>= _) _ _ s
  refine wpAny_bind ?_
  unfold Builtin.SmallTypes.ownedTupleIsFree
  refine wpAny_bind (wpAny_field hz rfl (x := .none) rfl (wpAny_pure ?_))
  simp only [if_true]
  refine wpAny_bind (wpAny_rule (wpAny_bind (wpAny_field hz rfl (x := .ref (n + 3)) rfl (wpAny_bind (wpAny_setField_rec hz (by simp) fun k1 z1 sb1 => ?_)))))
  have z1 : IsZip k1 (n + 4) (n + 2) (n + 3) .ellipsis := z1
  refine wpAny_bind ?_
  simp only [List.zipIdx_cons, List.zipIdx_nil, List.forIn_cons, List.forIn_nil]
  -- the first
  refine wpAny_bind (wpAny_bind (wpAny_onRaise ?_))
  show wpAny _ _ (Builtin.SmallTypes.nextOf (.ref n) >>= _) _ _ _
  refine wpAny_bind (nextOf_item (keepI h1 fun o q => (sb1.2 n (by change @Ne Nat _ _; omega)).trans q) (keepL q1 fun o q => (sb1.2 l1 (by change @Ne Nat _ _; omega)).trans q) e1 fun k2 i1 sb2 => wpAny_pure ?_)
  have O2 : Duo k2 (n + 3) a b := (sb2.2 (n + 3) (by change @Ne Nat _ _; omega)).trans ((sb1.2 (n + 3) (by change @Ne Nat _ _; omega)).trans hO)
  refine wpAny_bind (wpAny_seqItems O2 rfl (wpAny_bind (put O2 fun k3 O3 sb3 => wpAny_bind (wpAny_letGo (wpAny_pure ?_)))))
  have O3 : Duo k3 (n + 3) x b := O3
  -- the second
  refine wpAny_bind (wpAny_bind (wpAny_onRaise ?_))
  show wpAny _ _ (Builtin.SmallTypes.nextOf (.ref (n + 1)) >>= _) _ _ _
  have up3 : ∀ d o, d ≠ n + 4 → d ≠ n + 3 → d ≠ n → s.heap.get? d = some o → k3.get? d = some o := fun d o d1 d2 d3 q => (sb3.2 d d2).trans ((sb2.2 d d3).trans ((sb1.2 d d1).trans q))
  refine wpAny_bind (nextOf_item (keepI h2 fun o q => up3 _ o (by change @Ne Nat _ _; omega) (by change @Ne Nat _ _; omega) (by change @Ne Nat _ _; omega) q) (keepL q2 fun o q => up3 _ o (by change @Ne Nat _ _; omega) (by change @Ne Nat _ _; omega) (by change @Ne Nat _ _; omega) q) e2 fun k4 i2 sb4 => wpAny_pure ?_)
  have O4 : Duo k4 (n + 3) x b := (sb4.2 (n + 3) (by change @Ne Nat _ _; omega)).trans O3
  refine wpAny_bind (wpAny_seqItems O4 rfl (wpAny_bind (put O4 fun k7 O7 sb7 => wpAny_bind (wpAny_letGo (wpAny_pure (wpAny_pure ?_))))))
  have O7 : Duo k7 (n + 3) x y := O7
  -- the new tuple
  refine wpAny_bind (wpAny_seqItems O7 rfl (wpAny_bind (wpAny_newTuple ?_)))
  have sz : k7.objs.size = s.heap.objs.size := by rw [sb7.1, sb4.1, sb3.1, sb2.1, sb1.1]
  have up7 : ∀ d o, d ≠ n + 4 → d ≠ n + 3 → d ≠ n → d ≠ n + 1 → s.heap.get? d = some o → k7.get? d = some o := fun d o d1 d2 d3 d4 q => (sb7.2 d d2).trans ((sb4.2 d d4).trans (up3 d o d1 d2 d3 q))
  have z7 : IsZip k7 (n + 4) (n + 2) (n + 3) .ellipsis := (sb7.2 (n + 4) (by change @Ne Nat _ _; omega)).trans ((sb4.2 (n + 4) (by change @Ne Nat _ _; omega)).trans ((sb3.2 (n + 4) (by change @Ne Nat _ _; omega)).trans ((sb2.2 (n + 4) (by change @Ne Nat _ _; omega)).trans z1)))
  have j1 : It p k7 n l1 (i + 1) := keepI i1 fun o q => (sb7.2 n (by change @Ne Nat _ _; omega)).trans ((sb4.2 n (by change @Ne Nat _ _; omega)).trans ((sb3.2 n (by change @Ne Nat _ _; omega)).trans q))
  have j2 : It q k7 (n + 1) l2 (i + 1) := keepI i2 fun o q => (sb7.2 (n + 1) (by change @Ne Nat _ _; omega)).trans q
  have zl : n + 4 < k7.objs.size := Heap.lt_size z7
  show wpAny _ _ (Builtin.SmallTypes.ownedTupleHandOut (.ref (n + 4)) (.ref k7.objs.size) >>= _) _ _ _
  refine wpAny_bind ?_
  unfold Builtin.SmallTypes.ownedTupleHandOut
  have z8 : IsZip (k7.push { cls := .type "tuple", data := .seq #[x, y] }) (n + 4) (n + 2) (n + 3) .ellipsis := Heap.get?_push_of_some _ z7
  refine wpAny_bind (wpAny_setField_rec z8 (by simp) fun k8 z9 sb8 => ?_)
  have z9 : IsZip k8 (n + 4) (n + 2) (n + 3) (rawInt k7.objs.size) := z9
  refine wpAny_setField_rec z9 (by simp) fun k9 z10 sb9 => wpAny_pure ⟨_, rfl, ?_⟩
  have z10 : IsZip k9 (n + 4) (n + 2) (n + 3) (rawInt k7.objs.size) := z10
  have up : ∀ d o, d ≠ n + 4 → k7.get? d = some o → k9.get? d = some o := fun d o d1 q => (sb9.2 d d1).trans ((sb8.2 d d1).trans (Heap.get?_push_of_some _ q))
  have T9 : Duo k9 k7.objs.size x y := (sb9.2 _ (Nat.ne_of_gt zl)).trans ((sb8.2 _ (Nat.ne_of_gt zl)).trans (Heap.get?_push_size _ rfl))
  have s9 : k9.objs.size = k7.objs.size + 1 := by rw [sb9.1, sb8.1, Heap.size_push]
  show Q (.ref k7.objs.size) _
  rw [sz] at z10 T9 s9 ⊢
  exact hQ k9 z10 (up _ _ (by change @Ne Nat _ _; omega) O7) (keepI j1 fun o q => up _ o (by change @Ne Nat _ _; omega) q) (keepI j2 fun o q => up _ o (by change @Ne Nat _ _; omega) q) T9 s9 fun d o d1 d2 d3 d4 q => up d o d1 (up7 d o d1 d2 d3 d4 q)
theorem next_end {Q : Fin → Shared → Prop} (hh : A.handled = none) (g1 : l1 < n) (hz : IsZip s.heap (n + 4) (n + 2) (n + 3) .none) (hI : Duo s.heap (n + 2) (.ref n) (.ref (n + 1))) (h1 : It p s.heap n l1 i) (q1 : Sq p s.heap l1 xs) (e1 : xs[i]? = none)
    (hE : ∀ k e, (∀ d o, d ≠ n + 4 → d ≠ n → s.heap.get? d = some o → k.get? d = some o) → (∃ o, k.get? e = some o ∧ o.cls = .type "StopIteration") → E (.ref e) { s with heap := k }) :
    wpAny (model prog w) A (Builtin.«zip.__next__» ⟨[.ref (n + 4)], []⟩) Q E s := by
  show wpAny _ _ (field (.ref (n + 4)) 2 >>= _) _ _ s
  refine wpAny_bind (wpAny_field hz rfl (x := .bool false) rfl ?_)
  show wpAny _ _ (field (.ref (n + 4)) 3 >>= _) _ _ s
  refine wpAny_bind (wpAny_field hz rfl (x := .ref (n + 2)) rfl (wpAny_bind (wpAny_seqItems hI rfl ?_)))
  show wpAny _ _ (Builtin.SmallTypes.ownedTupleIsFree (.ref (n + 4)) >>= _) _ _ s
  refine wpAny_bind ?_
  unfold Builtin.SmallTypes.ownedTupleIsFree
  refine wpAny_bind (wpAny_field hz rfl (x := .none) rfl (wpAny_pure ?_))
  simp only [if_true]
  refine wpAny_bind (wpAny_rule (wpAny_bind (wpAny_field hz rfl (x := .ref (n + 3)) rfl (wpAny_bind (wpAny_setField_rec hz (by simp) fun k1 z1 sb1 => ?_)))))
  have z1 : IsZip k1 (n + 4) (n + 2) (n + 3) .ellipsis := z1
  refine wpAny_bind ?_
  simp only [List.zipIdx_cons, List.zipIdx_nil, List.forIn_cons, List.forIn_nil]
  refine wpAny_bind (wpAny_bind (wpAny_onRaise ?_))
  show wpAny _ _ (Builtin.SmallTypes.nextOf (.ref n) >>= _) _ _ _
  refine wpAny_bind (nextOf_end hh (keepI h1 fun o q => (sb1.2 n (by change @Ne Nat _ _; omega)).trans q) (keepL q1 fun o q => (sb1.2 l1 (by change @Ne Nat _ _; omega)).trans q) e1 fun k2 e sb2 ⟨oe, hoe, hc⟩ => ?_)
  have z2 : IsZip k2 (n + 4) (n + 2) (n + 3) .ellipsis := sb2 _ _ (by change @Ne Nat _ _; omega) z1
  have ne : e ≠ n + 4 := fun x => by subst x; rw [z2] at hoe; cases hoe; simp at hc
  exact wpAny_setField_rec z2 (by simp) fun k3 _ sb3 => hE k3 e (fun d o d1 d2 q => (sb3.2 d d1).trans (sb2 _ _ d2 ((sb1.2 d d1).trans q))) ⟨oe, (sb3.2 e ne).trans hoe, hc⟩
theorem pyNext_item {Q : Option Value → Shared → Prop} (g1 : l1 < n) (g2 : l2 < n) (hz : IsZip s.heap (n + 4) (n + 2) (n + 3) .none) (hI : Duo s.heap (n + 2) (.ref n) (.ref (n + 1))) (hO : Duo s.heap (n + 3) a b)
    (h1 : It p s.heap n l1 i) (h2 : It q s.heap (n + 1) l2 i) (q1 : Sq p s.heap l1 xs) (q2 : Sq q s.heap l2 ys) (e1 : xs[i]? = some x) (e2 : ys[i]? = some y)
    (hQ : ∀ k, IsZip k (n + 4) (n + 2) (n + 3) (rawInt s.heap.objs.size) → Duo k (n + 3) x y → It p k n l1 (i + 1) → It q k (n + 1) l2 (i + 1) → Duo k s.heap.objs.size x y → k.objs.size = s.heap.objs.size + 1 →
      (∀ d o, d ≠ n + 4 → d ≠ n + 3 → d ≠ n → d ≠ n + 1 → s.heap.get? d = some o → k.get? d = some o) → Q (some (.ref s.heap.objs.size)) { s with heap := k }) : wpAny (model prog w) A (pyNext (.ref (n + 4))) Q E s := by
  have ty : s.TypeIs (.ref (n + 4)) "zip" := ⟨_, hz, rfl⟩
  unfold pyNext
  refine wpAny_bind (wpAny_attempt (wpAny_callSpecial?_slot (name := Str.ofString "__next__") ty F.slot_zip_next (wpAny_call_entry F.slot_zip_next ty F.entry_zip_next ?_ (F.args_zip_next_1 _))))
  exact next_item g1 g2 hz hI hO h1 h2 q1 q2 e1 e2 fun k a1 a2 a3 a4 a5 a6 a7 => wpAny_pure (hQ k a1 a2 a3 a4 a5 a6 a7)
theorem pyNext_end {Q : Option Value → Shared → Prop} (hh : A.handled = none) (g1 : l1 < n) (hz : IsZip s.heap (n + 4) (n + 2) (n + 3) .none) (hI : Duo s.heap (n + 2) (.ref n) (.ref (n + 1))) (h1 : It p s.heap n l1 i) (q1 : Sq p s.heap l1 xs) (e1 : xs[i]? = none)
    (hQ : ∀ k, (∀ d o, d ≠ n + 4 → d ≠ n → s.heap.get? d = some o → k.get? d = some o) → Q none { s with heap := k }) : wpAny (model prog w) A (pyNext (.ref (n + 4))) Q E s := by
  have ty : s.TypeIs (.ref (n + 4)) "zip" := ⟨_, hz, rfl⟩
  unfold pyNext
  refine wpAny_bind (wpAny_attempt (wpAny_callSpecial?_slot (name := Str.ofString "__next__") ty F.slot_zip_next (wpAny_call_entry F.slot_zip_next ty F.entry_zip_next (next_end hh g1 hz hI h1 q1 e1 fun k e hk ⟨o, ho, hc⟩ => ?_) (F.args_zip_next_1 _))))
  exact wpAny_bind (wpAny_isInstance (T := "StopIteration") (b := true) ⟨o, ho, hc⟩ isSubtype_stop (wpAny_pure (hQ _ hk)))
end
/-! ### making one -/
abbrev lit (p : Bool) (l : Addr) : Obj := { cls := .type (if p = true then "tuple_iterator" else "list_iterator"), data := .fields #[.ref l, .int 0 0] }
abbrev K1 (h : Heap) (p : Bool) (l1 : Addr) : Heap := h.push (lit p l1)
abbrev K2 (h : Heap) (p q : Bool) (l1 l2 : Addr) : Heap := (K1 h p l1).push (lit q l2)
abbrev K3 (h : Heap) (p q : Bool) (l1 l2 : Addr) : Heap := (K2 h p q l1 l2).push { cls := .type "tuple", data := .seq #[.ref h.objs.size, .ref (K1 h p l1).objs.size] }
abbrev K4 (h : Heap) (p q : Bool) (l1 l2 : Addr) : Heap := (K3 h p q l1 l2).push { cls := .type "tuple", data := .seq #[.none, .none] }
abbrev K5 (h : Heap) (p q : Bool) (l1 l2 : Addr) : Heap := (K4 h p q l1 l2).push { cls := .type "zip", data := .fields #[.none, .bool false, .bool false, .ref (K2 h p q l1 l2).objs.size, .ref (K3 h p q l1 l2).objs.size] }
set_option maxHeartbeats 1000000 in
theorem meets_new (l1 l2 : Addr) (xs ys : Array Value) (p q : Bool) (hpq : p ≠ q) : Meets (Builtin.«zip.__new__» ⟨[.type "zip", .ref l1, .ref l2], []⟩) (fun _ R s => Sq p s.heap l1 xs ∧ Sq q s.heap l2 ys ∧
      R (.ok (.ret (.ref (K4 s.heap p q l1 l2).objs.size))) { s with heap := K5 s.heap p q l1 l2 }) :=
  .of_wp fun prog w A R s h => by
    obtain ⟨hp, g, d, tk, os⟩ := s
    obtain ⟨a1, a2, h⟩ := h
    have hsub := sub_zip
    have b2' : Sq q (Shared.heap ⟨hp.push (lit p l1), g, d, tk, os⟩) l2 ys := keepL a2 fun o e => Heap.get?_push_of_some _ e
    cases p with
    | false =>
      have b1 : Heap.IsList (Shared.heap ⟨hp, g, d, tk, os⟩) l1 xs := a1
      cases q with
      | false => exact absurd rfl hpq
      | true =>
        have b2 : Heap.IsTuple (Shared.heap ⟨hp.push { cls := .type "list_iterator", data := .fields #[.ref l1, .int 0 0] }, g, d, tk, os⟩) l2 ys := b2'
        wp_walk using wpAny_pyIter_list b1, wpAny_pyIter_tuple b2
        exact ⟨_, rfl, h⟩
    | true =>
      have b1 : Heap.IsTuple (Shared.heap ⟨hp, g, d, tk, os⟩) l1 xs := a1
      cases q with
      | false =>
        have b2 : Heap.IsList (Shared.heap ⟨hp.push { cls := .type "tuple_iterator", data := .fields #[.ref l1, .int 0 0] }, g, d, tk, os⟩) l2 ys := b2'
        wp_walk using wpAny_pyIter_tuple b1, wpAny_pyIter_list b2
        exact ⟨_, rfl, h⟩
      | true => exact absurd rfl hpq
theorem call_new {prog : Program} {w : World} {A : Around} {E : Value → Shared → Prop} {s : Shared} {l1 l2 : Addr} {xs ys : Array Value} {p q : Bool} (hpq : p ≠ q) {Q : Value → Shared → Prop} (a1 : Sq p s.heap l1 xs) (a2 : Sq q s.heap l2 ys)
    (h : ∀ k, IsZip k (s.heap.objs.size + 4) (s.heap.objs.size + 2) (s.heap.objs.size + 3) .none → Duo k (s.heap.objs.size + 2) (.ref s.heap.objs.size) (.ref (s.heap.objs.size + 1)) → Duo k (s.heap.objs.size + 3) .none .none →
      It p k s.heap.objs.size l1 0 → It q k (s.heap.objs.size + 1) l2 0 → (∀ d o, s.heap.get? d = some o → k.get? d = some o) → Q (.ref (s.heap.objs.size + 4)) { s with heap := k }) :
    wpAny (model prog w) A (call (.type "zip") [.ref l1, .ref l2]) Q E s := by
  refine callType_new F.called_zip (by decide) (F.typeCall_zip_2 _ _) (F.newCall_zip_2 _ _) (fun obj => F.args_object_init_3 obj _ _) F.entry_zip_new (meets_new l1 l2 xs ys p q hpq) ⟨a1, a2, ?_⟩
  have z1 : (K1 s.heap p l1).objs.size = s.heap.objs.size + 1 := Heap.size_push ..
  have z2 : (K2 s.heap p q l1 l2).objs.size = s.heap.objs.size + 2 := by rw [Heap.size_push, z1]
  have z3 : (K3 s.heap p q l1 l2).objs.size = s.heap.objs.size + 3 := by rw [Heap.size_push, z2]
  have z4 : (K4 s.heap p q l1 l2).objs.size = s.heap.objs.size + 4 := by rw [Heap.size_push, z3]
  have at5 : (K5 s.heap p q l1 l2).get? (K4 s.heap p q l1 l2).objs.size = some _ := Heap.get?_push_size _ rfl
  have at4 : (K5 s.heap p q l1 l2).get? (K3 s.heap p q l1 l2).objs.size = some _ := Heap.get?_push_of_some _ (Heap.get?_push_size _ rfl)
  have at3 : (K5 s.heap p q l1 l2).get? (K2 s.heap p q l1 l2).objs.size = some _ := Heap.get?_push_of_some _ (Heap.get?_push_of_some _ (Heap.get?_push_size _ rfl))
  have up2 : ∀ d o, (K2 s.heap p q l1 l2).get? d = some o → (K5 s.heap p q l1 l2).get? d = some o := fun d o q => Heap.get?_push_of_some _ (Heap.get?_push_of_some _ (Heap.get?_push_of_some _ q))
  have at2 : (K5 s.heap p q l1 l2).get? (K1 s.heap p l1).objs.size = some _ := up2 _ _ (Heap.get?_push_size _ rfl)
  have at1 : (K5 s.heap p q l1 l2).get? s.heap.objs.size = some _ := up2 _ _ (Heap.get?_push_of_some _ (Heap.get?_push_size _ rfl))
  show _ ∧ _
  rw [z2, z3, z4] at at5
  rw [z3] at at4
  rw [z1, z2] at at3
  rw [z1] at at2
  rw [z4]
  have mk : ∀ (p : Bool) (it l : Addr) (k : Heap), k.get? it = some (lit p l) → It p k it l 0 := fun p it l k e => by
    cases p with
    | false => exact (show k.IsListIter it l 0 from ⟨_, e, rfl, rfl⟩)
    | true => exact (show k.IsTupleIter it l 0 from ⟨_, e, rfl, rfl⟩)
  exact ⟨⟨_, at5, rfl⟩, h _ at5 at3 at4 (mk p _ _ _ at1) (mk q _ _ _ at2) fun d o q => up2 d o (Heap.get?_push_of_some _ (Heap.get?_push_of_some _ q))⟩
end Z2
namespace DL
open PySem PySem.Spec PyProof.Rows L2
def SqB (b : Bool) (K : PySem.W.Frag) (G : Hp) (a : Addr) (xs : List V) : Prop := if b = true then SqT K G a xs else SqL K G a xs
theorem sq_of {X : Cx} {pins : List (Addr × Obj)} {σ : L2.St} {G : Hp} {s : Shared} {b : Bool} {a : Addr} {xs : List V} (I : Inv X pins σ G s) (h : SqB b X.K G a xs) : ∃ its, Vals xs its ∧ Z2.Sq b s.heap a its.toArray ∧ ∀ ys, SqB b X.K G a ys → ys = xs := by
  cases b with
  | false =>
    have h : SqL X.K G a xs := h
    obtain ⟨its, r, p, _⟩ := I.list h
    exact ⟨its, r, p.isList, fun ys k => I.list_inj (show SqL X.K G a ys from k) h⟩
  | true =>
    have h : SqT X.K G a xs := h
    obtain ⟨its, r, p, _⟩ := I.tuple h
    exact ⟨its, r, (show s.heap.IsTuple a its.toArray from p), fun ys k => I.tuple_inj (show SqT X.K G a ys from k) h⟩
/-- what stands at a and b (of one length), the items in new pairs -/
def Itz2 (K : PySem.W.Frag) (p q : Bool) (a b : Addr) : It where
  go := fun i G => ∃ (xs ys : List V) (x y : V), SqB p K G a xs ∧ SqB q K G b ys ∧ xs[i]? = some x ∧ ys[i]? = some y
  yld := fun i G v G2 => ∃ T x y, v = .ref T ∧ G T = none ∧ G2 = upd G T (.tup [x, y]) ∧ (∀ xs, SqB p K G a xs → xs[i]? = some x) ∧ ∀ xs, SqB q K G b xs → xs[i]? = some y
  stop := fun i G => ∃ xs : List V, SqB p K G a xs ∧ xs.length ≤ i
theorem mem4 {n d : Nat} (h : d ∈ [n + 4, n + 2, n + 3, n, n + 1]) : d = n + 4 ∨ d = n + 2 ∨ d = n + 3 ∨ d = n ∨ d = n + 1 := by simpa using h
theorem turn_zip2 {P : Program} {w : World} {K : PySem.W.Frag} {elts : List Expr} {kk : Nat} {tpos : Pos} {p q : Bool} {n a b : Nat} (ga : a < n) (gb : b < n) :
    Turn P w K (.Tuple elts kk tpos) (Itz2 K p q a b) [n + 4, n + 2, n + 3, n, n + 1] (n + 4) (fun i h => IsZip h (n + 4) (n + 2) (n + 3) .none ∧ Z2.Duo h (n + 2) (.ref n) (.ref (n + 1)) ∧ (∃ x y, Z2.Duo h (n + 3) x y) ∧ Z2.It p h n a i ∧ Z2.It q h (n + 1) b i) where
  mem := by simp
  obj := fun i h ⟨hz, hI, ⟨x, y, hO⟩, h1, h2⟩ d hd => by
    rcases mem4 hd with z | z | z | z | z <;> rw [z]
    · exact ⟨_, hz, fun v z => nomatch z⟩
    · exact ⟨_, hI, fun v z => nomatch z⟩
    · exact ⟨_, hO, fun v z => nomatch z⟩
    · exact h1.there
    · exact h2.there
  keep := fun i h h2 ⟨hz, hI, ⟨x, y, hO⟩, h1, h3⟩ k => ⟨k _ (by simp) _ hz, k _ (by simp) _ hI, ⟨x, y, k _ (by simp) _ hO⟩, Z2.keepI h1 fun o q => k _ (by simp) o q, Z2.keepI h3 fun o q => k _ (by simp) o q⟩
  item := by
    intro X hP hw hK hc i pins s σ G E I hf ⟨hz, hI, ⟨x0, y0, hO⟩, h1, h2⟩ ⟨xs, ys, x, y, qa, qb, hx, hy⟩
    subst hP hw hK
    obtain ⟨its1, r1, p1, j1⟩ := sq_of I qa
    obtain ⟨its2, r2, p2, j2⟩ := sq_of I qb
    obtain ⟨u1, e1, ru1⟩ := r1.get hx
    obtain ⟨u2, e2, ru2⟩ := r2.get hy
    have zl : n + 4 < s.heap.objs.size := Heap.lt_size hz
    refine Z2.pyNext_item ga gb hz hI hO h1 h2 p1 p2 (x := u1) (y := u2) (by simpa using e1) (by simpa using e2) fun k z2 O2 i1 i2 T2 sz hk => ⟨_, rfl, wpAny_letOwnedTupleGo_zip (s := { s with heap := k }) z2 fun k2 z3 sb => ?_⟩
    have T3 : k2.get? s.heap.objs.size = some { cls := .type "tuple", data := .seq #[u1, u2] } := (sb.2 _ (Nat.ne_of_gt zl)).trans T2
    have new : ObjOk X.prog X.w (upd G s.heap.objs.size (.tup [x, y])) k2 s.heap.objs.size (.tup [x, y]) := ⟨by show 2 ≤ sizeLine; decide, [u1, u2], .cons ru1 (.cons ru2 .nil), ⟨_, T3, rfl, _, rfl⟩⟩
    have J : Inv X pins σ (upd G s.heap.objs.size (.tup [x, y])) { s with heap := k2 } :=
      I.turnedNew (t' := s.toks) (ch := [n + 4, n + 2, n + 3, n, n + 1]) (fun d o hd q => (sb.2 d (fun z => hd (by simp [z]))).trans (hk d o (fun z => hd (by simp [z])) (fun z => hd (by simp [z])) (fun z => hd (by simp [z])) (fun z => hd (by simp [z])) q)) hf (Nat.le_refl _) new
    have ne : ∀ {m : Nat}, m ≠ n + 4 → ∀ {o : Obj}, k.get? m = some o → k2.get? m = some o := fun {m} h {o} q => (sb.2 _ h).trans q
    refine ⟨.ref s.heap.objs.size, _, J, rfl, ⟨_, x, y, rfl, I.hok.fresh (Nat.le_refl _), rfl, fun l hl => by rw [j1 l hl]; exact hx, fun l hl => by rw [j2 l hl]; exact hy⟩,
      ⟨z3, ne (by omega) (hk _ _ (by change @Ne Nat _ _; omega) (by change @Ne Nat _ _; omega) (by change @Ne Nat _ _; omega) (by change @Ne Nat _ _; omega) hI), ⟨u1, u2, ne (by omega) O2⟩, Z2.keepI i1 fun o q => ne (by omega) q, Z2.keepI i2 fun o q => ne (by omega) q⟩, fun d hd => ?_⟩
    have ld : d < s.heap.objs.size := by
      show @LT.lt Nat _ _ _
      rcases mem4 hd with q | q | q | q | q <;> (rw [q]; omega)
    rw [upd_ne (Nat.ne_of_lt ld)]
    exact (hf d hd).1
  done := by
    intro X hP hw hK hc i pins s σ G E I hf ⟨hz, hI, ⟨x0, y0, hO⟩, h1, h2⟩ ⟨xs, qa, hx⟩
    subst hP hw hK
    obtain ⟨its, rv, p, _⟩ := sq_of I qa
    have hl := rv.length
    exact Z2.pyNext_end (I.ok.hd hc) ga hz hI h1 p (by simp; omega) fun k hk => ⟨rfl, I.turnedL (t' := s.toks) (ch := [n + 4, n + 2, n + 3, n, n + 1]) (fun d o hd q => hk d o (fun z => hd (by simp [z])) (fun z => hd (by simp [z])) q) hf⟩
  self := fun A i s Q E st h => wpAny_pyIter_zip st.1 h
def iZip2 (K : PySem.W.Frag) (ta : TA) : TI := fun σ G R => ta σ G fun vs G1 => ∃ p q a b xs ys, p ≠ q ∧ vs = [.ref a, .ref b] ∧ SqB p K G1 a xs ∧ SqB q K G1 b ys ∧ R (Itz2 K p q a b) G1
section
variable {X : Cx} {c : Fc} {W : WX}
theorem sqB_lt {pins : List (Addr × Obj)} {σ : L2.St} {G : Hp} {s : Shared} {b : Bool} {a : Addr} {xs : Array Value} (h : Z2.Sq b s.heap a xs) : a < s.heap.objs.size := by
  cases b with
  | false => obtain ⟨o, e, _⟩ := (show s.heap.IsList a xs from h); exact Heap.lt_size e
  | true => obtain ⟨o, e, _⟩ := (show s.heap.IsTuple a xs from h); exact Heap.lt_size e
theorem pi_zip2 {e e2 : Expr} {ta : TA} {p pos tpos : Pos} {elts : List Expr} {kk : Nat} (hg : Gl X "zip") (hm : X.mg "zip" = none) (ha : PA X [e, e2] ta)
    (hs : starEach [e, e2] X.env = (false, eval e X.env) :: starEach [e2] X.env := by rfl) (hpl : (backTo pos (starEach [e2] X.env)).any (·.1) = false := by rfl) :
    PI X (.Tuple elts kk tpos) (.Call (.Name "zip" p) [e, e2] [] pos) (iZip2 X.K ta) := by
  refine ⟨fun pins s σ G R I h => Call_ (ld_blt I hg hm PyProof.Rows.boot_zip (PyProof.Rows.callWith_type1 (thn (ha.run pos pins s σ G _ I h) fun us s1 ⟨vs, G1, I1, r1, kp, kq, a, b, xs, ys, npq, ex, qa, qb, q⟩ => ?_) hs hpl))⟩
  subst ex
  cases r1 with
  | cons ra rr =>
    obtain ⟨u, rfl, rc⟩ := vals1 rr
    cases ra
    obtain rfl : u = Value.ref b := rc
    obtain ⟨i1, _, p1, _⟩ := sq_of I1 qa
    obtain ⟨i2, _, p2, _⟩ := sq_of I1 qb
    refine Z2.call_new npq p1 p2 fun k hz hI hO h1 h2 hk => wpAny_pyIter_zip hz ?_
    refine ⟨s1.heap.objs.size + 4, _, _, _, G1, rfl, I1.kept (t' := s1.toks) hk, turn_zip2 (n := s1.heap.objs.size) (sqB_lt (pins := pins) (σ := σ) (G := G1) p1) (sqB_lt (pins := pins) (σ := σ) (G := G1) p2), ⟨hz, hI, ⟨_, _, hO⟩, h1, h2⟩, fun d hd => ?_, q⟩
    have le : s1.heap.objs.size ≤ d := by
      show @LE.le Nat _ _ _
      rcases mem4 hd with q | q | q | q | q <;> (rw [q]; omega)
    exact I1.fpOk le (I1.hok.fresh le)
/-- data that is a list or a tuple -/
def SeqB (b : Bool) (x : D) (xs : List D) : Prop := if b = true then x = .tup xs else (x = .lst xs ∨ x = .ro xs)
theorem row_b {K : PySem.W.Frag} {F H : Hp} {b : Bool} {p : Addr} {x : D} {xs : List D} (e : SeqB b x xs) (s : Same F H) (r : Rep K F (.ref p) x) : ∃ vs, SqB b K H p vs ∧ RepL K F vs xs := by
  cases b with
  | false => obtain ⟨vs, h, k⟩ := row_l (show x = .lst xs ∨ x = .ro xs from e) s r; exact ⟨vs, h, k⟩
  | true =>
    have e : x = .tup xs := e
    subst e
    obtain ⟨vs, h, k⟩ := row_t s r; exact ⟨vs, h, k⟩
theorem serve_zip2 {K : PySem.W.Frag} {p q : Bool} {a b : Addr} {x y : D} {xs ys : List D} (ex : SeqB p x xs) (ey : SeqB q y ys) (l1 : ys.length = xs.length) : Serve K (Itz2 K p q a b) (.int 0) (.gho [.ref a, .ref b] [x, y]) (zipL xs ys) := by
  refine ⟨fun i F H s r hi => ?_, fun i F H s r hi => ?_, fun i F H z H' s r t d hd => ?_⟩
  · obtain ⟨vs, h1, k1⟩ := row_b ex s (gho2 r).1
    obtain ⟨us, h2, k2⟩ := row_b ey s (gho2 r).2
    rw [zip_len] at hi
    obtain ⟨v, e1, _⟩ := k1.get (List.getElem?_eq_getElem (show i < xs.length by omega))
    obtain ⟨u, e2, _⟩ := k2.get (List.getElem?_eq_getElem (show i < ys.length by omega))
    exact ⟨vs, us, v, u, h1, h2, e1, e2⟩
  · obtain ⟨vs, h1, k1⟩ := row_b ex s (gho2 r).1
    rw [zip_len] at hi
    exact ⟨vs, h1, by rw [k1.len]; omega⟩
  · obtain ⟨vs, h1, k1⟩ := row_b ex s (gho2 r).1
    obtain ⟨us, h2, k2⟩ := row_b ey s (gho2 r).2
    obtain ⟨T, v, u, rfl, nT, rfl, y1, y2⟩ := t
    obtain ⟨d1, d2, g1, g2, rfl⟩ := zip_at hd
    obtain ⟨v', e1, r1⟩ := k1.get g1
    obtain ⟨u', e2, r2⟩ := k2.get g2
    rw [y1 vs h1] at e1
    rw [y2 us h2] at e2
    cases e1; cases e2
    have sF : Same F (upd F T (.tup [v, u])) := same_upd (Same.refl F) (s.free nT)
    exact ⟨_, Ext.new s nT, .tup upd_same (.cons (r1.mono sF) (.cons (r2.mono sF) .nil))⟩
def zipMI (ta : TDA) : TDI := fun δ Q E => ta δ (fun as δ1 => ∃ p q x y xs ys, p ≠ q ∧ as = [.d x, .d y] ∧ SeqB p x xs ∧ SeqB q y ys ∧ ys.length = xs.length ∧ Q (zipL xs ys) δ1) E
theorem pid_zipM {e e2 : Expr} {ta : TDA} {p pos tpos : Pos} {elts : List Expr} {kk : Nat} (hg : Gl X "zip") (hm : X.mg "zip" = none) (ha : PA X [e, e2] (LA X.K c W ta))
    (hs : starEach [e, e2] X.env = (false, eval e X.env) :: starEach [e2] X.env := by rfl) (hpl : (backTo pos (starEach [e2] X.env)).any (·.1) = false := by rfl) : PI X (.Tuple elts kk tpos) (.Call (.Name "zip" p) [e, e2] [] pos) (LI X.K c W (zipMI ta)) :=
  PI_imp (pi_zip2 hg hm ha hs hpl) fun σ H R ⟨δ, tmp, Qd, Ed, S, q, k, w⟩ => ⟨δ, tmp, _, _, S, q, fun vs as δ' F ow H' ⟨kp, kq, x, y, xs, ys, npq, ea, ex, ey, hl, q'⟩ S' ra => by
    subst ea
    have rl := args_d (ds := [x, y]) ra
    cases rl with
    | @cons v1 _ vs1 _ r1 t =>
      cases t with
      | @cons v2 _ vs2 _ r2 t =>
        cases t
        have one : ∀ {b : Bool} {v : V} {x : D} {xs : List D}, SeqB b x xs → Rep X.K F v x → ∃ a us, v = .ref a ∧ SqB b X.K H' a us := fun {b v x xs} e r => by
          cases b with
          | false =>
            rcases (show x = .lst xs ∨ x = .ro xs from e) with rfl | rfl
            · cases r with | lst s1 _ => exact ⟨_, _, rfl, S'.fh.seq (SqL.of s1)⟩
            · cases r with | ro s1 _ => exact ⟨_, _, rfl, S'.fh.seq s1⟩
          | true =>
            have e : x = .tup xs := e
            subst e
            cases r with | tup s1 _ => exact ⟨_, _, rfl, SqT.of (S'.fh _ _ s1)⟩
        obtain ⟨a, us, rfl, h1⟩ := one ex r1
        obtain ⟨b, vs, rfl, h2⟩ := one ey r2
        exact ⟨kp, kq, a, b, us, vs, npq, rfl, h1, h2, k _ _ _ _ _ _ q' (serve_zip2 ex ey hl) ⟨F, ow, S'.push (.gho (.cons r1 (.cons r2 .nil)))⟩⟩, w⟩
end
end DL
namespace DR
open PySem PySem.Spec PyProof.Rows L2 DL
theorem zipm {δ : DSt} {E : XD} {Q : List DL.D → DSt → Prop} {ta : TDA} (h : ta δ (fun as δ1 => ∃ p q x y xs ys, p ≠ q ∧ as = [.d x, .d y] ∧ SeqB p x xs ∧ SeqB q y ys ∧ ys.length = xs.length ∧ Q (zipL xs ys) δ1) E) : zipMI ta δ Q E := h
end DR

set_option Elab.async false
set_option linter.all false
set_option maxRecDepth 100000
set_option maxHeartbeats 2000000
/-! several except clauses, each with or without a name -/
namespace DL
open PySem PySem.Spec PyProof.Rows L2
section
variable {X : Cx} {bd : List Stmt} {g : ExceptHandler} {gs : List ExceptHandler} {qs : List ClauseM} {pos : Pos} {tb : WX → TS} {out : WX}
end
/-! in data -/
end DL
namespace DR
open PySem PySem.Spec PyProof.Rows L2 DL
end DR

set_option Elab.async false
set_option linter.all false
set_option maxRecDepth 100000
/-! x != [] and x == [] of any list -/
namespace DL
open PySem PySem.Spec PyProof.Rows L2
def lensNe (K : PySem.W.Frag) (r : Bool) : R2 := fun x y H Q => ∃ a b xs ys, x = .ref a ∧ y = .ref b ∧ SqL K H a xs ∧ SqL K H b ys ∧ xs.length ≠ ys.length ∧ Q (.bl r) H
def rNeX (K : PySem.W.Frag) : R2 := fun x y H Q => rNeD K x y H Q ∨ lensNe K true x y H Q
theorem op_neX {X : Cx} (hu : X.A.units + 64 < cLine) : OpR X (compareOp .NotEq) (rNeX X.K) := by
  intro pins s σ H x y v u Q I rx ry h
  rcases h with h | ⟨a, b, xs, ys, rfl, rfl, ha, hb, hl, q⟩
  · exact op_neD hu pins s σ H x y v u Q I rx ry h
  obtain rfl : v = Value.ref a := rx
  obtain rfl : u = Value.ref b := ry
  obtain ⟨i1, r1, p1, _⟩ := I.list ha
  obtain ⟨i2, r2, p2, _⟩ := I.list hb
  have l1 := r1.length
  have l2 := r2.length
  refine SeqAt.RcNeAt.lists_lengths p1.isList p2.isList ?_ (Nat.lt_of_le_of_lt (Nat.le_add_right _ _) hu) _ _ _ _ ⟨.bl _, H, I, rfl, q⟩
  simp
  omega
def lstLike (d : D) (xs : List D) : Prop := d = .lst xs ∨ d = .ro xs
abbrev neX : RD2s := fun a b Q => eqP true a b Q ∨ ∃ xs ys, lstLike a xs ∧ lstLike b ys ∧ xs.length ≠ ys.length ∧ Q (.bl true)
theorem sql_of {K : PySem.W.Frag} {F H : Hp} {v : V} {d : D} {xs : List D} (e : lstLike d xs) (s : Same F H) (r : Rep K F v d) : ∃ a vs, v = .ref a ∧ SqL K H a vs ∧ vs.length = xs.length := by
  rcases e with rfl | rfl
  · cases r with | lst s1 r1 => exact ⟨_, _, rfl, s.seq (SqL.of s1), r1.len⟩
  · cases r with | ro s1 r1 => exact ⟨_, _, rfl, s.seq s1, r1.len⟩
theorem op2_neX {K : PySem.W.Frag} : Op2s K (rNeX K) neX := fun x y a b F H Q Qd s rx ry h k => by
  rcases h with h | ⟨xs, ys, h1, h2, h3, q⟩
  · exact .inl (op2_neD x y a b F H Q Qd s rx ry h k)
  · obtain ⟨a1, vs, rfl, g1, l1⟩ := sql_of h1 s rx
    obtain ⟨b1, us, rfl, g2, l2⟩ := sql_of h2 s ry
    exact .inr ⟨a1, b1, vs, us, rfl, rfl, g1, g2, by rw [l1, l2]; exact h3, k _ _ q rfl⟩
end DL

set_option Elab.async false
set_option linter.all false
set_option maxRecDepth 100000
/-! DL47: a, b = x, y where one is a cell; a written tuple unpacked -/
namespace DL
open PySem PySem.Spec PyProof.Rows L2
section
variable {X : Cx} {c : Fc} {W : WX}
end
end DL
namespace DR
open PySem PySem.Spec PyProof.Rows L2 DL
theorem tupgV {is : List Nat} {xs : List DL.D} {δ : DSt} {Q : DSt → Prop} (h : namesG is xs δ Q) : tupG is (DV.d (.tup xs)).toD δ Q := ⟨xs, rfl, h⟩
end DR

set_option Elab.async false
set_option linter.all false
set_option maxRecDepth 100000
set_option maxHeartbeats 2000000
/-! DL48: tuple(zip(a, b)) of two tuples -/
namespace ZT
open PySem PySem.Spec
open PySem.Sem (wp)
theorem nolen_zip : typeLookup (.type "zip") "__len__" = pure none := by rw [typeLookup_type, builtinLookup_eq_fast]; kernel_rfl
theorem nohint_zip : typeLookup (.type "zip") "__length_hint__" = pure none := by rw [typeLookup_type, builtinLookup_eq_fast]; kernel_rfl
section
variable {prog : Program} {w : World} {A : Around} {E : Value → Shared → Prop} {s : Shared} {z TI TO i1 i2 l1 l2 S : Addr} {xs ys : Array Value}
/-- two tuples are zipped, i pairs were given out -/
def ZSt (z TI TO i1 i2 l1 l2 : Addr) (xs ys : Array Value) (S : Addr) (i : Nat) (h : Heap) : Prop :=
  IsPair h TI (.ref i1) (.ref i2) ∧ (h.IsTupleIter i1 l1 i ∧ h.IsTupleIter i2 l2 i) ∧ (h.IsTuple l1 xs ∧ h.IsTuple l2 ys) ∧
    ((IsZip h z TI TO .none ∧ ∃ a b, IsPair h TO a b) ∨ ∃ T f oT, IsZipHeld h z TI TO T f ∧ h.get? T = some oT ∧ T ≠ z ∧ T ≠ i1 ∧ T ≠ i2 ∧ T ≠ S)
theorem ZSt.keep {i : Nat} {g g' : Heap} (hm : S ∉ [z, TI, TO, i1, i2, l1, l2]) (st : ZSt z TI TO i1 i2 l1 l2 xs ys S i g) (hk : ∀ b o, b ≠ S → g.get? b = some o → g'.get? b = some o) : ZSt z TI TO i1 i2 l1 l2 xs ys S i g' := by
  simp only [List.mem_cons, List.not_mem_nil, or_false, not_or] at hm
  obtain ⟨dz, dTI, dTO, di1, di2, dl1, dl2⟩ := hm
  obtain ⟨q2, ⟨q4, q5⟩, ⟨q6, q7⟩, hz⟩ := st
  refine ⟨hk _ _ (Ne.symm dTI) q2, ⟨q4.at fun o e => hk _ o (Ne.symm di1) e, q5.at fun o e => hk _ o (Ne.symm di2) e⟩, ⟨q6.at fun o e => hk _ o (Ne.symm dl1) e, q7.at fun o e => hk _ o (Ne.symm dl2) e⟩, ?_⟩
  rcases hz with ⟨q1, a, b, q3⟩ | ⟨T, f, oT, q1, qT, r1, r2, r3, r4⟩
  · exact .inl ⟨hk _ _ (Ne.symm dz) q1, a, b, hk _ _ (Ne.symm dTO) q3⟩
  · exact .inr ⟨T, f, oT, hk _ _ (Ne.symm dz) q1, hk _ _ r4 qT, r1, r2, r3, r4⟩
theorem zst_item {i : Nat} {Q : Option Value → Shared → Prop} (D : ZipApart z TI TO i1 i2 l1 l2) (hS : S < s.heap.objs.size) (hi : i < min xs.size ys.size) (st : ZSt z TI TO i1 i2 l1 l2 xs ys S i s.heap)
    (hQ : ∀ g x y, xs[i]? = some x → ys[i]? = some y → IsPair g s.heap.objs.size x y → ZSt z TI TO i1 i2 l1 l2 xs ys S (i + 1) g → (∀ b o, b ∉ [z, TO, i1, i2] → s.heap.get? b = some o → g.get? b = some o) → Q (some (.ref s.heap.objs.size)) { s with heap := g }) :
    wpAny (model prog w) A (pyNext (.ref z)) Q E s := by
  obtain ⟨q2, ⟨q4, q5⟩, ⟨q6, q7⟩, hz⟩ := st
  have ex := Array.getElem?_eq_getElem (Nat.lt_of_lt_of_le hi (Nat.min_le_left ..))
  have ey := Array.getElem?_eq_getElem (Nat.lt_of_lt_of_le hi (Nat.min_le_right ..))
  have lt : ∀ {c o}, s.heap.get? c = some o → s.heap.objs.size ≠ c := fun e => Nat.ne_of_gt (Heap.lt_size e)
  have n1 : s.heap.objs.size ≠ i1 := let ⟨_, e, _⟩ := q4; lt e
  have n2 : s.heap.objs.size ≠ i2 := let ⟨_, e, _⟩ := q5; lt e
  rcases hz with ⟨q1, a, b, q3⟩ | ⟨T, f, oT, q1, qT, r1, r2, r3, r4⟩
  · refine RZ.pyNext_zipT_item D q1 q2 q3 q4 q5 q6 q7 ex ey fun g c1 c2 c3 c4 c5 c6 hk => ?_
    exact hQ g _ _ ex ey c5 ⟨hk _ _ D.TIz D.TITO D.TIi1 D.TIi2 q2, ⟨c3, c4⟩, ⟨q6.at fun o e => hk _ o D.l1z D.l1TO D.l1i1 D.l1i2 e, q7.at fun o e => hk _ o D.l2z D.l2TO D.l2i1 D.l2i2 e⟩, .inr ⟨s.heap.objs.size, false, _, c1, c5, lt q1, n1, n2, Nat.ne_of_gt hS⟩⟩
      fun c o hc e => hk c o (fun q => hc (by simp [q])) (fun q => hc (by simp [q])) (fun q => hc (by simp [q])) (fun q => hc (by simp [q])) e
  · refine next_h D q1 qT q2 q4 q5 q6 q7 ex ey fun g c1 c3 c4 c5 hk => ?_
    exact hQ g _ _ ex ey c5 ⟨hk _ _ D.TIz D.TIi1 D.TIi2 q2, ⟨c3, c4⟩, ⟨q6.at fun o e => hk _ o D.l1z D.l1i1 D.l1i2 e, q7.at fun o e => hk _ o D.l2z D.l2i1 D.l2i2 e⟩, .inr ⟨T, true, oT, c1, hk _ _ r1 r2 r3 qT, r1, r2, r3, r4⟩⟩
      fun c o hc e => hk c o (fun q => hc (by simp [q])) (fun q => hc (by simp [q])) (fun q => hc (by simp [q])) e
theorem zst_end {Q : Option Value → Shared → Prop} (hA : A.handled = none) (D : ZipApart z TI TO i1 i2 l1 l2) (st : ZSt z TI TO i1 i2 l1 l2 xs ys S (min xs.size ys.size) s.heap)
    (hQ : ∀ g, (∀ b o, b ∉ [z, TO, i1, i2] → s.heap.get? b = some o → g.get? b = some o) → Q none { s with heap := g }) :
    wpAny (model prog w) A (pyNext (.ref z)) Q E s := by
  obtain ⟨q2, ⟨q4, q5⟩, ⟨q6, q7⟩, hz⟩ := st
  have he : xs[min xs.size ys.size]? = none ∨ ys[min xs.size ys.size]? = none := by
    rcases Nat.le_total xs.size ys.size with h | h
    · exact .inl (Array.getElem?_eq_none (by rw [Nat.min_eq_left h]; exact Nat.le_refl _))
    · exact .inr (Array.getElem?_eq_none (by rw [Nat.min_eq_right h]; exact Nat.le_refl _))
  rcases hz with ⟨q1, a, b, q3⟩ | ⟨T, f, oT, q1, qT, r1, r2, r3, r4⟩
  · exact RZ.pyNext_zipT_end hA D q1 q2 q3 q4 q5 q6 q7 he fun g hk => hQ g fun c o hc e => hk c o (fun q => hc (by simp [q])) (fun q => hc (by simp [q])) (fun q => hc (by simp [q])) (fun q => hc (by simp [q])) e
  · exact last_h hA D q1 qT q2 q4 q5 q6 q7 he fun g hk => hQ g fun c o hc e => hk c o (fun q => hc (by simp [q])) (fun q => hc (by simp [q])) (fun q => hc (by simp [q])) e
/-- the pairs given out so far, all new -/
def Prs (h0 h : Heap) (bad : List Addr) (xs ys : Array Value) (acc : Array Value) (i : Nat) : Prop := acc.size = i ∧ ∀ j, j < i → ∃ p x y, acc[j]? = some (.ref p) ∧ xs[j]? = some x ∧ ys[j]? = some y ∧ IsPair h p x y ∧ h0.objs.size ≤ p ∧ p ∉ bad
/-- no two of the first i are the same -/
def Apt (acc : Array Value) (i : Nat) : Prop := ∀ j k, j < i → k < i → acc[j]? = acc[k]? → j = k
theorem ext_zip {R : Result → Shared → Prop} (hA : A.handled = none) (D : ZipApart z TI TO i1 i2 l1 l2) (hn : min xs.size ys.size ≤ sizeLine) (hm : S ∉ [z, TI, TO, i1, i2, l1, l2]) (hlt : ∀ b ∈ [z, TO, i1, i2], b < S) (res : Value) (h0 : Heap) (h0S : h0.objs.size ≤ S) :
    ∀ (k i : Nat) (s : Shared) (acc : Array Value) (c : Nat), min xs.size ys.size - i = k → i ≤ min xs.size ys.size → ZSt z TI TO i1 i2 l1 l2 xs ys S i s.heap → s.heap.get? S = some { cls := .type "list", dict := none, data := .seq acc c, slots := #[] } →
    Prs h0 s.heap [S, z, TO, i1, i2] xs ys acc i → Apt acc i → (∀ b o, b ∉ [S, z, TO, i1, i2] → h0.get? b = some o → s.heap.get? b = some o) →
    (∀ h' acc' c', (∀ b o, b ∉ [S, z, TO, i1, i2] → h0.get? b = some o → h'.get? b = some o) → h'.get? S = some { cls := .type "list", dict := none, data := .seq acc' c', slots := #[] } → Prs h0 h' [S, z, TO, i1, i2] xs ys acc' (min xs.size ys.size) → Apt acc' (min xs.size ys.size) → R (.ok (.ret res)) { s with heap := h' }) →
    codeAny (model prog w) A (.builtin "list.extend.loop" ⟨[.ref S, .ref z, res], []⟩) R s := by
  have hS4 : S ∉ [z, TO, i1, i2] := fun q => hm (by simp only [List.mem_cons, List.not_mem_nil, or_false] at q ⊢; rcases q with q | q | q | q <;> simp [q])
  intro k
  induction k with
  | zero =>
    intro i s acc c hk hi hst hS hp hap hkeep hR
    have hin : i = min xs.size ys.size := by omega
    subst hin
    refine codeAny_builtin F.entry_extend_loop ?_
    rw [Around.under_plainId F.plain_extend_loop _]
    show wpAny _ A.in1 (pyNext (.ref z) >>= _) _ _ s
    refine wpAny_bind (zst_end (A := A.in1) hA D hst fun g hk2 => ?_)
    refine wpAny_pure (hR g acc c (fun b o hb e => hk2 b o (fun q => hb (List.mem_cons_of_mem _ q)) (hkeep b o hb e)) (hk2 S _ hS4 hS) ⟨hp.1, fun j hj => ?_⟩ hap)
    obtain ⟨p, x, y, e1, e2, e3, e4, e5, e6⟩ := hp.2 j hj
    exact ⟨p, x, y, e1, e2, e3, hk2 _ _ (fun q => e6 (List.mem_cons_of_mem _ q)) e4, e5, e6⟩
  | succ k ih =>
    intro i s acc c hk hi hst hS hp hap hkeep hR
    have hl : i < min xs.size ys.size := by omega
    have hSl := Heap.lt_size hS
    refine codeAny_builtin F.entry_extend_loop ?_
    rw [Around.under_plainId F.plain_extend_loop _]
    show wpAny _ A.in1 (pyNext (.ref z) >>= _) _ _ s
    refine wpAny_bind (zst_item (A := A.in1) D hSl hl hst fun g x y ex ey hpair hst' hk2 => ?_)
    have hS' := hk2 S _ hS4 hS
    have pne : s.heap.objs.size ∉ [S, z, TO, i1, i2] := fun q => by
      rcases List.mem_cons.mp q with q | q
      · exact absurd hSl (by rw [q]; exact Nat.lt_irrefl _)
      · exact absurd (Nat.lt_trans (hlt _ q) hSl) (Nat.lt_irrefl _)
    have p0 : h0.objs.size ≤ s.heap.objs.size := Nat.le_of_lt (Nat.lt_of_le_of_lt h0S hSl)
    show wpAny _ A.in1 (updateSeq S (·.push (.ref s.heap.objs.size)) >>= _) _ _ _
    refine wpAny_bind ?_
    refine wpAny_updateSeq (s := { s with heap := g }) hS' rfl (wpAny_pure ⟨plainId_quiet F.plain_extend_loop _, ih (i + 1) _ (acc.push (.ref s.heap.objs.size)) _ (by omega) hl (hst'.keep hm fun b o hb e => (Heap.get?_update_other _ _ (Ne.symm hb)).trans e) (Heap.get?_update_self _ hS' rfl) ?_ ?_ (fun b o hb e => (Heap.get?_update_other _ _ (fun q : S = b => hb (q ▸ List.mem_cons_self))).trans (hk2 b o (fun q => hb (List.mem_cons_of_mem _ q)) (hkeep b o hb e))) hR⟩)
      (by rw [hp.1]; have := Nat.lt_of_lt_of_le hl hn; omega) (by show (acc.push (.ref s.heap.objs.size)).size ≤ sizeLine + 1; rw [Array.size_push, hp.1]; exact Nat.le_trans (Nat.lt_of_lt_of_le hl hn) (Nat.le_succ _))
    rotate_left
    · intro j k' hj hk' e
      have at_old : ∀ j, j < i → (acc.push (.ref s.heap.objs.size))[j]? = acc[j]? := fun j hj => by rw [Array.getElem?_push, if_neg (by rw [hp.1]; omega)]
      have at_new : (acc.push (.ref s.heap.objs.size))[i]? = some (.ref s.heap.objs.size) := by rw [Array.getElem?_push, if_pos hp.1.symm]
      have no : ∀ j, j < i → acc[j]? ≠ some (.ref s.heap.objs.size) := fun j hj q => by
        obtain ⟨p, x', y', e1, _, _, e4, _⟩ := hp.2 j hj
        rw [e1] at q
        cases q
        exact absurd (Heap.lt_size e4) (Nat.lt_irrefl _)
      by_cases h1 : j = i
      · by_cases h2 : k' = i
        · rw [h1, h2]
        · rw [h1, at_new, at_old k' (by omega)] at e
          exact absurd e.symm (no k' (by omega))
      · by_cases h2 : k' = i
        · rw [h2, at_new, at_old j (by omega)] at e
          exact absurd e (no j (by omega))
        · rw [at_old j (by omega), at_old k' (by omega)] at e
          exact hap j k' (by omega) (by omega) e
    refine ⟨by rw [Array.size_push, hp.1], fun j hj => ?_⟩
    by_cases hji : j = i
    · subst hji
      refine ⟨s.heap.objs.size, x, y, by rw [Array.getElem?_push, if_pos hp.1.symm], ex, ey, (Heap.get?_update_other _ _ (fun q : S = s.heap.objs.size => pne (q ▸ List.mem_cons_self))).trans hpair, p0, pne⟩
    · obtain ⟨p, x', y', e1, e2, e3, e4, e5, e6⟩ := hp.2 j (by omega)
      refine ⟨p, x', y', by rw [Array.getElem?_push, if_neg (by rw [hp.1]; exact hji)]; exact e1, e2, e3, (Heap.get?_update_other _ _ (fun q : S = p => e6 (q ▸ List.mem_cons_self))).trans (hk2 _ _ (fun q => e6 (List.mem_cons_of_mem _ q)) e4), e5, e6⟩
/-- a list's room, made once: what updateSeq twice leaves -/
theorem collect_zip {Q : List Value → Shared → Prop} (hA : A.handled = none) (D : ZipApart z TI TO i1 i2 l1 l2) (hn : min xs.size ys.size ≤ sizeLine)
    (q1 : IsZip s.heap z TI TO .none) (q2 : IsPair s.heap TI (.ref i1) (.ref i2)) (q3 : ∃ a b, IsPair s.heap TO a b) (q4 : s.heap.IsTupleIter i1 l1 0) (q5 : s.heap.IsTupleIter i2 l2 0) (q6 : s.heap.IsTuple l1 xs) (q7 : s.heap.IsTuple l2 ys)
    (hQ : ∀ h' acc, (∀ b o, b ∉ [z, TO, i1, i2] → s.heap.get? b = some o → h'.get? b = some o) → Prs s.heap h' [z, TO, i1, i2] xs ys acc (min xs.size ys.size) → Apt acc (min xs.size ys.size) → Q acc.toList { s with heap := h' }) :
    wpAny (model prog w) A (collect (.ref z)) Q E s := by
  have there : ∀ b ∈ [z, TI, TO, i1, i2, l1, l2], b < s.heap.objs.size := fun b hb => by
    simp only [List.mem_cons, List.not_mem_nil, or_false] at hb
    obtain ⟨a, b', q3⟩ := q3
    obtain ⟨o1, q4, _⟩ := q4
    obtain ⟨o2, q5, _⟩ := q5
    obtain ⟨o3, q6, _⟩ := q6
    obtain ⟨o4, q7, _⟩ := q7
    rcases hb with rfl | rfl | rfl | rfl | rfl | rfl | rfl
    · exact Heap.lt_size q1
    · exact Heap.lt_size q2
    · exact Heap.lt_size q3
    · exact Heap.lt_size q4
    · exact Heap.lt_size q5
    · exact Heap.lt_size q6
    · exact Heap.lt_size q7
  have hm : s.heap.objs.size ∉ [z, TI, TO, i1, i2, l1, l2] := fun q => Nat.lt_irrefl _ (there _ q)
  have hlt : ∀ b ∈ [z, TO, i1, i2], b < s.heap.objs.size := fun b hb => there b (by simp only [List.mem_cons, List.not_mem_nil, or_false] at hb ⊢; rcases hb with q | q | q | q <;> simp [q])
  have hSz : s.heap.objs.size ≠ z := fun e => hm (by rw [e]; exact List.mem_cons_self)
  unfold collect
  refine wpAny_bind (wpAny_runValue (codeAny_builtin F.entry_proto_collect ?_))
  rw [Around.under_plainId F.plain_proto_collect _]
  show wpAny _ A.in1 (newList [] >>= fun l => again (.builtin "list.__iadd__" ⟨[l, .ref z], []⟩)) _ _ s
  refine wpAny_bind (wpAny_newObj_type ?_)
  refine wpAny_pure ⟨plainId_quiet F.plain_list_iadd _, codeAny_builtin F.entry_list_iadd ?_⟩
  rw [Around.under_plainId F.plain_list_iadd _]
  have hS₁ : (s.heap.push { cls := .type "list", data := .seq ([] : List Value).toArray }).get? s.heap.objs.size = some { cls := .type "list", data := .seq ([] : List Value).toArray } := Heap.get?_push_size _ rfl
  have up : ∀ {b o}, s.heap.get? b = some o → (s.heap.push { cls := .type "list", data := .seq ([] : List Value).toArray }).get? b = some o := fun e => Heap.get?_push_of_some _ e
  have st1 : ZSt z TI TO i1 i2 l1 l2 xs ys s.heap.objs.size 0 (s.heap.push { cls := .type "list", data := .seq ([] : List Value).toArray }) := ⟨up q2, ⟨q4.at fun o e => up e, q5.at fun o e => up e⟩, ⟨q6.at fun o e => up e, q7.at fun o e => up e⟩, .inl ⟨up q1, let ⟨a, b, q⟩ := q3; ⟨a, b, up q⟩⟩⟩
  have hT : ({ s with heap := s.heap.push { cls := .type "list", data := .seq ([] : List Value).toArray } } : Shared).TypeIs (.ref z) "zip" := ⟨_, up q1, rfl⟩
  show wpAny _ A.in1 (Builtin.List.listExtendWith (.ref s.heap.objs.size) (.ref z) (.ref s.heap.objs.size)) _ _ _
  unfold Builtin.List.listExtendWith
  refine wpAny_bind (wpAny_typeOf hT ?_)
  have h1 : Builtin.List.listSameRef (.ref s.heap.objs.size) (.ref z) = false := by simp [Builtin.List.listSameRef, hSz]
  have h2 : (Value.type "zip" == Value.type "list") = false := by decide
  have h3 : (Value.type "zip" == Value.type "tuple") = false := by decide
  simp only [h1, h2, h3, Bool.or_false, Bool.false_eq_true, if_false]
  refine wpAny_bind (wpAny_pyIter_zip (s := { s with heap := s.heap.push { cls := .type "list", data := .seq ([] : List Value).toArray } }) (up q1) ?_)
  refine wpAny_bind (wpAny_holding ?_)
  unfold Builtin.List.listLengthHint
  refine wpAny_bind (wpAny_specialOf hT nolen_zip ?_)
  show wpAny _ A.in1 (specialOf (Value.ref z) (Str.ofString "__length_hint__") >>= _) _ _ _
  refine wpAny_bind (wpAny_specialOf hT nohint_zip ?_)
  refine wpAny_pure ?_
  show wpAny _ A.in1 (rule "list.extend.makes-room" >>= fun _ => Builtin.List.listTouch (.ref s.heap.objs.size) >>= fun _ =>
    again (.builtin "list.extend.loop" ⟨[.ref s.heap.objs.size, .ref z, .ref s.heap.objs.size], []⟩)) _ _ _
  refine wpAny_bind (wpAny_rule ?_)
  refine wpAny_bind ?_
  show wpAny _ A.in1 (updateSeq s.heap.objs.size (·.push .none) >>= fun _ => updateSeq s.heap.objs.size (·.pop)) _ _ _
  refine wpAny_bind (wpAny_updateSeq (s := { s with heap := s.heap.push { cls := .type "list", data := .seq ([] : List Value).toArray } }) hS₁ rfl ?_)
  have hS₂ := Heap.get?_update_self (Obj.mapSeq (·.push Value.none)) hS₁ rfl
  refine wpAny_updateSeq (s := { s with heap := (s.heap.push { cls := .type "list", data := .seq ([] : List Value).toArray }).update s.heap.objs.size (Obj.mapSeq (·.push Value.none)) }) hS₂ rfl ?_
  have hS₃ := Heap.get?_update_self (Obj.mapSeq (·.pop)) hS₂ rfl
  have oth : ∀ b o, b ≠ s.heap.objs.size → (s.heap.push { cls := .type "list", data := .seq ([] : List Value).toArray }).get? b = some o →
      (((s.heap.push { cls := .type "list", data := .seq ([] : List Value).toArray }).update s.heap.objs.size (Obj.mapSeq (·.push Value.none))).update s.heap.objs.size (Obj.mapSeq (·.pop))).get? b = some o :=
    fun b o hb e => (Heap.get?_update_other _ _ (Ne.symm hb)).trans ((Heap.get?_update_other _ _ (Ne.symm hb)).trans e)
  have bad : ∀ {b : Addr}, b ∉ [z, TO, i1, i2] → b ≠ s.heap.objs.size → b ∉ [s.heap.objs.size, z, TO, i1, i2] := fun h1 h2 q => (List.mem_cons.mp q).elim h2 h1
  refine wpAny_pure ⟨plainId_quiet F.plain_extend_loop _, ext_zip (A := A) hA D hn hm hlt _ s.heap (Nat.le_refl _) _ 0 _ _ _ rfl (Nat.zero_le _) (st1.keep hm oth) hS₃ ⟨rfl, fun j hj => absurd hj (Nat.not_lt_zero _)⟩ (fun j _ hj => absurd hj (Nat.not_lt_zero _)) (fun b o hb e => oth b o (fun q => hb (q ▸ List.mem_cons_self)) (up e)) fun h' acc' c' hk hS' hp hap => ?_⟩
  show wpAny _ A (load s.heap.objs.size >>= _) _ _ _
  refine wpAny_bind (wpAny_load (s := { s with heap := h' }) hS' ?_)
  refine wpAny_pure (hQ h' acc' (fun b o hb e => hk b o (bad hb (Nat.ne_of_lt (Heap.lt_size e))) e) ⟨hp.1, fun j hj => ?_⟩ hap)
  obtain ⟨p, x, y, e1, e2, e3, e4, e5, e6⟩ := hp.2 j hj
  exact ⟨p, x, y, e1, e2, e3, e4, e5, fun q => e6 (List.mem_cons_of_mem _ q)⟩
end
end ZT
namespace DL
open PySem PySem.Spec PyProof.Rows L2
open PySem.Sem (wp)
/-! ### several new objects at once -/
def updAll (H : Hp) : List (Addr × HO) → Hp
  | [] => H
  | (a, o) :: l => updAll (upd H a o) l
theorem updAll_ne : ∀ {l : List (Addr × HO)} {H : Hp} {b : Addr}, b ∉ l.map (·.1) → updAll H l b = H b
  | [], _, _, _ => rfl
  | (a, o) :: l, H, b, h => by
    rw [List.map_cons, List.mem_cons, not_or] at h
    show updAll (upd H a o) l b = _
    rw [updAll_ne h.2, upd_ne h.1]
theorem updAll_at : ∀ {l : List (Addr × HO)} {H : Hp} {a : Addr} {o : HO}, (l.map (·.1)).Nodup → (a, o) ∈ l → updAll H l a = some o
  | (a, o) :: l, H, b, u, nd, h => by
    rw [List.map_cons, List.nodup_cons] at nd
    show updAll (upd H a o) l b = _
    rcases List.mem_cons.mp h with h | h
    · cases h
      rw [updAll_ne nd.1, upd_same]
    · exact updAll_at nd.2 h
theorem Ext.newAll : ∀ {l : List (Addr × HO)} {F H : Hp}, Same F H → (l.map (·.1)).Nodup → (∀ p ∈ l, H p.1 = none) → Ext F H (updAll F l) (updAll H l)
  | [], _, _, s, _, _ => Ext.refl s
  | (a, o) :: l, F, H, s, nd, n => by
    rw [List.map_cons, List.nodup_cons] at nd
    have e1 : Ext F H (upd F a o) (upd H a o) := Ext.new s (n _ List.mem_cons_self)
    refine e1.trans (Ext.newAll e1.fh nd.2 fun p hp => ?_)
    have ne : p.1 ≠ a := fun q => nd.1 (List.mem_map.mpr ⟨p, hp, q⟩)
    rw [upd_ne ne]
    exact n p (List.mem_cons_of_mem _ hp)
theorem laidAll {X : Cx} {pins : List (Addr × Obj)} {σ : L2.St} {h' : Heap} {t' : Nat} : ∀ {l : List (Addr × HO)} {H : Hp} {s : Shared}, Inv X pins σ H s → (∀ b u, s.heap.get? b = some u → h'.get? b = some u) → (l.map (·.1)).Nodup → (∀ p ∈ l, s.heap.get? p.1 = none ∧ H p.1 = none) →
    (∀ p ∈ l, ∀ (G : Hp) (g : Heap), g.get? p.1 = h'.get? p.1 → ObjOk X.prog X.w G g p.1 p.2) → (∀ p ∈ l, (h'.get? p.1).isSome = true) → Inv X pins σ (updAll H l) { s with heap := h', toks := t' }
  | [], H, s, I, k, _, _, _, _ => I.kept k
  | (a, o) :: l, H, s, I, k, nd, fr, ok, is => by
    rw [List.map_cons, List.nodup_cons] at nd
    obtain ⟨G, g1, g2⟩ := restrict h' fun b => decide (b = a) || (s.heap.get? b).isSome
    have ga : G.get? a = h'.get? a := g1 a (by simp)
    have gk : ∀ b u, s.heap.get? b = some u → G.get? b = some u := fun b u e => by rw [g1 b (by rw [e]; simp)]; exact k b u e
    have gs : ∀ b u, G.get? b = some u → h'.get? b = some u := fun b u e => by
      cases q : (decide (b = a) || (s.heap.get? b).isSome) with
      | true => rw [← g1 b q]; exact e
      | false => rw [g2 b q] at e; cases e
    have I1 : Inv X pins σ (upd H a o) { s with heap := G, toks := s.toks } := I.laidN gk (fr _ List.mem_cons_self).1 (fr _ List.mem_cons_self).2 (ok _ List.mem_cons_self _ G ga)
    show Inv X pins σ (updAll (upd H a o) l) _
    refine laidAll (s := { s with heap := G, toks := s.toks }) I1 gs nd.2 (fun p hp => ?_) (fun p hp => ok p (List.mem_cons_of_mem _ hp)) fun p hp => is p (List.mem_cons_of_mem _ hp)
    have ne : p.1 ≠ a := fun q => nd.1 (List.mem_map.mpr ⟨p, hp, q⟩)
    have f := fr p (List.mem_cons_of_mem _ hp)
    exact ⟨g2 _ (by rw [f.1, decide_eq_false ne]; rfl), by rw [upd_ne ne]; exact f.2⟩
/-- the pairs of a zip -/
def prL : List Addr → List V → List V → List (Addr × HO)
  | q :: qs, x :: xs, y :: ys => (q, .tup [x, y]) :: prL qs xs ys
  | _, _, _ => []
theorem prL_keys : ∀ {qs : List Addr} {xs ys : List V}, qs.length = xs.length → xs.length = ys.length → (prL qs xs ys).map (·.1) = qs
  | [], _, _, _, _ => rfl
  | q :: qs, [], _, h, _ => nomatch h
  | q :: qs, x :: xs, [], _, h => nomatch h
  | q :: qs, x :: xs, y :: ys, h1, h2 => congrArg (q :: ·) (prL_keys (Nat.succ.inj h1) (Nat.succ.inj h2))
theorem prL_at : ∀ {qs : List Addr} {xs ys : List V} {p : Addr × HO}, p ∈ prL qs xs ys → ∃ (j : Nat) (x y : V), qs[j]? = some p.1 ∧ xs[j]? = some x ∧ ys[j]? = some y ∧ p.2 = .tup [x, y]
  | [], _, _, _, h => by cases h
  | _ :: _, [], _, _, h => by cases h
  | _ :: _, _ :: _, [], _, h => by cases h
  | q :: qs, x :: xs, y :: ys, p, h => by
    rcases List.mem_cons.mp h with h | h
    · subst h; exact ⟨0, x, y, rfl, rfl, rfl, rfl⟩
    · obtain ⟨j, x', y', e1, e2, e3, e4⟩ := prL_at h
      exact ⟨j + 1, x', y', e1, e2, e3, e4⟩
theorem reps_zip {K : PySem.W.Frag} {F : Hp} : ∀ {qs : List Addr} {xs ys : List V} {ds es : List D}, RepL K F xs ds → RepL K F ys es → qs.length = xs.length → xs.length = ys.length → (∀ p ∈ prL qs xs ys, F p.1 = some p.2) → RepL K F (qs.map V.ref) (zipL ds es)
  | [], [], [], _, _, .nil, .nil, _, _, _ => .nil
  | q :: qs, x :: xs, y :: ys, _, _, .cons r1 t1, .cons r2 t2, h1, h2, h => .cons (.tup (h _ List.mem_cons_self) (.cons r1 (.cons r2 .nil))) (reps_zip t1 t2 (Nat.succ.inj h1) (Nat.succ.inj h2) fun p hp => h p (List.mem_cons_of_mem _ hp))
section
variable {prog : Program} {w : World} {A : Around} {E : Value → Shared → Prop} {s : Shared} {z TI TO i1 i2 l1 l2 : Addr} {xs ys : Array Value}
theorem code_tuple_zip {Q₁ : Value → Shared → Prop} (hA : A.handled = none) (D : ZipApart z TI TO i1 i2 l1 l2) (hn : min xs.size ys.size ≤ sizeLine)
    (q1 : IsZip s.heap z TI TO .none) (q2 : IsPair s.heap TI (.ref i1) (.ref i2)) (q3 : ∃ a b, IsPair s.heap TO a b) (q4 : s.heap.IsTupleIter i1 l1 0) (q5 : s.heap.IsTupleIter i2 l2 0) (q6 : s.heap.IsTuple l1 xs) (q7 : s.heap.IsTuple l2 ys)
    (h : ∀ h' acc, (∀ b o, b ∉ [z, TO, i1, i2] → s.heap.get? b = some o → h'.get? b = some o) → ZT.Prs s.heap h' [z, TO, i1, i2] xs ys acc (min xs.size ys.size) → ZT.Apt acc (min xs.size ys.size) → Q₁ (.ref h'.objs.size) { s with heap := h'.push { cls := .type "tuple", data := .seq acc } }) :
    codeAny (model prog w) A (.call (.builtin "tuple.__new__") ⟨[.type "tuple", .ref z], []⟩) (wants Q₁ E) s := by
  refine codeAny_of_tree ?_
  show wpAny _ A.in1 (do checkBuiltinCall "tuple.__new__" ⟨[.type "tuple", .ref z], []⟩; again (.builtin "tuple.__new__" ⟨[.type "tuple", .ref z], []⟩)) _ _ s
  refine wpAny_bind (wpAny_of_eq (F.newCall_tuple_1 _) (wpAny_pure ⟨plainId_quiet F.plain_tuple_new _, codeAny_builtin F.entry_tuple_new ?_⟩))
  rw [Around.under_plainId F.plain_tuple_new _]
  have hsub := sub_tuple_self
  have hinit := init_tuple_lookup
  have hmh := madeHere_tuple
  have hTI : s.TypeIs (.ref z) "zip" := ⟨_, q1, rfl⟩
  wp_walk using wpAny_typeOf hTI, ZT.collect_zip (A := A.in1) hA D hn q1 q2 q3 q4 q5 q6 q7
  intro h' acc hk hacc hap
  show wpAny _ _ (Builtin.Tuple.tupleExact acc.toList.toArray >>= fun v => ret v) _ _ _
  unfold Builtin.Tuple.tupleExact
  refine wpAny_bind (wpAny_newObj_type ?_ (by show acc.toList.toArray.size ≤ sizeLine; simp only [Array.toArray_toList]; rw [hacc.1]; exact hn))
  refine wpAny_pure ?_
  have e : acc.toList.toArray = acc := by simp
  rw [e]
  exact h h' acc hk hacc hap
theorem call_tuple_zip {Q : Value → Shared → Prop} (hA : A.handled = none) (D : ZipApart z TI TO i1 i2 l1 l2) (hn : min xs.size ys.size ≤ sizeLine)
    (q1 : IsZip s.heap z TI TO .none) (q2 : IsPair s.heap TI (.ref i1) (.ref i2)) (q3 : ∃ a b, IsPair s.heap TO a b) (q4 : s.heap.IsTupleIter i1 l1 0) (q5 : s.heap.IsTupleIter i2 l2 0) (q6 : s.heap.IsTuple l1 xs) (q7 : s.heap.IsTuple l2 ys)
    (hQ : ∀ h' acc, (∀ b o, b ∉ [z, TO, i1, i2] → s.heap.get? b = some o → h'.get? b = some o) → ZT.Prs s.heap h' [z, TO, i1, i2] xs ys acc (min xs.size ys.size) → ZT.Apt acc (min xs.size ys.size) → Q (.ref h'.objs.size) { s with heap := h'.push { cls := .type "tuple", data := .seq acc } }) :
    wpAny (model prog w) A (call (.type "tuple") [.ref z]) Q E s := by
  refine callType_codes (Q₁ := fun obj s₁ => s₁.TypeIs obj "tuple" ∧ Q obj s₁) F.called_tuple (F.typeCall_tuple_1 _) F.entry_object_init
    (code_tuple_zip (A := A.in1) hA D hn q1 q2 q3 q4 q5 q6 q7 fun h' acc hk hacc hap => ⟨⟨_, Heap.get?_push_size _ rfl, rfl⟩, hQ h' acc hk hacc hap⟩) fun obj s₁ h₁ => ?_
  exact ⟨h₁.1, F.args_object_init_2 obj _, object_init_meets F.called_tuple.init.lookup F.called_tuple.made (by decide) prog w A.in1 _ s₁ ⟨h₁.1, rfl, h₁.2⟩⟩
end
/-- addresses of pairs: apart, new -/
theorem prs_addrs {h0 h' : Heap} {bad : List Addr} {us ws : List Value} {acc : Array Value} {n : Nat} (P : ZT.Prs h0 h' bad us.toArray ws.toArray acc n) (hu : us.length = n) (hw : ws.length = n) :
    ∃ qs : List Addr, acc.toList = qs.map Value.ref ∧ qs.length = n ∧ ∀ (j : Nat) (q : Addr), qs[j]? = some q → ∃ x y, us[j]? = some x ∧ ws[j]? = some y ∧ IsPair h' q x y ∧ h0.objs.size ≤ q ∧ q ∉ bad := by
  obtain ⟨hs, P⟩ := P
  have go : ∀ m, m ≤ n → ∃ qs : List Addr, acc.toList.take m = qs.map Value.ref ∧ qs.length = m ∧ ∀ (j : Nat) (q : Addr), qs[j]? = some q → ∃ x y, us[j]? = some x ∧ ws[j]? = some y ∧ IsPair h' q x y ∧ h0.objs.size ≤ q ∧ q ∉ bad := fun m => by
    induction m with
    | zero => exact fun _ => ⟨[], rfl, rfl, fun j q h => by simp at h⟩
    | succ m ih =>
      intro hm
      obtain ⟨qs, e1, e2, e3⟩ := ih (by omega)
      obtain ⟨p, x, y, f1, f2, f3, f4, f5, f6⟩ := P m (by omega)
      refine ⟨qs ++ [p], ?_, by rw [List.length_append, e2]; rfl, fun j q h => ?_⟩
      · rw [List.take_succ, e1, List.map_append, show acc.toList[m]? = some (.ref p) by rw [Array.getElem?_toList]; exact f1]
        rfl
      · rw [List.getElem?_append] at h
        split at h
        · exact e3 j q h
        · rename_i hj
          rw [e2] at hj h
          have : j - m = 0 := by
            rcases Nat.eq_zero_or_pos (j - m) with z | z
            · exact z
            · rw [List.getElem?_eq_none (by simp; omega)] at h; cases h
          have hjm : j = m := by omega
          subst hjm
          rw [this] at h
          cases h
          exact ⟨x, y, by simpa using f2, by simpa using f3, f4, f5, f6⟩
  obtain ⟨qs, e1, e2, e3⟩ := go n (Nat.le_refl _)
  exact ⟨qs, by rw [← e1, List.take_of_length_le (by rw [Array.length_toList, hs]; exact Nat.le_refl _)], e2, e3⟩
theorem apt_nodup {acc : Array Value} {qs : List Addr} (e : acc.toList = qs.map Value.ref) (a : ZT.Apt acc qs.length) : qs.Nodup := by
  refine List.pairwise_iff_getElem.mpr fun i j hi hj hij h => ?_
  refine absurd (a i j hi hj ?_) (by omega)
  rw [← Array.getElem?_toList, ← Array.getElem?_toList, e, List.getElem?_map, List.getElem?_map, List.getElem?_eq_getElem hi, List.getElem?_eq_getElem hj, h]
/-- tuple(zip(a, b)) of two tuples of one length -/
def tTZip (K : PySem.W.Frag) (ta : TA) : TE := fun σ H Q => ta σ H fun vs H1 => ∃ (a b : Addr) (xs ys : List V), vs = [.ref a, .ref b] ∧ SqT K H1 a xs ∧ SqT K H1 b ys ∧ xs.length = ys.length ∧ xs.length ≤ 1000 ∧
  ∀ (qs : List Addr) (p : Addr), qs.length = xs.length → qs.Nodup → (∀ q ∈ qs, H1 q = none) → updAll H1 (prL qs xs ys) p = none → Q (.ref p) (upd (updAll H1 (prL qs xs ys)) p (.tup (qs.map .ref)))
theorem vals_at : ∀ {xs : List V} {us : List Value} {j : Nat} {u : Value}, Vals xs us → us[j]? = some u → ∃ x, xs[j]? = some x ∧ RelV x u
  | [], [], _, _, .nil, e => by simp at e
  | x :: xs, u :: us, 0, _, .cons r _, e => by cases e; exact ⟨x, rfl, r⟩
  | x :: xs, u :: us, j + 1, _, .cons _ t, e => vals_at (xs := xs) (us := us) t e
theorem pe_tzip {X : Cx} {e e2 : Expr} {ta : TA} {p q pos pos2 : Pos} (hcalm : X.calm = true) (hgD : Gl X "tuple") (hmD : X.mg "tuple" = none) (hgZ : Gl X "zip") (hmZ : X.mg "zip" = none) (ha : PA X [e, e2] ta)
    (hs : starEach [e, e2] X.env = (false, eval e X.env) :: starEach [e2] X.env := by rfl) (hpl : (backTo pos2 (starEach [e2] X.env)).any (·.1) = false := by rfl)
    (hs0 : starEach [Expr.Call (.Name "zip" q) [e, e2] [] pos2] X.env = (false, eval (.Call (.Name "zip" q) [e, e2] [] pos2) X.env) :: starEach [] X.env := by rfl) (hp0 : (backTo pos (starEach [] X.env)).any (·.1) = false := by rfl) :
    PE X (.Call (.Name "tuple" p) [.Call (.Name "zip" q) [e, e2] [] pos2] [] pos) (tTZip X.K ta) := by
  refine ⟨fun pins s σ H Q I h => ?_⟩
  refine Call_ (ld_blt I hgD hmD PyProof.Rows.boot_tuple (PyProof.Rows.callWith_type1 ?_ hs0 hp0))
  rw [hs0]
  show wpAny _ _ (spliced ((false, eval (.Call (.Name "zip" q) [e, e2] [] pos2) X.env) :: backTo pos (starEach [] X.env))) _ _ s
  refine Calls.spliced_cons ?_
  refine Call_ (ld_blt I hgZ hmZ PyProof.Rows.boot_zip (PyProof.Rows.callWith_type1 (thn (ha.run pos2 pins s σ H _ I h) fun us s1 ⟨vs, H1, I1, r1, q1⟩ => ?_) hs hpl))
  obtain ⟨a, b, xs, ys, ex, sa, sb, hl, hz, q1⟩ := q1
  subst ex
  cases r1 with
  | cons r rr =>
    cases rr with
    | cons r' rr =>
      cases rr
      cases r
      cases r'
      obtain ⟨its, rv, p1, _⟩ := I1.tuple sa
      obtain ⟨its2, rv2, p2, _⟩ := I1.tuple sb
      obtain ⟨o1, ho1, _⟩ := id p1
      obtain ⟨o2, ho2, _⟩ := id p2
      have D := PySem.W.ktu_apart s1.heap.objs.size a b (Heap.lt_size ho1) (Heap.lt_size ho2)
      have l1 : its.length = xs.length := by rw [← rv.length]
      have l2 : its2.length = xs.length := by rw [← rv2.length, hl]
      refine RZ.call_zipT (show s1.heap.IsTuple a its.toArray from p1) (show s1.heap.IsTuple b its2.toArray from p2) fun h' hz0 hTI hTO h1 h2 hsz hk => ?_
      refine Calls.spliced_nil ?_
      have hn : min its.toArray.size its2.toArray.size = xs.length := by simp [l1, l2]
      refine call_tuple_zip (I.ok.hd hcalm) D (by rw [hn]; exact Nat.le_trans hz (by decide)) hz0 hTI ⟨_, _, hTO⟩ h1 h2 ((show s1.heap.IsTuple a its.toArray from p1).at fun o e => hk _ o e) ((show s1.heap.IsTuple b its2.toArray from p2).at fun o e => hk _ o e) fun h'' acc hk' hprs hapt => ?_
      rw [hn] at hprs hapt
      obtain ⟨qs, e1, e2, e3⟩ := prs_addrs hprs l1 l2
      have nd : qs.Nodup := apt_nodup e1 (by rw [e2]; exact hapt)
      have kp : ∀ b o, s1.heap.get? b = some o → h''.get? b = some o := fun b o eb => hk' b o (fun hb => by
          have hlt := Heap.lt_size eb
          simp only [List.mem_cons, List.not_mem_nil, or_false] at hb
          rcases hb with rfl | rfl | rfl | rfl
          · exact absurd hlt (Nat.not_lt.mpr (Nat.le_add_right _ _))
          · exact absurd hlt (Nat.not_lt.mpr (Nat.le_add_right _ _))
          · exact absurd hlt (Nat.lt_irrefl _)
          · exact absurd hlt (Nat.not_lt.mpr (Nat.le_add_right _ _))) (hk b o eb)
      have new : ∀ q ∈ qs, s1.heap.get? q = none ∧ H1 q = none := fun q hq => by
        obtain ⟨j, hj⟩ := List.mem_iff_getElem?.mp hq
        obtain ⟨x, y, _, _, _, f5, f6⟩ := e3 j q hj
        have hge : s1.heap.objs.size ≤ q := Nat.le_trans (by rw [hsz]; exact Nat.le_add_right _ _) f5
        refine ⟨?_, I1.hok.fresh hge⟩
        cases z : s1.heap.get? q with
        | none => rfl
        | some o => exact absurd (Heap.lt_size z) (Nat.not_lt.mpr hge)
      have keys := prL_keys (qs := qs) (xs := xs) (ys := ys) e2 hl
      have I2 : Inv X pins σ (updAll H1 (prL qs xs ys)) { s1 with heap := h'', toks := s1.toks } := laidAll I1 kp (by rw [keys]; exact nd) (fun p hp => new p.1 (by rw [← keys]; exact List.mem_map_of_mem (f := fun x : Addr × HO => x.1) hp)) (fun p hp G g eg => by
        obtain ⟨j, x, y, g1, g2, g3, g4⟩ := prL_at hp
        obtain ⟨u, w, f1, f2, f3, _⟩ := e3 j p.1 g1
        obtain ⟨x', k1, r1⟩ := vals_at rv f1
        obtain ⟨y', k2, r2⟩ := vals_at rv2 f2
        rw [g2] at k1
        rw [g3] at k2
        cases k1
        cases k2
        rw [g4]
        exact ⟨show 2 ≤ sizeLine by decide, [u, w], .cons r1 (.cons r2 .nil), _, eg.trans f3, rfl, _, rfl⟩) fun p hp => by
        obtain ⟨j, x, y, g1, _⟩ := prL_at hp
        obtain ⟨u, w, f1, f2, f3, _⟩ := e3 j p.1 g1
        rw [f3]
        rfl
      have fr := I2.hok.fresh (Nat.le_refl h''.objs.size)
      refine ⟨.ref h''.objs.size, upd (updAll H1 (prL qs xs ys)) h''.objs.size (.tup (qs.map .ref)), I2.laid (t' := s1.toks) (fun b u e => Heap.get?_push_of_some _ e) (Nat.le_refl _) ?_, rfl, q1 qs _ e2 nd (fun q hq => (new q hq).2) fr⟩
      refine ⟨by rw [List.length_map, e2]; exact Nat.le_trans hz (by decide), qs.map .ref, ?_, ?_⟩
      · clear e1 e2 e3 nd new keys I2 fr hprs hapt
        induction qs with
        | nil => exact .nil
        | cons q qs ih => exact .cons rfl ih
      · rw [← e1]
        exact ⟨_, Heap.get?_push_size _ rfl, rfl, _, congrArg (fun a => Data.seq a _) (Array.toArray_toList (xs := acc)).symm⟩
section
variable {X : Cx} {c : Fc} {W : WX}
def tzipD (ta : TDA) : TD := fun δ Q E => ta δ (fun as δ1 => ∃ xs ys : List D, as = [.d (.tup xs), .d (.tup ys)] ∧ xs.length = ys.length ∧ xs.length ≤ 1000 ∧ Q (.d (.tup (zipL xs ys))) δ1) E
theorem pd_tzip {e e2 : Expr} {ta : TDA} {p q pos pos2 : Pos} (hcalm : X.calm = true) (hgD : Gl X "tuple") (hmD : X.mg "tuple" = none) (hgZ : Gl X "zip") (hmZ : X.mg "zip" = none) (ha : PA X [e, e2] (LA X.K c W ta))
    (hs : starEach [e, e2] X.env = (false, eval e X.env) :: starEach [e2] X.env := by rfl) (hpl : (backTo pos2 (starEach [e2] X.env)).any (·.1) = false := by rfl)
    (hs0 : starEach [Expr.Call (.Name "zip" q) [e, e2] [] pos2] X.env = (false, eval (.Call (.Name "zip" q) [e, e2] [] pos2) X.env) :: starEach [] X.env := by rfl) (hp0 : (backTo pos (starEach [] X.env)).any (·.1) = false := by rfl) :
    PE X (.Call (.Name "tuple" p) [.Call (.Name "zip" q) [e, e2] [] pos2] [] pos) (LE X.K c W (tzipD ta)) :=
  PE_imp (pe_tzip hcalm hgD hmD hgZ hmZ ha hs hpl hs0 hp0) fun σ H Q ⟨δ, tmp, Qd, Ed, S, t, k, w⟩ => ⟨δ, tmp, _, Ed, S, t, fun vs as δ1 F ow H1 ⟨xs, ys, ea, hl, hz, q⟩ S1 ra => by
    subst ea
    cases ra with
    | d r1 ra =>
      cases ra with
      | d r2 ra =>
        cases ra
        cases r1 with
        | @tup pa va _ s1 q1 =>
          cases r2 with
          | @tup pb vb _ s2 q2 =>
            refine ⟨_, _, _, _, rfl, SqT.of (S1.fh _ _ s1), SqT.of (S1.fh _ _ s2), q1.len.trans (hl.trans q2.len.symm), Nat.le_trans (Nat.le_of_eq q1.len) hz, fun qs p h1 h2 h3 h4 => ?_⟩
            have keys := prL_keys h1 (q1.len.trans (hl.trans q2.len.symm))
            have nd : ((prL qs va vb).map (·.1)).Nodup := by rw [keys]; exact h2
            have ext := Ext.newAll S1.fh nd fun pr hp => h3 _ (by rw [← keys]; exact List.mem_map_of_mem (f := fun x : Addr × HO => x.1) hp)
            have S2 := S1.ext ext
            have ext2 := Ext.new (o := .tup (qs.map .ref)) ext.fh h4
            have S3 := S2.ext ext2
            refine k _ _ _ _ q ⟨_, _, S3.push (.tup upd_same ?_)⟩
            exact reps_zip ((q1.mono ext.f).mono ext2.f) ((q2.mono ext.f).mono ext2.f) h1 (q1.len.trans (hl.trans q2.len.symm)) fun pr hp => ext2.f _ _ (updAll_at nd hp), w⟩
end
end DL
namespace DR
open PySem PySem.Spec PyProof.Rows L2 DL
theorem tzip {δ : DSt} {Q : DK} {E : XD} {ta : TDA} (h : ta δ (fun as δ1 => ∃ xs ys : List DL.D, as = [.d (.tup xs), .d (.tup ys)] ∧ xs.length = ys.length ∧ xs.length ≤ 1000 ∧ Q (.d (.tup (zipL xs ys))) δ1) E) : tzipD ta δ Q E := h
end DR

set_option Elab.async false
set_option linter.all false
set_option maxRecDepth 100000
set_option maxHeartbeats 2000000
/-! DL49: sum and any of a tuple of whole numbers -/
namespace DL
open PySem PySem.Spec PyProof.Rows L2
open PySem.Sem (wp)
section
variable {X : Cx} {K : PySem.W.Frag}
end
end DL

set_option Elab.async false
set_option linter.all false
set_option maxRecDepth 100000
set_option maxHeartbeats 2000000
/-! DL50: own * with a whole number on the right; - of an own object -/
namespace DL
open PySem PySem.Spec PyProof.Rows L2
open PySem.Sem (wp)
section
variable {X : Cx} {k : Nat} {f C : Addr} {fd : FuncData} {ps : List Str} {sp : Sp} {E : L2.St → XK} {a b : Expr} {ta tb : TE} {pos : Pos} {r : L2.St → R2}
end
section
variable {X : Cx} {c : Fc} {W : WX} {k : Nat} {f C : Addr} {fd : FuncData} {ps : List Str} {sd : SpD} {a b : Expr} {ta tb : TD} {pos : Pos}
end
end DL
namespace DR
open PySem PySem.Spec PyProof.Rows L2 DL
section
variable {δ : DSt} {Q : DK} {E : XD}
end
end DR

set_option Elab.async false
set_option linter.all false
set_option maxRecDepth 100000
set_option maxHeartbeats 2000000
/-! DL51: list(text), slices of texts -/
namespace DL
open PySem PySem.Spec PyProof.Rows L2
theorem slice_cps (z : Str) (lo hi : Option Int) : (Txt.slice z lo hi).cps.toList = (z.cps.toList.drop (HT.sIx z.length 0 lo)).take (HT.sIx z.length z.length hi - HT.sIx z.length 0 lo) := by
  rw [← C8.cutS_slice]
  unfold cutS
  simp
theorem slice_hi {z : Str} {n : Nat} (h : n ≤ z.length) : (Txt.slice z none (some (n : Int))).cps.toList = z.cps.toList.take n := by
  rw [slice_cps]
  have e : HT.sIx z.length z.length (some (n : Int)) = n := by unfold HT.sIx; simp; split <;> omega
  have e0 : HT.sIx z.length 0 none = 0 := rfl
  rw [e, e0]
  simp
theorem slice_lo {z : Str} {n : Nat} (h : n ≤ z.length) : (Txt.slice z (some (n : Int)) none).cps.toList = z.cps.toList.drop n := by
  rw [slice_cps]
  have e : HT.sIx z.length 0 (some (n : Int)) = n := by unfold HT.sIx; simp; split <;> omega
  have e0 : HT.sIx z.length z.length none = z.length := rfl
  rw [e, e0]
  refine List.take_of_length_le ?_
  rw [List.length_drop, Array.length_toList]
  exact Nat.le_refl _
theorem strOk_cut {z : Str} {lo hi : Option Int} (h : PyData.strOk z = true) : PyData.strOk (Txt.slice z lo hi) = true := by
  unfold PyData.strOk at *
  rw [← Array.all_toList] at *
  rw [List.all_eq_true] at *
  intro c hc
  rw [slice_cps] at hc
  exact h c (List.mem_of_mem_drop (List.mem_of_mem_take hc))
abbrev sliceTx : RDS := fun a lo hi Q => ∃ z, a = .str z ∧ z.length ≤ sizeLine ∧ Q (.d (.str (Txt.slice z lo hi)))
theorem sld_txt {K : PySem.W.Frag} : SlD K C8.rSlX sliceTx := fun x a lo hi F H Q Qd s r ⟨z, e, hz, q⟩ k => by
  subst e
  cases r with
  | str ok => exact ⟨z, rfl, hz, k _ _ F H q (made_d s (.str (strOk_cut ok)))⟩
section
variable {X : Cx} {c : Fc} {W : WX}
theorem pd_sliceS {e : Expr} {lo hi : Option Expr} {t : TD} {tl th : TDO} {p2 pos : Pos} (he : PE X e (LE X.K c W t)) (hl : PO X lo (LO X.K c W tl)) (hh : PO X hi (LO X.K c W th)) : PE X (.Subscript e (.Slice lo hi none p2) pos) (LE X.K c W (sliceD sliceTx t tl th)) := pd_sliceR C8.sl_txt sld_txt he hl hh
end
end DL

set_option Elab.async false
set_option linter.all false
set_option maxRecDepth 100000
set_option maxHeartbeats 2000000
/-! DL52: xs[::-1] of a list -/
namespace DL
open PySem PySem.Spec PyProof.Rows L2
section
variable {X : Cx} {c : Fc} {W : WX}
end
end DL
namespace DR
open PySem PySem.Spec PyProof.Rows L2 DL
section
variable {δ : DSt} {Q : DK} {E : XD}
theorem slc {rd : RDS} {t : TD} {tl th : TDO} (h : t δ (fun x δ1 => tl δ1 (fun l δ2 => th δ2 (fun h δ3 => rd x.toD l h fun z => Q z δ3) E) E) E) : sliceD rd t tl th δ Q E := h
theorem slN {Q : Option Int → DSt → Prop} (h : Q none δ) : noneO δ Q E := h
theorem slS {t : TD} {Q : Option Int → DSt → Prop} (h : t δ (fun x δ1 => ∃ i, x.toD = .int i ∧ Q (some i) δ1) E) : someO t δ Q E := h
end
end DR

set_option Elab.async false
set_option linter.all false
set_option maxRecDepth 100000
set_option maxHeartbeats 2000000
/-! DL53: xs.count(x), texts -/
namespace DL
open PySem PySem.Spec PyProof.Rows L2
section
variable {X : Cx} {c : Fc} {W : WX}
end
end DL
namespace DR
open PySem PySem.Spec PyProof.Rows L2 DL
end DR

set_option Elab.async false
set_option linter.all false
set_option maxRecDepth 100000
set_option maxHeartbeats 2000000
/-! DL54: a dict comprehension with plain keys, over data -/
namespace DL
open PySem PySem.Spec PyProof.Rows L2
section
variable {X : Cx} {c : Fc} {W : WX}
end
end DL
namespace DR
open PySem PySem.Spec PyProof.Rows L2 DL
end DR

set_option Elab.async false
set_option linter.all false
set_option maxRecDepth 100000
/-! repr(x) of plain data: it wants that no repr is under way (guards); so such defs promise only where none is -/
namespace DL
open PySem PySem.Spec PyProof.Rows L2
/-! ### the text is made of right signs -/
theorem strOk_of {z : Str} (h : ∀ c ∈ z.cps.toList, c < 0x110000) : PyData.strOk z = true := by
  unfold PyData.strOk
  rw [Array.all_eq_true]
  intro i hi
  have := h z.cps[i] (by simp)
  simpa using this
theorem strOk_mem {z : Str} (h : PyData.strOk z = true) : ∀ c ∈ z.cps.toList, c < 0x110000 := by
  intro c hc
  unfold PyData.strOk at h
  rw [Array.all_eq_true] at h
  obtain ⟨i, hi, rfl⟩ := List.mem_iff_getElem.mp hc
  simpa using h i (by simpa using hi)
theorem char_lt (c : Char) : c.toNat < 0x110000 := by
  rcases c.valid with h | h
  · exact Nat.lt_trans h (by decide)
  · exact h.2
theorem strOk_lit (x : String) : PyData.strOk (Str.ofString x) = true := strOk_of fun c hc => by
  have e : (Str.ofString x).cps.toList = x.toList.map Char.toNat := cpsOfBytes_string x
  rw [e] at hc
  obtain ⟨d, _, rfl⟩ := List.mem_map.mp hc
  exact char_lt d
theorem sign_lt {q c : Nat} (hq : q < 0x110000) (hc : c < 0x110000) : ∀ d ∈ Builtin.Str.reprChar q c, d < 0x110000 := by
  have hx : ∀ (w : Nat), ∀ d ∈ List.replicate (w - ((Nat.toDigits 16 c).map Char.toNat).length) 48 ++ (Nat.toDigits 16 c).map Char.toNat, d < 0x110000 := fun w d hd => by
    rcases List.mem_append.mp hd with hd | hd
    · rw [(List.mem_replicate.mp hd).2]; decide
    · obtain ⟨e, _, rfl⟩ := List.mem_map.mp hd
      exact char_lt e
  intro d hd
  unfold Builtin.Str.reprChar at hd
  have two : ∀ {a b : Nat}, a < 0x110000 → b < 0x110000 → d ∈ [a, b] → d < 0x110000 := fun {a b} ha hb hm => by
    simp only [List.mem_cons, List.not_mem_nil, or_false] at hm
    rcases hm with rfl | rfl
    · exact ha
    · exact hb
  dsimp only at hd
  split at hd
  · exact two (by decide) hc hd
  split at hd
  · exact two (by decide) (by decide) hd
  split at hd
  · exact two (by decide) (by decide) hd
  split at hd
  · exact two (by decide) (by decide) hd
  split at hd
  · simp only [List.mem_cons, List.not_mem_nil, or_false] at hd
    exact hd ▸ hc
  split at hd
  · rcases List.mem_append.mp hd with hd | hd
    · exact two (by decide) (by decide) hd
    · exact hx _ _ hd
  split at hd
  · rcases List.mem_append.mp hd with hd | hd
    · exact two (by decide) (by decide) hd
    · exact hx _ _ hd
  · rcases List.mem_append.mp hd with hd | hd
    · exact two (by decide) (by decide) hd
    · exact hx _ _ hd
theorem strOk_repr {x : Str} (h : PyData.strOk x = true) : PyData.strOk (reprText x) = true := by
  have hq : reprQuote x < 0x110000 := by unfold reprQuote; split <;> decide
  have key : ∀ (l : List Nat) (acc : Array Nat), (∀ c ∈ l, c < 0x110000) → (∀ c ∈ acc.toList, c < 0x110000) →
      ∀ c ∈ (l.foldl (fun out c => out ++ (Builtin.Str.reprChar (reprQuote x) c).toArray) acc).toList, c < 0x110000 := by
    intro l
    induction l with
    | nil => exact fun acc _ h => h
    | cons a l ih =>
      intro acc h1 h2
      refine ih _ (fun c hc => h1 c (List.mem_cons_of_mem _ hc)) fun c hc => ?_
      rw [Array.toList_append] at hc
      rcases List.mem_append.mp hc with hc | hc
      · exact h2 c hc
      · exact sign_lt hq (h1 a List.mem_cons_self) c (by simpa using hc)
  refine strOk_of fun c hc => ?_
  unfold reprText at hc
  rw [Array.toList_push, ← Array.foldl_toList] at hc
  rcases List.mem_append.mp hc with hc | hc
  · exact key _ _ (strOk_mem h) (fun d hd => by simp at hd; omega) c hc
  · simp at hc; omega
theorem strOk_textFrom : ∀ (ts : List Str) (k : Nat) (acc : Str), PyData.strOk acc = true → (∀ t ∈ ts, PyData.strOk t = true) → PyData.strOk (textFrom k acc ts) = true
  | [], _, _, h, _ => h
  | t :: ts, k, acc, h, g => by
    refine strOk_textFrom ts (k + 1) _ (strOk_app (strOk_app h ?_) (g t List.mem_cons_self)) fun u hu => g u (List.mem_cons_of_mem _ hu)
    split <;> exact strOk_lit _
mutual
theorem strOk_shown : ∀ {d : PyData}, d.canLay0 = true → d.hasDict = false → PyData.strOk d.shown = true
  | .none, _, _ => strOk_lit _
  | .bool b, _, _ => by cases b <;> (simp only [PyData.shown]; exact strOk_lit _)
  | .int i, _, _ => by simp only [PyData.shown]; exact strOk_lit _
  | .str x, h, _ => by simp only [PyData.shown]; exact strOk_repr (by simpa [PyData.canLay0] using h)
  | .list xs, h, n => by
    simp only [PyData.shown, listText]
    exact strOk_app (strOk_textFrom _ _ _ (strOk_lit _) (strOk_shownAll (by simpa [PyData.canLay0] using h) (by simpa [PyData.hasDict] using n))) (strOk_lit _)
  | .tuple xs, h, n => by
    simp only [PyData.shown, tupleText]
    exact strOk_app (strOk_app (strOk_lit _) (strOk_join (strOk_lit _) (strOk_shownAll (by simpa [PyData.canLay0] using h) (by simpa [PyData.hasDict] using n)))) (strOk_lit _)
  | .dict _, _, n => by simp [PyData.hasDict] at n
theorem strOk_shownAll : ∀ {ds : List PyData}, PyData.canLayAll0 ds = true → PyData.hasDictAll ds = false → ∀ t ∈ PyData.shownAll ds, PyData.strOk t = true
  | [], _, _, t, ht => by simp [PyData.shownAll] at ht
  | d :: ds, h, n, t, ht => by
    simp only [PyData.canLayAll0, Bool.and_eq_true] at h
    simp only [PyData.hasDictAll, Bool.or_eq_false_iff] at n
    simp only [PyData.shownAll, List.mem_cons] at ht
    rcases ht with rfl | ht
    · exact strOk_shown h.1 n.1
    · exact strOk_shownAll h.2 n.2 t ht
end
mutual
theorem noDict : ∀ {d : D}, d.isPy = true → d.py.hasDict = false
  | .non, _ => rfl
  | .bl _, _ => rfl
  | .int _, _ => rfl
  | .str _, _ => rfl
  | .lst xs, h => by simp only [D.py, PyData.hasDict]; exact noDictL h
  | .ro xs, h => by simp only [D.py, PyData.hasDict]; exact noDictL h
  | .tup xs, h => by simp only [D.py, PyData.hasDict]; exact noDictL h
  | .rot xs, h => by simp only [D.py, PyData.hasDict]; exact noDictL h
  | .ktp xs, h => by simp only [D.py, PyData.hasDict]; exact noDictL h
  | .ty _, h => by cases h
  | .adr _, h => by cases h
  | .obj _ _, h => by cases h
  | .dT _, h => by cases h
  | .dK _, h => by cases h
  | .exc _ _ _ _ _, h => by cases h
  | .gho _ _, h => by cases h
  | .lkd _ _ _ _, h => by cases h
theorem noDictL : ∀ {ds : List D}, isPyL ds = true → PyData.hasDictAll (pyL ds) = false
  | [], _ => rfl
  | d :: ds, h => by
    simp only [isPyL, Bool.and_eq_true] at h
    simp only [pyL, PyData.hasDictAll, noDict h.1, noDictL h.2, Bool.or_self]
end
/-! ### how long the text is at most -/
mutual
def shW : PyData → Nat
  | .none => 4
  | .bool _ => 5
  | .int i => (Str.ofString (toString i)).length
  | .str x => 10 * x.length + 2
  | .list xs => shWs xs + 2
  | .tuple xs => shWs xs + 3
  | .dict _ => 0
def shWs : List PyData → Nat
  | [] => 0
  | d :: ds => shW d + 2 + shWs ds
end
def sumW (ts : List Str) : Nat := ts.foldr (fun t n => t.length + 2 + n) 0
theorem textFrom_le : ∀ (ts : List Str) (k : Nat) (acc : Str), (textFrom k acc ts).length ≤ acc.length + sumW ts
  | [], _, _ => Nat.le_refl _
  | t :: ts, k, acc => by
    have ih := textFrom_le ts (k + 1) (acc ++ (if k > 0 then ", " else "" : String) ++ t)
    have e : (acc ++ (if k > 0 then ", " else "" : String) ++ t).length ≤ acc.length + 2 + t.length := by
      rw [strLen_append, strLen_append]
      have : ((if k > 0 then ", " else "" : String) : Str).length ≤ 2 := by split <;> decide
      omega
    have e2 : sumW (t :: ts) = t.length + 2 + sumW ts := rfl
    show (textFrom (k + 1) (acc ++ (if k > 0 then ", " else "" : String) ++ t) ts).length ≤ _
    omega
theorem join_le : ∀ (ts : List Str), (Str.join ", " ts).length ≤ sumW ts
  | [] => Nat.zero_le _
  | [x] => by show x.length ≤ x.length + 2 + 0; omega
  | x :: y :: r => by
    have ih := join_le (y :: r)
    show (x ++ ", " ++ Str.join ", " (y :: r)).length ≤ x.length + 2 + sumW (y :: r)
    rw [strLen_append, strLen_append, show ((", " : String) : Str).length = 2 from rfl]
    omega
mutual
theorem shown_le : ∀ {d : PyData}, d.canLay0 = true → d.hasDict = false → d.shown.length ≤ shW d
  | .none, _, _ => by simp only [PyData.shown, shW]; decide
  | .bool b, _, _ => by cases b <;> (simp only [PyData.shown, shW]; decide)
  | .int i, _, _ => by simp only [PyData.shown, shW]; exact Nat.le_refl _
  | .str x, h, _ => by
    simp only [PyData.shown, shW]
    exact PySem.StrLaws.reprText_len x fun c hc => Nat.lt_trans (strOk_mem (by simpa [PyData.canLay0] using h) c hc) (by decide)
  | .list xs, h, n => by
    simp only [PyData.shown, shW, listText]
    have := textFrom_le (PyData.shownAll xs) 0 "["
    have h2 := shown_leAll (by simpa [PyData.canLay0] using h) (by simpa [PyData.hasDict] using n)
    rw [strLen_append, show (("]" : String) : Str).length = 1 from rfl]
    rw [show (("[" : String) : Str).length = 1 from rfl] at this
    omega
  | .tuple xs, h, n => by
    simp only [PyData.shown, shW, tupleText]
    have := join_le (PyData.shownAll xs)
    have h2 := shown_leAll (by simpa [PyData.canLay0] using h) (by simpa [PyData.hasDict] using n)
    have h3 : ((if (PyData.shownAll xs).length == 1 then ",)" else ")" : String) : Str).length ≤ 2 := by split <;> decide
    rw [strLen_append, strLen_append, show (("(" : String) : Str).length = 1 from rfl]
    omega
  | .dict _, _, n => by simp [PyData.hasDict] at n
theorem shown_leAll : ∀ {ds : List PyData}, PyData.canLayAll0 ds = true → PyData.hasDictAll ds = false → sumW (PyData.shownAll ds) ≤ shWs ds
  | [], _, _ => by simp only [PyData.shownAll, shWs]; exact Nat.le_refl _
  | d :: ds, h, n => by
    simp only [PyData.canLayAll0, Bool.and_eq_true] at h
    simp only [PyData.hasDictAll, Bool.or_eq_false_iff] at n
    have h1 := shown_le h.1 n.1
    have h2 := shown_leAll h.2 n.2
    simp only [PyData.shownAll, shWs]
    show d.shown.length + 2 + sumW (PyData.shownAll ds) ≤ _
    omega
end
end DL

set_option Elab.async false
set_option linter.all false
set_option maxRecDepth 100000
/-! repr(x), and defs that promise where no repr is under way -/
namespace DL
open PySem PySem.Spec PyProof.Rows L2
section
variable {X : Cx}
end
section
variable {X : Cx} {c : Fc} {W : WX}
end
/-! ### a def's promise where no repr is under way -/
section
variable {P : Program} {w : World} {K : PySem.W.Frag} {mg : Str → Option Value} {base : Heap}
end
/-! ### its call -/
section
variable {X : Cx} {c : Fc} {W : WX} {k : Nat} {f : Addr} {fd : FuncData} {ps : List Str} {sd : SpD} {x : Str} {p pos : Pos} {e : Expr} {es : List Expr} {ta : TDA}
end
end DL

set_option Elab.async false
set_option linter.all false
set_option maxRecDepth 100000
/-! the end of a law whose def promises where no repr is under way -/
namespace DL
open PySem PySem.Spec PyProof.Rows L2
end DL
namespace DL
open PySem PySem.Spec PyProof.Rows L2
end DL

set_option Elab.async false
set_option linter.all false
set_option maxRecDepth 100000
/-! one or the other reading of an expression -/
namespace DL
open PySem PySem.Spec PyProof.Rows L2
end DL
namespace DL
open PySem PySem.Spec PyProof.Rows L2
end DL

set_option Elab.async false
set_option linter.all false
set_option maxRecDepth 100000
/-! text * int -/
namespace DL
open PySem PySem.Spec PyProof.Rows L2
end DL
namespace DL
open PySem PySem.Spec PyProof.Rows L2
/-! the text of an int: how long it is -/
end DL
namespace DL
open PySem PySem.Spec PyProof.Rows L2
/-! int of a bool -/
abbrev intBS : RDNs := fun ds Q => ∃ b : Bool, ds = [.bl b] ∧ Q (.int (if b then 1 else 0))
theorem cn_intB {K : PySem.W.Frag} : CallNs K (fun xs H Q => (∃ i, xs = [V.int i] ∧ Q (.int i) H) ∨ ∃ k, xs = [V.bl k] ∧ Q (.int (if k then 1 else 0)) H) intBS := fun xs ds F H Q Qd s r ⟨b, e1, q⟩ k => by
  subst e1
  cases r with
  | cons r t => cases t; cases r; exact .inr ⟨b, rfl, k _ _ q rfl⟩
end DL

set_option Elab.async false
set_option linter.all false
set_option maxRecDepth 100000
set_option maxHeartbeats 2000000
/-! DL60: a tuple whose object is known to have no dict (.rot): xs.count(x) of texts; tuple(list) laid so; tuple(rot), for over it -/
namespace DL
open PySem PySem.Spec PyProof.Rows L2
section
variable {X : Cx} {c : Fc} {W : WX}
end
/-! ### tuple(list), laid with its object; tuple(rot); for over a rot -/
section
variable {X : Cx} {c : Fc} {W : WX}
end
end DL
namespace DR
open PySem PySem.Spec PyProof.Rows L2 DL
end DR

set_option Elab.async false
set_option linter.all false
set_option maxRecDepth 100000
set_option maxHeartbeats 2000000
/-! DL61: rules for a tuple whose object is known (.rot): in, len(set(..)) of texts, a tuple + a rot -/
namespace DL
open PySem PySem.Spec PyProof.Rows L2
section
variable {X : Cx} {c : Fc} {W : WX}
end
end DL
namespace DR
open PySem PySem.Spec PyProof.Rows L2 DL
end DR

set_option Elab.async false
set_option linter.all false
set_option maxRecDepth 100000
set_option maxHeartbeats 2000000
/-! DL62: an own dict by plain keys (read, write, in), name -= number -/
namespace DL
open PySem PySem.Spec PyProof.Rows L2
section
variable {X : Cx} {c : Fc} {W : WX}
/-! ### name -= number -/
end
end DL
namespace DR
open PySem PySem.Spec PyProof.Rows L2 DL
section
variable {δ : DSt} {Q : DK} {E : XD} {D : EndsD}
end
end DR

set_option Elab.async false
set_option linter.all false
set_option maxRecDepth 100000
set_option maxHeartbeats 2000000
/-! DL63: objects of the body's own: made without arguments, their methods, iteration, len -/
namespace DL
open PySem PySem.Spec PyProof.Rows L2
section
variable {X : Cx} {k : Nat} {f C : Addr} {fd : FuncData} {ps : List Str} {sd : SpD} {x m : Str} {p pos apos : Pos}
end
section
variable {X : Cx} {c : Fc} {W : WX} {k : Nat} {f C : Addr} {fd : FuncData} {ps : List Str} {sd : SpD} {x m : Str} {p pos apos : Pos} {e : Expr} {es : List Expr} {ta : TDA}
/-! len of an own object by its class's own __len__ -/
end
end DL
namespace DR
open PySem PySem.Spec PyProof.Rows L2 DL
section
variable {δ : DSt} {Q : DK} {E : XD}
end
end DR

set_option Elab.async false
set_option linter.all false
set_option maxRecDepth 100000
set_option maxHeartbeats 2000000
/-! DL64: sorted(xs, key=f), f an own def whose answer is a pair of whole numbers; f's calls keep what is held (not each object to the letter) -/
namespace SKI
open PySem PySem.Calls PySem.Spec PyProof.Rows PySem.W L2
section
variable {X : Cx} {pins : List (Addr × Obj)} {σ : L2.St} {H : Hp} {s : Shared} {a kS f : Addr} {us : List Value} {kys : List (Int × Int)} {e1 : Nat}
end
end SKI

set_option Elab.async false
set_option linter.all false
set_option maxRecDepth 100000
set_option maxHeartbeats 2000000
/-! DL65: sorted(xs, key=f) over data -/
namespace DL
open PySem PySem.Spec PyProof.Rows L2
section
variable {X : Cx} {k : Nat} {f : Addr} {fd : FuncData} {ps : List Str} {sp : Sp}
end
section
variable {K : PySem.W.Frag} {F : Hp}
end
section
variable {X : Cx} {c : Fc} {W : WX} {k : Nat} {f : Addr} {fd : FuncData} {ps : List Str} {sd : SpD}
end
end DL
namespace DR
open PySem PySem.Spec PyProof.Rows L2 DL
end DR

set_option Elab.async false
set_option linter.all false
set_option maxRecDepth 100000
set_option maxHeartbeats 2000000
/-! DL66: tuple(d.items()), d a dict by plain keys -/
namespace DL
open PySem PySem.Spec PyProof.Rows L2
section
variable {prog : Program} {w : World} {KT : Type} [DecidableEq KT] {knd : PySem.KeyKind prog w KT} {A : Around} {E : Value → Shared → Prop} {s : Shared} {r d : Addr} {kvs : List (KT × Value)} {ep : Nat}
end
section
variable {X : Cx} {c : Fc} {W : WX}
end
end DL
namespace DR
open PySem PySem.Spec PyProof.Rows L2 DL
end DR

set_option Elab.async false
set_option linter.all false
set_option maxRecDepth 100000
set_option maxHeartbeats 2000000
/-! DL67: a call one of whose arguments is a new object of the body's own, handed over for good -/
namespace DL
open PySem PySem.Spec PyProof.Rows L2
section
variable (K : PySem.W.Frag) (c : Fc) (W : WX)
end
section
variable {K : PySem.W.Frag} {c : Fc} {F F' H H' : Hp} {ow : Addr → Option Hold} {δ : DSt} {tmp : List (V × DV)} {σ : L2.St} {v u : V} {x : DV} {o : OC} {d : D}
end
section
variable {K : PySem.W.Frag} {c : Fc} {W : WX} {F H : Hp} {ow : Addr → Option Hold} {δ : DSt} {tmp : List (V × DV)} {σ : L2.St} {v : V} {o : OC} {vs1 vs2 : List V} {as1 as2 : List AV} {xs1 xs2 : List DV} {sd : SpD} {Q : VK} {Qd : DK} {Ed : XD}
end
section
variable {X : Cx} {c : Fc} {W : WX}
variable {k : Nat} {f : Addr} {fd : FuncData} {ps : List Str} {sd : SpD} {x : Str} {p pos : Pos} {e : Expr} {es : List Expr} {ta : TDM}
end
end DL
namespace DR
open PySem PySem.Spec PyProof.Rows L2 DL
section
variable {δ : DSt} {Q : List AV → OC → List AV → DSt → Prop} {E : XD}
end
end DR

set_option Elab.async false
set_option linter.all false
set_option maxRecDepth 100000
set_option maxHeartbeats 2000000
/-! DL68: a class's constant -/
namespace DL
open PySem PySem.Spec PyProof.Rows L2
end DL
namespace DL
open PySem PySem.Spec PyProof.Rows L2
end DL

set_option Elab.async false
set_option linter.all false
set_option maxRecDepth 100000
/-! DL69: a, b, c = x, y, z where one is a cell -/
namespace DL
open PySem PySem.Spec PyProof.Rows L2
section
variable {X : Cx} {c : Fc} {W : WX}
end
end DL

set_option Elab.async false
set_option linter.all false
set_option maxRecDepth 100000
set_option maxHeartbeats 2000000
/-! DL70: a list's items to names; sorted of whole numbers and of rows of four whole numbers; xs[i], xs[j] = a, b -/
namespace DL
open PySem PySem.Spec PyProof.Rows L2 PySem.W
section
variable {X : Cx} {c : Fc} {W : WX}
/-! rows of four -/
/-! xs[i], xs[j] = a, b : xs the own list in slot n -/
end
end DL

set_option Elab.async false
set_option linter.all false
set_option maxRecDepth 100000
set_option maxHeartbeats 2000000
/-! DL71: d.get(k, x) of an own dict by plain keys -/
namespace DL
open PySem PySem.Spec PyProof.Rows L2
section
variable {X : Cx} {c : Fc} {W : WX}
end
end DL
namespace DR
open PySem PySem.Spec PyProof.Rows L2 DL
end DR

set_option Elab.async false
set_option linter.all false
set_option maxRecDepth 100000
/-! DL72: x not in xs, xs an own list that goes on changing -/
namespace DL
open PySem PySem.Spec PyProof.Rows L2
section
variable {X : Cx} {c : Fc} {W : WX}
end
end DL

set_option Elab.async false
set_option linter.all false
set_option maxRecDepth 100000
set_option maxHeartbeats 2000000
/-! DL73: cells: own objects that no name holds, kept on the stack; an alias is their address -/
namespace DL
open PySem PySem.Spec PyProof.Rows L2
abbrev Cells := List (Addr × OC)
abbrev cellV (x : Addr × OC) : V × DV := (.ref x.1, .own x.2)
abbrev stk (cs : Cells) : List (V × DV) := cs.map cellV
structure EndsC where
  nx : DSt → Cells → Prop
  rt : DV → DSt → Cells → Prop
  ex : XD
  bk : DSt → Cells → Prop := fun _ _ => False
  ct : DSt → Cells → Prop := fun _ _ => False
abbrev TDSc := EndsC → DSt → Cells → Prop
abbrev TDc := DSt → Cells → (DV → DSt → Cells → Prop) → XD → Prop
abbrev TDTc := DSt → Cells → (Bool → DSt → Cells → Prop) → XD → Prop
section
variable (K : PySem.W.Frag) (c : Fc) (W : WX)
def LEc (t : TDc) : TE := fun σ H Q => ∃ δ cs pre tmp Qd Ed, Stt K c δ (pre ++ (stk cs ++ tmp)) σ H ∧ t δ cs Qd Ed ∧ (∀ v x δ' cs' H', Qd x δ' cs' → Stt K c δ' ((v, x) :: (pre ++ (stk cs' ++ tmp))) σ H' → Q v H') ∧ WD K c W tmp Ed
def LTc (t : TDTc) : TT := fun σ H Q => ∃ δ cs pre tmp Qd Ed, Stt K c δ (pre ++ (stk cs ++ tmp)) σ H ∧ t δ cs Qd Ed ∧ (∀ b δ' cs' H', Qd b δ' cs' → Stt K c δ' (pre ++ (stk cs' ++ tmp)) σ H' → Q b H') ∧ WD K c W tmp Ed
def LSc (t : TDSc) : TS := fun D σ H => ∃ δ cs pre tmp Dd, Stt K c δ (pre ++ (stk cs ++ tmp)) σ H ∧ t Dd δ cs ∧ (∀ δ' cs' σ' H', Dd.nx δ' cs' → Stt K c δ' (pre ++ (stk cs' ++ tmp)) σ' H' → D.nx σ' H') ∧
  (∀ v x δ' cs' σ' H', Dd.rt x δ' cs' → Stt K c δ' ((v, x) :: (pre ++ (stk cs' ++ tmp))) σ' H' → D.rt v H') ∧
  (∀ δ' cs' σ' H', Dd.bk δ' cs' → Stt K c δ' (pre ++ (stk cs' ++ tmp)) σ' H' → D.bk σ' H') ∧ (∀ δ' cs' σ' H', Dd.ct δ' cs' → Stt K c δ' (pre ++ (stk cs' ++ tmp)) σ' H' → D.ct σ' H') ∧ WD K c W tmp Dd.ex
end
section
variable {K : PySem.W.Frag} {c : Fc} {W : WX} {tmp : List (V × DV)} {Ed : XD}
theorem WD.app (w : WD K c W tmp Ed) : ∀ l : List (V × DV), WD K c W (l ++ tmp) Ed
  | [] => w
  | (_, _) :: l => (w.app l).push
end
section
variable {X : Cx} {c : Fc} {W : WX}
/-! ### what stands without cells -/
def upE (t : TD) : TDc := fun δ cs Q E => t δ (fun x δ' => Q x δ' cs) E
def upT (t : TDT) : TDTc := fun δ cs Q E => t δ (fun x δ' => Q x δ' cs) E
def upS (t : TDS) : TDSc := fun D δ cs => t { nx := fun δ' => D.nx δ' cs, rt := fun x δ' => D.rt x δ' cs, ex := D.ex, bk := fun δ' => D.bk δ' cs, ct := fun δ' => D.ct δ' cs } δ
theorem pec_up {e : Expr} {t : TD} (h : PE X e (LE X.K c W t)) : PE X e (LEc X.K c W (upE t)) := PE_imp h fun σ H Q ⟨δ, cs, pre, tmp, Qd, Ed, S, t, k, w⟩ =>
  ⟨δ, _, _, Ed, S, t, fun v x δ' H' q S' => k v x δ' cs H' q S', (w.app _).app _⟩
theorem ptc_up {e : Expr} {t : TDT} (h : PT X e (LT X.K c W t)) : PT X e (LTc X.K c W (upT t)) := PT_imp h fun σ H Q ⟨δ, cs, pre, tmp, Qd, Ed, S, t, k, w⟩ =>
  ⟨δ, _, _, Ed, S, t, fun b δ' H' q S' => k b δ' cs H' q S', (w.app _).app _⟩
theorem ptsc_up {e : List Expr} {t : TDT} (h : PTs X e (LT X.K c W t)) : PTs X e (LTc X.K c W (upT t)) := PTs_imp h fun σ H Q ⟨δ, cs, pre, tmp, Qd, Ed, S, t, k, w⟩ =>
  ⟨δ, _, _, Ed, S, t, fun b δ' H' q S' => k b δ' cs H' q S', (w.app _).app _⟩
theorem psc_up {st : Stmt} {t : TDS} (h : PS X st (LS X.K c W t)) : PS X st (LSc X.K c W (upS t)) := PS_imp h fun D σ H ⟨δ, cs, pre, tmp, Dd, S, q, k, kr, kb, kc, w⟩ =>
  ⟨δ, _, _, S, q, fun δ' σ' H' => k δ' cs σ' H', fun v x δ' σ' H' => kr v x δ' cs σ' H', fun δ' σ' H' => kb δ' cs σ' H', fun δ' σ' H' => kc δ' cs σ' H', (w.app _).app _⟩
/-! ### blocks -/
def seqC (t u : TDSc) : TDSc := fun D δ cs => t { D with nx := u D } δ cs
def nextC : TDSc := fun D δ cs => D.nx δ cs
theorem pdsc_nil : PSs X [] (LSc X.K c W nextC) := PSs_imp pss_nil fun D σ H ⟨δ, cs, pre, tmp, Dd, S, t, k, _⟩ => k δ cs σ H t S
theorem pdsc_cons {st : Stmt} {rest : List Stmt} {t u : TDSc} (h1 : PS X st (LSc X.K c W t)) (h2 : PSs X rest (LSc X.K c W u)) : PSs X (st :: rest) (LSc X.K c W (seqC t u)) :=
  PSs_imp (pss_cons h1 h2) fun D σ H ⟨δ, cs, pre, tmp, Dd, S, q, k, kr, kb, kc, w⟩ => ⟨δ, cs, pre, tmp, _, S, q, fun δ' cs' σ' H' q' S' => ⟨δ', cs', pre, tmp, Dd, S', q', k, kr, kb, kc, w⟩, kr, kb, kc, w⟩
theorem pdsc_one {st : Stmt} {t : TDSc} (h1 : PS X st (LSc X.K c W t)) : PSs X [st] (LSc X.K c W t) := PSs_imp (pss_one h1) fun _ _ _ q => q
/-- x = e -/
def setC (i : Nat) (o : Bool) (t : TDc) : TDSc := fun D δ cs => t δ cs (fun x δ1 cs1 => D.nx (δ1.set i (some (asD o x))) cs1) D.ex
theorem psc_set {i : Nat} {o : Bool} {x : Str} {e : Expr} {t : TDc} {pos pos' : Pos} (he : PE X e (LEc X.K c W t)) (ni : i ∉ c.sl) (hN : X.N.Nodup) (hi : X.N[i]? = some x) (hx : Loc X.env.scope x) (hs : swapsWith e (some (.Name x pos')) pos.line X.env = pure false := by rfl)
    (hf : X.fn x = true ∨ X.env.scope.names.lookup x = some .local := by first | exact .inl rfl | exact .inr rfl | assumption) : PS X (.Assign [.Name x pos'] e pos) (LSc X.K c W (setC i o t)) :=
  PS_imp (ps_set (i := i) hN hi hx he hs hf) fun D σ H ⟨δ, cs, pre, tmp, Dd, S, q, k, kr, kb, kc, w⟩ => ⟨δ, cs, pre, tmp, _, _, S, q, fun v x δ' cs' H' q' ⟨F, ow, S'⟩ => by
    obtain ⟨F', S2⟩ := S'.top_as o
    exact k _ _ _ _ q' (S2.set' ni), w⟩
/-! ### for -/
end
/-! ### the stack put in another order -/
section
variable {K : PySem.W.Frag} {c : Fc} {F H : Hp} {ow ow' : Addr → Option Hold} {δ : DSt} {σ : L2.St} {v : V} {x : DV}
def renH (f : Nat → Nat) : Option Hold → Option Hold
  | some (.t n) => some (.t (f n))
  | z => z
theorem RepV.ren {f : Nat → Nat} {n : Nat} (q : RepV K c F H ow (.t n) v x) : RepV K c F H (fun a => renH f (ow a)) (.t (f n)) v x := by
  cases x with
  | d y => exact q
  | own o =>
    obtain ⟨p, rfl, a, b, w, r⟩ := q
    exact ⟨p, rfl, by show renH f (ow p) = _; rw [a]; rfl, b, .inl w.t, r⟩
theorem RepV.renS {f : Nat → Nat} {i : Nat} (q : RepV K c F H ow (.s i) v x) : RepV K c F H (fun a => renH f (ow a)) (.s i) v x := by
  cases x with
  | d y => exact q
  | own o =>
    obtain ⟨p, rfl, a, b, w, r⟩ := q
    exact ⟨p, rfl, by show renH f (ow p) = _; rw [a]; rfl, b, w, r⟩
theorem RepTmp.ren {f : Nat → Nat} : ∀ {l : List (V × DV)}, (∀ n, n < l.length → f n = n) → RepTmp K c F H ow l → RepTmp K c F H (fun a => renH f (ow a)) l
  | [], _, _ => True.intro
  | (v, x) :: l, h, q => ⟨by
      have := q.1.ren (f := f)
      rw [h _ (Nat.lt_succ_self _)] at this
      exact this, RepTmp.ren (fun n hn => h n (Nat.lt_succ_of_lt hn)) q.2⟩
theorem RepTmp.sink {f : Nat → Nat} {v : V} {x : DV} {B : List (V × DV)} (h1 : ∀ n, n < B.length → f n = n) : ∀ {A : List (V × DV)}, (∀ n, B.length ≤ n → n < B.length + A.length → f n = n + 1) → RepTmp K c F H ow (A ++ B) → RepV K c F H (fun a => renH f (ow a)) (.t B.length) v x →
    RepTmp K c F H (fun a => renH f (ow a)) (A ++ (v, x) :: B)
  | [], _, q, r => ⟨r, RepTmp.ren h1 q⟩
  | (u, y) :: A, h, q, r => by
    refine ⟨?_, RepTmp.sink h1 (fun n a b => h n a (Nat.lt_succ_of_lt b)) q.2 r⟩
    have h2 : RepV K c F H (fun a => renH f (ow a)) (.t (f (A ++ B).length)) u y := q.1.ren (f := f)
    have e : f (A ++ B).length = (A ++ (v, x) :: B).length := by
      rw [h _ (by rw [List.length_append]; omega) (by rw [List.length_append, List.length_cons]; omega), List.length_append, List.length_append, List.length_cons]
      omega
    rw [e] at h2
    exact h2
theorem SttF.sink {A B : List (V × DV)} (S : SttF K c F ow δ ((v, x) :: (A ++ B)) σ H) : ∃ ow', SttF K c F ow' δ (A ++ (v, x) :: B) σ H := by
  let f : Nat → Nat := fun n => if n < B.length then n else if n < B.length + A.length then n + 1 else B.length
  refine ⟨fun a => renH f (ow a), { S with sl := fun i x q => let ⟨v, e1, e2⟩ := S.sl i x q; ⟨v, e1, e2.renS⟩, tm := ?_ }⟩
  refine RepTmp.sink (fun n h => if_pos h) (fun n h1 h2 => (if_neg (Nat.not_lt.mpr h1)).trans (if_pos h2)) S.tm.2 ?_
  have := S.tm.1.ren (f := f)
  have e : f (A ++ B).length = B.length := by
    show (if _ then _ else _) = _
    rw [List.length_append, if_neg (by omega), if_neg (by omega)]
  rw [e] at this
  exact this
theorem RepTmp.mid : ∀ {A B : List (V × DV)}, RepTmp K c F H ow (A ++ (v, x) :: B) → RepV K c F H ow (.t B.length) v x
  | [], _, q => q.1
  | (_, _) :: _, _, q => RepTmp.mid q.2
end
/-! ### an alias is put in the place of a name that holds the cell -/
section
variable {K : PySem.W.Frag} {c c' : Fc} {F H : Hp} {ow ow' : Addr → Option Hold} {δ : DSt} {σ : L2.St} {v : V} {x : DV} {a : Addr} {o : OC} {i : Nat}
theorem RepV.at {h : Hold} (q : RepV K c F H ow h v x) (n : ∀ p, NewAt c h p → NewAt c' h p) (m : ∀ p, v = .ref p → ow p = some h → ow' p = ow p) : RepV K c' F H ow' h v x := by
  cases x with
  | d y => exact q
  | own o =>
    obtain ⟨p, rfl, a, b, w, r⟩ := q
    exact ⟨p, rfl, (m p rfl a).trans a, b, n p w, r⟩
theorem RepTmp.swap {v : V} {x y : DV} {B : List (V × DV)} (n : ∀ k p, NewAt c (.t k) p → NewAt c' (.t k) p) (m : ∀ k p, k ≠ B.length → ow p = some (.t k) → ow' p = ow p) (r : RepV K c' F H ow' (.t B.length) v y) : ∀ {A : List (V × DV)}, RepTmp K c F H ow (A ++ (v, x) :: B) → RepTmp K c' F H ow' (A ++ (v, y) :: B)
  | [], q => ⟨r, by
      have go : ∀ {l : List (V × DV)}, l.length ≤ B.length → RepTmp K c F H ow l → RepTmp K c' F H ow' l := fun {l} => by
        induction l with
        | nil => exact fun _ _ => True.intro
        | cons e l ih =>
          obtain ⟨u, z⟩ := e
          exact fun hl q => ⟨q.1.at (n _) fun p _ e => m _ p (by have : l.length + 1 ≤ B.length := hl; omega) e, ih (Nat.le_of_succ_le hl) q.2⟩
      exact go (Nat.le_refl _) q.2⟩
  | (u, z) :: A, q => ⟨by
      have hl : (A ++ (v, x) :: B).length = (A ++ (v, y) :: B).length := by rw [List.length_append, List.length_append]; rfl
      have hn : (A ++ (v, x) :: B).length ≠ B.length := by rw [List.length_append, List.length_cons]; omega
      have h1 : RepV K c' F H ow' (.t (A ++ (v, x) :: B).length) u z := q.1.at (c' := c') (ow' := ow') (n _) fun p _ e => m _ p hn e
      rw [hl] at h1
      exact h1, RepTmp.swap n m r q.2⟩
abbrev focF (c : Fc) (i : Nat) (a : Addr) : Fc := { c with sl := i :: c.sl, ad := a :: c.ad }
theorem SttF.focus {A B : List (V × DV)} (S : SttF K c F ow δ (A ++ (.ref a, .own o) :: B) σ H) (ei : δ[i]? = some (some (.d (.adr a)))) (ni : i ∉ c.sl) : c.H0 a = none ∧ ∃ ow', SttF K (focF c i a) F ow' (δ.set i (some (.own o))) (A ++ (.ref a, .d (.adr a)) :: B) σ H := by
  obtain ⟨p, e0, ea, b, w, r⟩ := S.tm.mid
  cases e0
  have h0 := w.t
  obtain ⟨v, e1, r1⟩ := S.sl _ _ ei
  cases (show Rep K F v (.adr a) from r1)
  have nw : ∀ (h : Hold) (p : Addr), NewAt c h p → NewAt (focF c i a) h p := fun h p w => w.imp id fun ⟨w1, j, e, w2⟩ => ⟨List.mem_cons_of_mem _ w1, j, e, List.mem_cons_of_mem _ w2⟩
  refine ⟨h0, owSet ow a (.s i), ⟨S.fh, S.f0, S.fn, fun b u e n => S.fr b u e fun z => n (List.mem_cons_of_mem _ z), S.up, by rw [List.length_set]; exact S.len, fun j z q => ?_, ?_, fun k j p q1 q2 => ?_⟩⟩
  · by_cases e' : i = j
    · subst e'
      rw [List.getElem?_set_self (set_lt ei)] at q
      cases q
      exact ⟨.ref a, e1, a, rfl, owSet_at, b, .inl h0, r⟩
    · rw [List.getElem?_set_ne e'] at q
      obtain ⟨u, e2, r2⟩ := S.sl j z q
      exact ⟨u, e2, r2.at (nw _) fun p _ e => owSet_ne fun y => by subst y; rw [ea] at e; cases e⟩
  · refine RepTmp.swap (c' := focF c i a) (ow' := owSet ow a (.s i)) (x := .own o) (y := .d (.adr a)) (fun k p => nw _ p) (fun k p hk e => owSet_ne fun y => ?_) (show Rep K F (.ref a) (.adr a) from .adr a) S.tm
    subst y; rw [ea] at e; cases e; exact hk rfl
  · cases k with
    | zero => cases q1; cases q2; exact e1
    | succ k => exact S.ps k j p q1 q2
theorem SttF.unfocus {A B : List (V × DV)} (S : SttF K (focF c i a) F ow δ (A ++ (.ref a, .d (.adr a)) :: B) σ H) (ei : δ[i]? = some (some (.own o))) (ni : i ∉ c.sl) (h0 : c.H0 a = none) : ∃ ow', SttF K c F ow' (δ.set i (some (.d (.adr a)))) (A ++ (.ref a, .own o) :: B) σ H := by
  have es := S.ps 0 i a rfl rfl
  obtain ⟨v, e1, p, e0, ea, b, w, r⟩ := S.sl _ _ ei
  rw [es] at e1
  cases e1
  cases e0
  have nwt : ∀ (k : Nat) (p : Addr), NewAt (focF c i a) (.t k) p → NewAt c (.t k) p := fun k p w => .inl w.t
  refine ⟨owSet ow a (.t B.length), ⟨S.fh, S.f0, S.fn, fun b u e n => S.fr b u e fun z => (List.mem_cons.mp z).elim (fun y => by rw [y] at e; exact nomatch (show (none : Option HO) = some u from h0.symm.trans e)) n, S.up, by rw [List.length_set]; exact S.len, fun j z q => ?_, ?_, fun k j p q1 q2 => S.ps (k + 1) j p q1 q2⟩⟩
  · by_cases e' : i = j
    · subst e'
      rw [List.getElem?_set_self (set_lt ei)] at q
      cases q
      exact ⟨.ref a, es, .adr a⟩
    · rw [List.getElem?_set_ne e'] at q
      obtain ⟨u, e2, r2⟩ := S.sl j z q
      refine ⟨u, e2, r2.at (fun p w => ?_) fun p _ e => owSet_ne fun y => by subst y; rw [ea] at e; cases e; exact e' rfl⟩
      rcases w with w | ⟨w1, k, e, w2⟩
      · exact .inl w
      · cases e
        rcases List.mem_cons.mp w1 with y | w1
        · exact .inl (y ▸ h0)
        · exact .inr ⟨w1, j, rfl, (List.mem_cons.mp w2).elim (fun y => (e' y.symm).elim) id⟩
  · refine RepTmp.swap (c := focF c i a) (c' := c) (ow' := owSet ow a (.t B.length)) (x := .d (.adr a)) (y := .own o) (fun k p => nwt k p) (fun k p hk e => owSet_ne fun y => ?_) ⟨a, rfl, owSet_at, b, .inl h0, r⟩ S.tm
    subst y; rw [ea] at e; cases e
end
section
variable {X : Cx} {c : Fc} {W : WX}
theorem cells_at {cs : Cells} {k : Nat} {a : Addr} {o : OC} (h : cs[k]? = some (a, o)) : ∃ l r, cs = l ++ (a, o) :: r ∧ ∀ o', cs.set k (a, o') = l ++ (a, o') :: r := by
  refine ⟨cs.take k, cs.drop (k + 1), ?_, fun o' => ?_⟩
  · have hk := set_lt h
    have e : cs[k] = (a, o) := Option.some.inj ((List.getElem?_eq_getElem hk).symm.trans h)
    rw [← e, ← List.drop_eq_getElem_cons hk, List.take_append_drop]
  · rw [List.set_eq_take_append_cons_drop, if_pos (set_lt h)]
/-- a statement while the name at slot i, an alias, holds its cell -/
def withC (i : Nat) (t : TDS) : TDSc := fun D δ cs => ∃ (k : Nat) (a : Addr) (o : OC), δ[i]? = some (some (.d (.adr a))) ∧ cs[k]? = some (a, o) ∧
  t { nx := fun δ' => ∃ o', δ'[i]? = some (some (.own o')) ∧ D.nx (δ'.set i (some (.d (.adr a)))) (cs.set k (a, o')), rt := fun _ _ => False, ex := fun _ _ => False } (δ.set i (some (.own o)))
theorem psc_with {i : Nat} {st : Stmt} {t : TDS} (h : ∀ a, PS X st (LS X.K (focF c i a) W t)) (ni : i ∉ c.sl) : PS X st (LSc X.K c W (withC i t)) := by
  refine ⟨fun pins s σ H D I ⟨δ, cs, pre, tmp, Dd, ⟨F, ow, S⟩, ⟨k, a, o, ei, ek, q⟩, kn, _⟩ => (h a).run pins s σ H D I ?_⟩
  obtain ⟨l, r, e1, e2⟩ := cells_at ek
  have es : pre ++ (stk cs ++ tmp) = (pre ++ stk l) ++ (.ref a, .own o) :: (stk r ++ tmp) := by
    rw [e1]; simp [stk]
  rw [es] at S
  obtain ⟨h0, ow', S'⟩ := S.focus ei ni
  refine ⟨_, _, _, ⟨F, ow', S'⟩, q, fun δ' σ' H' ⟨o', ei', q'⟩ ⟨F2, ow2, S2⟩ => ?_, fun _ _ _ _ _ z => z.elim, fun _ _ _ z => z.elim, fun _ _ _ z => z.elim, fun _ _ _ _ _ _ _ _ z => z.elim⟩
  obtain ⟨ow3, S3⟩ := S2.unfocus ei' ni h0
  refine kn _ _ _ _ q' ⟨F2, ow3, ?_⟩
  rw [e2]
  have es' : pre ++ (stk (l ++ (a, o') :: r) ++ tmp) = (pre ++ stk l) ++ (.ref a, .own o') :: (stk r ++ tmp) := by
    simp [stk]
  rw [es']
  exact S3
end
end DL

set_option Elab.async false
set_option linter.all false
set_option maxRecDepth 100000
set_option maxHeartbeats 2000000
/-! DL74: with cells: [f(x) for x in xs], [e, list(..)], e[k] of an alias, a call that looks through the cells, the end of a def -/
namespace DL
open PySem PySem.Spec PyProof.Rows L2
section
variable {X : Cx} {c : Fc} {W : WX}
/-! ### comprehensions -/
def lcC (g : TDG) (tt : TDTc) (te : TDc) (vs : List Nat) : List DL.D → List DL.D → DSt → Cells → (List DL.D → DSt → Cells → Prop) → Prop
  | [], acc, δ, cs, Q => Q acc δ cs
  | x :: xs, acc, δ, cs, Q => g x δ fun δ1 => tt δ1 cs (fun b δ2 cs2 => if b = true then te δ2 cs2 (fun y δ3 cs3 => acc.length < sizeLine ∧ lcC g tt te vs xs (acc ++ [y.toD]) (wipeD δ3 vs) cs3 Q) noX else lcC g tt te vs xs acc (wipeD δ2 vs) cs2 Q) noX
def compC (ti : TDI) (g : TDG) (tt : TDTc) (te : TDc) (vs : List Nat) : TDc := fun δ cs Q E => ti δ (fun xs δ1 => lcC g tt te vs xs [] (wipeD δ1 vs) cs fun acc δ2 cs2 => Q (.own (.lst acc)) δ2 cs2) E
theorem lift_compC {K : PySem.W.Frag} {ti : TDI} {g : TDG} {tt : TDTc} {te : TDc} {vs : List Nat} (hv : ∀ i ∈ vs, i ∉ c.sl) : ∀ σ H Q, LEc K c W (compC ti g tt te vs) σ H Q → tLc (LI K c W ti) (LG K c vs g) (LTc K c W0 tt) (LEc K c W0 te) vs σ H Q := fun σ H Q ⟨δ, cs, pre, tmp, Qd, Ed, S, q, k, w⟩ => by
  refine ⟨δ, _, _, _, S, q, fun J v src items δ1 H1 q1 sv ⟨F1, ow1, S1⟩ => ?_, (w.app _).app _⟩
  intro D nD
  have S2 := (S1.wipe hv).pushNew (o := .lst []) nD ⟨[], upd_same, .nil⟩
  refine ⟨fun i m H => m = items.length - i ∧ i ≤ items.length ∧ ∃ δ acc cs, Stt K c (wipeD δ vs) ((.ref D, .own (.lst acc)) :: (v, .d src) :: (pre ++ (stk cs ++ tmp))) (wipe σ vs) H ∧ lcC g tt te vs (items.drop i) acc (wipeD δ vs) cs fun acc δ2 cs2 => Qd (.own (.lst acc)) δ2 cs2,
    ⟨items.length, by simp, Nat.zero_le _, δ1, [], cs, ⟨_, _, S2⟩, q1⟩, ?_⟩
  rintro i m H2 ⟨rfl, hi, δ2, acc, cs2, ⟨F2, ow2, S3⟩, q2⟩
  have src2 : Rep K F2 v src := S3.tm.2.1
  by_cases hlt : i < items.length
  · refine .inr ⟨sv.go i F2 H2 S3.fh src2 hlt, fun H => i + 1 ≤ items.length ∧ ∃ δ acc cs, Stt K c (wipeD δ vs) ((.ref D, .own (.lst acc)) :: (v, .d src) :: (pre ++ (stk cs ++ tmp))) (wipe σ vs) H ∧ lcC g tt te vs (items.drop (i + 1)) acc (wipeD δ vs) cs fun acc δ2 cs2 => Qd (.own (.lst acc)) δ2 cs2,
      fun H' h => ⟨items.length - (i + 1), by omega, rfl, h⟩, fun x H' y => ?_⟩
    obtain ⟨F3, e3, r3⟩ := sv.yld i F2 H2 x H' S3.fh src2 y _ (List.getElem?_eq_getElem hlt)
    rw [List.drop_eq_getElem_cons hlt] at q2
    refine ⟨wipeD δ2 vs, (.ref D, .own (.lst acc)) :: (v, .d src) :: (pre ++ (stk cs2 ++ tmp)), _, _, ⟨F3, ow2, (S3.ext e3).push r3⟩, q2, fun δ4 σ4 H4 q4 S4 hw => ?_⟩
    have hw' : wipe σ4 vs = wipe σ vs := by
      rw [hw]
      have idem : ∀ (l : List Nat), (∀ i ∈ l, i ∈ vs) → wipe (wipe σ l) vs = wipe σ vs := fun l => by
        induction l with
        | nil => exact fun _ => rfl
        | cons a r ih =>
          intro h
          show wipe ((wipe σ r).set a none) vs = _
          rw [wipe_set (h a List.mem_cons_self)]
          exact ih fun i hi => h i (List.mem_cons_of_mem _ hi)
      exact idem vs fun _ h => h
    refine ⟨hw', δ4, cs2, (.ref D, .own (.lst acc)) :: (v, .d src) :: pre, tmp, _, noX, S4, q4, fun b δ5 cs5 H5 q5 ⟨F5, ow5, S5⟩ => ?_, fun _ _ _ _ _ _ _ _ z => z.elim⟩
    cases b with
    | false =>
      have S6 := S5.wipe hv
      rw [hw'] at S6
      exact ⟨hlt, δ5, acc, cs5, ⟨_, _, S6⟩, q5⟩
    | true =>
      refine ⟨δ5, cs5, (.ref D, .own (.lst acc)) :: (v, .d src) :: pre, tmp, _, noX, ⟨F5, ow5, S5⟩, q5, fun u z δ6 cs6 H6 ⟨hz, q6⟩ ⟨F6, ow6, S6⟩ => ?_, fun _ _ _ _ _ _ _ _ z => z.elim⟩
      obtain ⟨F7, S7, s7⟩ := S6.top_frz
      obtain ⟨p', e0, _, _, _, ws, ep, rw'⟩ := S7.tm.2.1
      cases e0
      have S8 := S7.pop.writeT (o' := .lst (acc ++ [z.toD])) (ob := .lst (ws ++ [u])) ⟨_, upd_same, rw'.app (.cons S7.top .nil)⟩
      have S9 := S8.wipe hv
      rw [hw'] at S9
      exact ⟨ws, ep, by rw [rw'.len]; exact hz, hlt, δ6, _, cs6, ⟨_, _, S9⟩, q6⟩
  · have e : i = items.length := by omega
    subst e
    rw [List.drop_length] at q2
    refine .inl ⟨sv.stop _ F2 H2 S3.fh src2 (Nat.le_refl _), k _ _ _ _ _ q2 ?_⟩
    have S4 := S3.unwipe hv
    obtain ⟨p', e0, e, b, n, r⟩ := S4.tm.1
    cases e0
    have S5 := S4.pop.pop.reown (ow' := owSet ow2 D (.t (pre ++ (stk cs2 ++ tmp)).length)) (fun k a z _ => owSet_ne fun y => by subst y; rw [e] at z; cases z) (fun k a hk z _ => owSet_ne fun y => by
      subst y; rw [e] at z; cases z
      have : (pre ++ (stk cs2 ++ tmp)).length + 1 < (pre ++ (stk cs2 ++ tmp)).length := hk
      omega)
    exact ⟨F2, _, { S5 with tm := ⟨⟨D, rfl, owSet_at, b, .inl n.t, r⟩, S5.tm⟩ }⟩
theorem pec_lc {elt tg iter : Expr} {ifs : List Expr} {scope : Scope} {own : List (Str × Nat)} {pos : Pos} {ti : TDI} {g : TDG} {tt : TDTc} {te : TDc} (hc : X.calm = true) (hN : X.N.Nodup) (hi : PI X tg iter (LI X.K c W ti)) (ok : BlkOk X.N X.env.scope scope own)
    (hg : ∀ (s : Shared) (H : Hp) (C : Addr) (cl : List (Str × Addr)) (fp : List Addr), PG (X.blk s H scope (compEnvC scope cl C X.env) fp) tg (LG X.K c (own.map (·.2)) g)) (ht : ∀ (s : Shared) (H : Hp) (C : Addr) (cl : List (Str × Addr)) (fp : List Addr), PTs (X.blk s H scope (compEnvC scope cl C X.env) fp) ifs (LTc X.K c W0 tt))
    (he : ∀ (s : Shared) (H : Hp) (C : Addr) (cl : List (Str × Addr)) (fp : List Addr), PE (X.blk s H scope (compEnvC scope cl C X.env) fp) elt (LEc X.K c W0 te)) (hv : ∀ i ∈ own.map (·.2), i ∉ c.sl) (hs : ∀ x, foldedSetIterable iter X.env x = pure x := by intro _; rfl) :
    PE X (.ListComp elt [⟨tg, iter, ifs, 0⟩] scope pos) (LEc X.K c W (compC ti g tt te (own.map (·.2)))) := PE_imp (pe_lc hc hN hi ok hg ht he hs) (lift_compC hv)
theorem RepTmp.own {K : PySem.W.Frag} {c : Fc} {F H : Hp} {ow : Addr → Option Hold} : ∀ {l : List (V × DV)} {v : V} {x : DV}, RepTmp K c F H ow l → (v, x) ∈ l → ∃ k, k < l.length ∧ RepV K c F H ow (.t k) v x
  | (_, _) :: _, _, _, q, h => (List.mem_cons.mp h).elim (fun e => by cases e; exact ⟨_, Nat.lt_succ_self _, q.1⟩) fun h => let ⟨k, a, b⟩ := RepTmp.own q.2 h; ⟨k, Nat.lt_succ_of_lt a, b⟩
/-! ### [x, an own list that becomes a cell] -/
/-! ### a row of values, the first with cells -/
/-! ### an item of an alias -/
/-! ### looking through the cells -/
/-- x is y when one looks through the cells -/
def Fill (K : PySem.W.Frag) (cs : Cells) (x y : D) : Prop := ∀ (F : Hp) (v : V), (∀ a o, (a, o) ∈ cs → Rep K F (.ref a) o.toD) → Rep K F v x → Rep K F v y
theorem OwnRep.rep {K : PySem.W.Frag} {F F1 H : Hp} {p : Addr} {o : OC} (r : OwnRep K F H p o) (e : F1 p = H p) (s : Same F F1) : Rep K F1 (.ref p) o.toD := by
  cases o with
  | lst ds => obtain ⟨vs, z, r⟩ := r; exact .lst (e.trans z) (r.mono s)
  | ins C fs => obtain ⟨dx, vs, z, r⟩ := r; exact .obj (e.trans z) (r.mono s)
  | dT kvs => obtain ⟨vs, z, r⟩ := r; exact .dT (.inl (e.trans z)) (r.mono s)
  | dK kvs => obtain ⟨vs, z, r⟩ := r; exact .dK (.inl (e.trans z)) (r.mono s)
  | tab P q => obtain ⟨a, _⟩ := r; subst a; exact .adr _
/-! ### the end of a def: cells are looked through -/
def exitC (K : PySem.W.Frag) (t : TDSc) : TDS := fun D δ => t { nx := fun _ _ => False, rt := fun x δ' cs => ∃ z y, x = .d z ∧ Fill K cs z y ∧ D.rt (.d y) δ', ex := D.ex } δ []
theorem frz_all {K : PySem.W.Frag} {H : Hp} {ow : Addr → Option Hold} {δ : DSt} {σ : L2.St} {tmp : List (V × DV)} : ∀ {cs : Cells} {F : Hp}, SttF K c F ow δ (stk cs ++ tmp) σ H → ∃ F', SttF K c F' ow δ tmp σ H ∧ Same F F' ∧ ∀ a o, (a, o) ∈ cs → Rep K F' (.ref a) o.toD
  | [], F, S => ⟨F, S, Same.refl F, fun a o h => nomatch h⟩
  | (a, o) :: cs, F, S => by
    obtain ⟨F1, S1, s1⟩ := S.top_frz
    obtain ⟨F2, S2, s2, h⟩ := frz_all (cs := cs) S1.pop
    refine ⟨F2, S2, s1.trans s2, fun b o' hm => ?_⟩
    rcases List.mem_cons.mp hm with e | hm
    · cases e; exact Rep.mono s2 S1.top
    · exact h b o' hm
theorem pss_exit {K : PySem.W.Frag} {body : List Stmt} {t : TDSc} (h : PSs X body (LSc X.K c W t)) (hK : X.K = K := by rfl) : PSs X body (LS X.K c W (exitC K t)) := by
  subst hK
  exact PSs_imp h fun D σ H ⟨δ, tmp, Dd, S, q, k, kr, kb, kc, w⟩ => ⟨δ, [], [], tmp, _, S, q, fun _ _ _ _ z _ => z.elim, fun v x δ' cs' σ' H' ⟨z, y, e, hf, q'⟩ ⟨F, ow, S'⟩ => by
    subst e
    obtain ⟨F', S2, s, hc⟩ := frz_all (cs := cs') S'.pop
    exact kr v (.d y) δ' σ' H' q' ⟨F', ow, S2.push (hf F' v hc (Rep.mono s S'.top))⟩, fun _ _ _ _ z _ => z.elim, fun _ _ _ _ z _ => z.elim, w⟩
end
end DL
/-! ### readings -/
namespace DR
open PySem PySem.Spec PyProof.Rows L2 DL
theorem exitC {K : PySem.W.Frag} {t : TDSc} {D : EndsD} {δ : DSt} (h : t { nx := fun _ _ => False, rt := fun x δ' cs => ∃ z y, x = .d z ∧ Fill K cs z y ∧ D.rt (.d y) δ', ex := D.ex } δ []) : DL.exitC K t D δ := h
theorem cutC {t u : TDSc} {D : EndsC} {δ : DSt} {cs : Cells} (I : DSt → Cells → Prop) (h1 : ∀ N : DSt → Cells → Prop, (∀ δ cs, I δ cs → N δ cs) → t { D with nx := N } δ cs) (h2 : ∀ δ cs, I δ cs → u D δ cs) : seqC t u D δ cs := h1 _ h2
theorem upC {t : TDS} {D : EndsC} {δ : DSt} {cs : Cells} (h : t { nx := fun δ' => D.nx δ' cs, rt := fun x δ' => D.rt x δ' cs, ex := D.ex, bk := fun δ' => D.bk δ' cs, ct := fun δ' => D.ct δ' cs } δ) : upS t D δ cs := h
theorem lcC_inv {g : TDG} {tt : TDTc} {te : TDc} {vs : List Nat} {xs acc : List DL.D} {δ : DSt} {cs : Cells} {Q : List DL.D → DSt → Cells → Prop} (I : Nat → List DL.D → DSt → Cells → Prop) (h0 : I 0 acc δ cs)
    (hs : ∀ i x acc δ cs (N : List DL.D → DSt → Cells → Prop), xs[i]? = some x → I i acc δ cs → (∀ acc' δ' cs', I (i + 1) acc' δ' cs' → N acc' δ' cs') →
      g x δ (fun δ1 => tt δ1 cs (fun b δ2 cs2 => if b = true then te δ2 cs2 (fun y δ3 cs3 => acc.length < sizeLine ∧ N (acc ++ [y.toD]) (wipeD δ3 vs) cs3) noX else N acc (wipeD δ2 vs) cs2) noX))
    (hn : ∀ acc δ cs, I xs.length acc δ cs → Q acc δ cs) : lcC g tt te vs xs acc δ cs Q := by
  have go : ∀ (m i : Nat) acc δ cs, i + m = xs.length → I i acc δ cs → lcC g tt te vs (xs.drop i) acc δ cs Q := fun m => by
    induction m with
    | zero =>
      intro i acc δ cs e h
      have e : i = xs.length := e
      subst e
      rw [List.drop_length]
      exact hn acc δ cs h
    | succ m ih =>
      intro i acc δ cs e h
      have hl : i < xs.length := by omega
      rw [List.drop_eq_getElem_cons hl]
      exact hs i _ acc δ cs _ (List.getElem?_eq_getElem hl) h fun acc' δ' cs' h' => ih (i + 1) acc' δ' cs' (by omega) h'
  have := go xs.length 0 acc δ cs (Nat.zero_add _) h0
  rwa [List.drop_zero] at this
end DR
namespace DL
open PySem PySem.Spec PyProof.Rows L2
section
variable {K : PySem.W.Frag} {cs : Cells} {x y : D} {xs ys : List D}
def FillL (K : PySem.W.Frag) (cs : Cells) (xs ys : List D) : Prop := ∀ (F : Hp) (vs : List V), (∀ a o, (a, o) ∈ cs → Rep K F (.ref a) o.toD) → RepL K F vs xs → RepL K F vs ys
theorem Fill.refl : Fill K cs x x := fun _ _ _ r => r
theorem Fill.adr {a : Addr} {o : OC} (h : (a, o) ∈ cs) : Fill K cs (.adr a) o.toD := fun F v hc r => by
  cases r
  exact hc a o h
theorem FillL.nil : FillL K cs [] [] := fun _ _ _ r => r
theorem FillL.cons (h : Fill K cs x y) (t : FillL K cs xs ys) : FillL K cs (x :: xs) (y :: ys) := fun F vs hc r => by
  cases r with
  | cons r rs => exact .cons (h F _ hc r) (t F _ hc rs)
theorem Fill.lst (h : FillL K cs xs ys) : Fill K cs (.lst xs) (.lst ys) := fun F v hc r => by
  cases r with
  | lst s r => exact .lst s (h F _ hc r)
theorem Fill.tup (h : FillL K cs xs ys) : Fill K cs (.tup xs) (.tup ys) := fun F v hc r => by
  cases r with
  | tup s r => exact .tup s (h F _ hc r)
end
end DL
namespace DR
open PySem PySem.Spec PyProof.Rows L2 DL
section
variable {δ : DSt} {cs : Cells} {Q : DV → DSt → Cells → Prop} {E : XD} {D : EndsC}
theorem compC {ti : TDI} {g : TDG} {tt : TDTc} {te : TDc} {vs : List Nat} (h : ti δ (fun xs δ1 => lcC g tt te vs xs [] (wipeD δ1 vs) cs fun acc δ2 cs2 => Q (.own (.lst acc)) δ2 cs2) E) : DL.compC ti g tt te vs δ cs Q E := h
theorem setC {i : Nat} {o : Bool} {t : TDc} (h : t δ cs (fun x δ1 cs1 => D.nx (δ1.set i (some (asD o x))) cs1) D.ex) : DL.setC i o t D δ cs := h
theorem upT {t : TDT} {Q : Bool → DSt → Cells → Prop} (h : t δ (fun x δ' => Q x δ' cs) E) : DL.upT t δ cs Q E := h
theorem withC {i k : Nat} {t : TDS} {a : Addr} {o : OC} (h1 : δ[i]? = some (some (.d (.adr a)))) (h2 : cs[k]? = some (a, o))
    (h : t { nx := fun δ' => ∃ o', δ'[i]? = some (some (.own o')) ∧ D.nx (δ'.set i (some (.d (.adr a)))) (cs.set k (a, o')), rt := fun _ _ => False, ex := fun _ _ => False } (δ.set i (some (.own o)))) : DL.withC i t D δ cs := ⟨k, a, o, h1, h2, h⟩
end
end DR

set_option Elab.async false
set_option linter.all false
set_option maxRecDepth 100000
set_option maxHeartbeats 2000000
/-! LamK: a lambda with one parameter, made and called -/
namespace LamY
open PySem PySem.Spec PyProof.Rows L2 LamX
section
variable {X : Cx} {pins : List (Addr × Obj)} {σ : L2.St} {H : Hp} {s : Shared}
end
/-! ### its names: one parameter, captured names and globals -/
section
variable {X : Cx} {pins : List (Addr × Obj)} {σ : L2.St} {H : Hp} {s : Shared}
end
end LamY

set_option Elab.async false
set_option linter.all false
set_option maxRecDepth 100000
set_option maxHeartbeats 2000000
/-! DL75: sorted(xs, key=lambda x: ..): the table of code objects is a cell -/
namespace DL
open PySem PySem.Spec PyProof.Rows L2
section
variable {K : PySem.W.Frag} {c c' : Fc} {F F' H H' H1 : Hp} {ow ow' : Addr → Option Hold} {δ : DSt} {σ : L2.St} {v : V} {x : DV}
theorem RepTmp.change {v : V} {x y : DV} {B : List (V × DV)} (n : ∀ k v x, k ≠ B.length → RepV K c F H ow (.t k) v x → RepV K c' F' H' ow' (.t k) v x) (r : RepV K c' F' H' ow' (.t B.length) v y) : ∀ {A : List (V × DV)}, RepTmp K c F H ow (A ++ (v, x) :: B) → RepTmp K c' F' H' ow' (A ++ (v, y) :: B)
  | [], q => ⟨r, by
      have go : ∀ {l : List (V × DV)}, l.length ≤ B.length → RepTmp K c F H ow l → RepTmp K c' F' H' ow' l := fun {l} => by
        induction l with
        | nil => exact fun _ _ => True.intro
        | cons e l ih =>
          obtain ⟨u, z⟩ := e
          exact fun hl q => ⟨n _ _ _ (by have : l.length + 1 ≤ B.length := hl; omega) q.1, ih (Nat.le_of_succ_le hl) q.2⟩
      exact go (Nat.le_refl _) q.2⟩
  | (u, z) :: A, q => ⟨by
      have hl : (A ++ (v, x) :: B).length = (A ++ (v, y) :: B).length := by rw [List.length_append, List.length_append]; rfl
      have hn : (A ++ (v, x) :: B).length ≠ B.length := by rw [List.length_append, List.length_cons]; omega
      have h1 : RepV K c' F' H' ow' (.t (A ++ (v, x) :: B).length) u z := n _ _ _ hn q.1
      rw [hl] at h1
      exact h1, RepTmp.change n r q.2⟩
end
/-! ### the lambda as a value; sorted by it -/
section
variable {X : Cx} {c : Fc} {W : WX}
end
/-! ### over data -/
section
variable {X : Cx} {c : Fc} {W : WX}
end
end DL
namespace DR
open PySem PySem.Spec PyProof.Rows L2 DL
end DR

set_option Elab.async false
set_option linter.all false
set_option maxRecDepth 100000
set_option maxHeartbeats 2000000
/-! DL76: defs that make lambdas, or call such: the table goes with the call -/
namespace DL
open PySem PySem.Spec PyProof.Rows L2
section
variable {K : PySem.W.Frag} {c : Fc} {F F' H H' : Hp} {ow : Addr → Option Hold} {δ : DSt} {σ : L2.St} {v : V} {x : DV} {P : Addr} {q : Str}
end
/-! ### the call -/
section
variable {X : Cx} {c : Fc} {W : WX}
/-! ### statements -/
def ifC (c : TDTc) (t u : TDSc) : TDSc := fun D δ cs => c δ cs (fun b δ1 cs1 => if b = true then t D δ1 cs1 else u D δ1 cs1) D.ex
theorem psc_if {e : Expr} {a b : List Stmt} {tc : TDTc} {t u : TDSc} {pos : Pos} (hc : PT X e (LTc X.K c W tc)) (ha : PSs X a (LSc X.K c W t)) (hb : PSs X b (LSc X.K c W u)) : PS X (.If e a b pos) (LSc X.K c W (ifC tc t u)) :=
  PS_imp (ps_if hc ha hb) fun D σ H ⟨δ, cs, pre, tmp, Dd, S, q, k, kr, kb, kc, w⟩ => ⟨δ, cs, pre, tmp, _, _, S, q, fun b δ' cs' H' q' S' => by
    cases b
    · exact ⟨δ', cs', pre, tmp, Dd, S', q', k, kr, kb, kc, w⟩
    · exact ⟨δ', cs', pre, tmp, Dd, S', q', k, kr, kb, kc, w⟩, w⟩
end
/-! ### the def -/
section
variable {P : Program} {w : World} {K : PySem.W.Frag} {mg : Str → Option Value} {base : Heap}
end
end DL
namespace DR
open PySem PySem.Spec PyProof.Rows L2 DL
section
variable {δ : DSt} {cs : Cells} {Q : DV → DSt → Cells → Prop} {E : XD} {D : EndsC}
end
end DR
namespace DL
open PySem PySem.Spec PyProof.Rows L2
end DL

set_option Elab.async false
set_option linter.all false
set_option maxRecDepth 100000
set_option maxHeartbeats 2000000
/-! DL77: a dict of one's own in a field of one's own object (within a def): self.f = {..}; self.f[k] = e; g(self.f, x) -/
namespace DL
open PySem PySem.Spec PyProof.Rows L2
mutual
/-- no dict within -/
def D.noK : D → Bool
  | .lst xs => noKL xs
  | .ro xs => noKL xs
  | .tup xs => noKL xs
  | .rot xs => noKL xs
  | .ktp xs => noKL xs
  | .obj _ fs => noKF fs
  | .dT _ => false
  | .dK _ => false
  | .exc _ _ _ _ _ => false
  | .gho _ _ => false
  | .lkd _ _ _ _ => false
  | _ => true
def noKL : List D → Bool
  | [] => true
  | d :: ds => d.noK && noKL ds
def noKF : List (Str × D) → Bool
  | [] => true
  | (_, d) :: ds => d.noK && noKF ds
end
section
variable {K : PySem.W.Frag} {F F' : Hp}
theorem rd_less {a : Addr} {u : HO} {ks : List (Key × V)} (hd : F a = some (.dK ks)) (hF : ∀ b, b ≠ a → F' b = F b) {p : Addr} (n1 : u ≠ .dK ks) (n2 : ∀ o, HO.frz o u ≠ .dK ks) (h : Rd F p u) : Rd F' p u := by
  have np : p ≠ a := fun z => by
    rw [z] at h
    rcases h with h | ⟨o, h⟩
    · rw [hd] at h; exact n1 (Option.some.inj h).symm
    · rw [hd] at h; exact n2 o (Option.some.inj h).symm
  rcases h with h | ⟨o, h⟩
  · exact .inl ((hF p np).trans h)
  · exact .inr ⟨o, (hF p np).trans h⟩
theorem at_less {a : Addr} {u : HO} {ks : List (Key × V)} (hd : F a = some (.dK ks)) (hF : ∀ b, b ≠ a → F' b = F b) {p : Addr} (n1 : u ≠ .dK ks) (h : F p = some u) : F' p = some u := by
  have np : p ≠ a := fun z => by rw [z, hd] at h; exact n1 (Option.some.inj h).symm
  exact (hF p np).trans h
theorem ne_l {vs : List V} {ks : List (Key × V)} : HO.lst vs ≠ .dK ks := fun z => nomatch z
theorem ne_f {o : Obj} {u : HO} {ks : List (Key × V)} : HO.frz o u ≠ .dK ks := fun z => nomatch z
theorem ne_t {vs : List V} {ks : List (Key × V)} : HO.tup vs ≠ .dK ks := fun z => nomatch z
theorem ne_i {C d : Addr} {vs : List (Str × V)} {ks : List (Key × V)} : HO.ins C d vs ≠ .dK ks := fun z => nomatch z
mutual
/-- what has no dict within stands without one dict -/
theorem Rep.less {a : Addr} {ks : List (Key × V)} (hd : F a = some (.dK ks)) (hF : ∀ b, b ≠ a → F' b = F b) : ∀ {v : V} {d : D}, Rep K F v d → d.noK = true → Rep K F' v d
  | _, _, .non, _ => .non
  | _, _, .bl b, _ => .bl b
  | _, _, .int i, _ => .int i
  | _, _, .str k, _ => .str k
  | _, _, .ty n, _ => .ty n
  | _, _, .adr a, _ => .adr a
  | _, _, .lst s h, n => .lst (at_less hd hF ne_l s) (h.less hd hF n)
  | _, _, .ro s h, n => .ro (s.imp (rd_less hd hF ne_l fun _ => ne_f) id) (h.less hd hF n)
  | _, _, .tup s h, n => .tup (at_less hd hF ne_t s) (h.less hd hF n)
  | _, _, .rot s hc hd' h, n => .rot (at_less hd hF ne_f s) hc hd' (h.less hd hF n)
  | _, _, .ktp s h, n => .ktp (s.imp (rd_less hd hF ne_t fun _ => ne_f) id) (h.less hd hF n)
  | _, _, .obj s h, n => .obj (at_less hd hF ne_i s) (h.less hd hF n)
  | _, _, .dT _ _, h => nomatch h
  | _, _, .dK _ _, h => nomatch h
  | _, _, .exc0, h => nomatch h
  | _, _, .exc _ _, h => nomatch h
  | _, _, .gho _, h => nomatch h
  | _, _, .lkd _ _, h => nomatch h
theorem RepL.less {a : Addr} {ks : List (Key × V)} (hd : F a = some (.dK ks)) (hF : ∀ b, b ≠ a → F' b = F b) : ∀ {vs : List V} {ds : List D}, RepL K F vs ds → noKL ds = true → RepL K F' vs ds
  | _, _, .nil, _ => .nil
  | _, _, .cons h t, n => .cons (h.less hd hF (Bool.and_eq_true _ _ ▸ n).1) (t.less hd hF (Bool.and_eq_true _ _ ▸ n).2)
theorem RepF.less {a : Addr} {ks : List (Key × V)} (hd : F a = some (.dK ks)) (hF : ∀ b, b ≠ a → F' b = F b) : ∀ {vs : List (Str × V)} {ds : List (Str × D)}, RepF K F vs ds → noKF ds = true → RepF K F' vs ds
  | _, _, .nil, _ => .nil
  | _, _, .cons h t, n => .cons (h.less hd hF (Bool.and_eq_true _ _ ▸ n).1) (t.less hd hF (Bool.and_eq_true _ _ ▸ n).2)
end
end
section
variable {K : PySem.W.Frag} {c : Fc} {F H : Hp} {ow : Addr → Option Hold} {δ : DSt} {σ : L2.St}
/-- a cell's content is written -/
theorem SttF.writeC {A B : List (V × DV)} {a : Addr} {o o' : OC} {ob : HO} (S : SttF K c F ow δ (A ++ (.ref a, .own o) :: B) σ H) (r' : OwnRep K F (upd H a ob) a o') : SttF K c F ow δ (A ++ (.ref a, .own o') :: B) σ (upd H a ob) := by
  obtain ⟨p, e0, ea, b, w, r⟩ := S.tm.mid
  cases e0
  have keep : ∀ {h : Hold} {v : V} {x : DV}, RepV K c F H ow h v x → h ≠ .t B.length → RepV K c F (upd H a ob) ow h v x := fun {h v x} y ne => by
    cases x with
    | d z => exact y
    | own z =>
      obtain ⟨p, rfl, ep, bp, wp, rp⟩ := y
      exact ⟨p, rfl, ep, bp, wp, rp.mono (Same.refl F) (upd_ne fun t => by subst t; rw [ea] at ep; cases ep; exact ne rfl)⟩
  refine ⟨fun p u z => ?_, S.f0, S.fn, fun p u z n => ?_, fun p z => ?_, S.len, fun j z qz => let ⟨v, e1, e2⟩ := S.sl j z qz; ⟨v, e1, keep e2 fun z => nomatch z⟩, ?_, S.ps⟩
  · rw [upd_ne (ne_of_none z b)]
    exact S.fh _ _ z
  · rw [upd_ne (fun t => by subst t; rw [w.t] at z; cases z)]
    exact S.fr p u z n
  · by_cases t : p = a
    · subst t; rw [upd_same] at z; cases z
    · rw [upd_ne t] at z; exact S.up p z
  · exact RepTmp.change (x := .own o) (y := .own o') (fun k v x hk q => keep q fun z => hk (by cases z; rfl)) ⟨a, rfl, ea, b, w, r'⟩ S.tm
end
section
variable {X : Cx} {c : Fc} {W : WX}
/-! ### the end of an __init__ -/
end
end DL

set_option Elab.async false
set_option linter.all false
set_option maxRecDepth 100000
set_option maxHeartbeats 2000000
/-! DL78: a dict by plain keys walked (locked while a statement runs); list(d) -/
namespace DL
open PySem PySem.Spec PyProof.Rows L2
section
variable {K : PySem.W.Frag} {F F2 H : Hp} {a : Addr} {od : Obj} {ks : List (Key × V)}
abbrev zO (od : Obj) (ks : List (Key × V)) : HO := .frz od (.dK ks)
theorem ne_x {vs : List (Str × V)} : HO.xd vs ≠ .dK ks := fun z => nomatch z
theorem nf_l {vs : List V} : ∀ o x, HO.lst vs ≠ .frz o x := fun _ _ z => nomatch z
theorem nf_p {vs : List V} : ∀ o x, HO.tup vs ≠ .frz o x := fun _ _ z => nomatch z
theorem nf_t {vs : List (List Key × V)} : ∀ o x, HO.dT vs ≠ .frz o x := fun _ _ z => nomatch z
theorem nf_k {vs : List (Key × V)} : ∀ o x, HO.dK vs ≠ .frz o x := fun _ _ z => nomatch z
theorem rd_lock (hd : F a = some (.dK ks)) {p : Addr} {u : HO} (h : Rd F p u) : Rd (upd F a (zO od ks)) p u := by
  by_cases e : p = a
  · subst e
    rcases h with h | ⟨o, h⟩
    · rw [hd] at h; cases h; exact .inr ⟨od, upd_same⟩
    · rw [hd] at h; cases h
  · rcases h with h | ⟨o, h⟩
    · exact .inl (by rw [upd_ne e]; exact h)
    · exact .inr ⟨o, by rw [upd_ne e]; exact h⟩
theorem at_lock (hd : F a = some (.dK ks)) {p : Addr} {u : HO} (n : u ≠ .dK ks) (h : F p = some u) : upd F a (zO od ks) p = some u := by
  rw [upd_ne (fun e => by rw [e, hd] at h; exact n (Option.some.inj h).symm)]; exact h
mutual
theorem Rep.lockT (hd : F a = some (.dK ks)) : ∀ {v : V} {d : D}, Rep K F v d → Rep K (upd F a (zO od ks)) v d
  | _, _, .non => .non
  | _, _, .bl b => .bl b
  | _, _, .int i => .int i
  | _, _, .str k => .str k
  | _, _, .ty n => .ty n
  | _, _, .adr a => .adr a
  | _, _, .lst s h => .lst (at_lock hd ne_l s) (h.lockT hd)
  | _, _, .ro s h => .ro (s.imp (rd_lock hd) id) (h.lockT hd)
  | _, _, .tup s h => .tup (at_lock hd ne_t s) (h.lockT hd)
  | _, _, .rot s hc hd' h => .rot (at_lock hd ne_f s) hc hd' (h.lockT hd)
  | _, _, .ktp s h => .ktp (s.imp (rd_lock hd) id) (h.lockT hd)
  | _, _, .obj s h => .obj (at_lock hd ne_i s) (h.lockT hd)
  | _, _, .dT s h => .dT (rd_lock hd s) (h.lockT hd)
  | _, _, .dK s h => .dK (rd_lock hd s) (h.lockT hd)
  | _, _, .exc0 => .exc0
  | _, _, .exc s h => .exc (at_lock hd ne_x s) (h.lockT hd)
  | _, _, .gho h => .gho (h.lockT hd)
  | _, _, .lkd s h => .lkd (at_lock hd ne_f s) (h.lockT hd)
theorem RepL.lockT (hd : F a = some (.dK ks)) : ∀ {vs : List V} {ds : List D}, RepL K F vs ds → RepL K (upd F a (zO od ks)) vs ds
  | _, _, .nil => .nil
  | _, _, .cons h t => .cons (h.lockT hd) (t.lockT hd)
theorem RepF.lockT (hd : F a = some (.dK ks)) : ∀ {vs : List (Str × V)} {ds : List (Str × D)}, RepF K F vs ds → RepF K (upd F a (zO od ks)) vs ds
  | _, _, .nil => .nil
  | _, _, .cons h t => .cons (h.lockT hd) (t.lockT hd)
theorem RepT.lockT (hd : F a = some (.dK ks)) : ∀ {vs : List (List Key × V)} {ds : List (List Key × D)}, RepT K F vs ds → RepT K (upd F a (zO od ks)) vs ds
  | _, _, .nil => .nil
  | _, _, .cons h t => .cons (h.lockT hd) (t.lockT hd)
theorem RepK.lockT (hd : F a = some (.dK ks)) : ∀ {vs : List (Key × V)} {ds : List (Key × D)}, RepK K F vs ds → RepK K (upd F a (zO od ks)) vs ds
  | _, _, .nil => .nil
  | _, _, .cons h t => .cons (h.lockT hd) (t.lockT hd)
end
/-! back -/
theorem rd_back (hd : F2 a = some (zO od ks)) {p : Addr} {u : HO} (n : ∀ o x, u ≠ .frz o x) (h : Rd F2 p u) : Rd (upd F2 a (.dK ks)) p u := by
  by_cases e : p = a
  · subst e
    rcases h with h | ⟨o, h⟩
    · rw [hd] at h; exact absurd (Option.some.inj h).symm (n _ _)
    · rw [hd] at h; cases h; exact .inl upd_same
  · rcases h with h | ⟨o, h⟩
    · exact .inl (by rw [upd_ne e]; exact h)
    · exact .inr ⟨o, by rw [upd_ne e]; exact h⟩
theorem at_back (hd : F2 a = some (zO od ks)) {p : Addr} {u : HO} {y : HO} (n : u ≠ zO od ks) (h : F2 p = some u) : upd F2 a y p = some u := by
  rw [upd_ne (fun e => by rw [e, hd] at h; exact n (Option.some.inj h).symm)]; exact h
theorem ne_l2 {vs : List V} : HO.lst vs ≠ zO od ks := fun z => nomatch z
theorem ne_t2 {vs : List V} : HO.tup vs ≠ zO od ks := fun z => nomatch z
theorem ne_i2 {C d : Addr} {vs : List (Str × V)} : HO.ins C d vs ≠ zO od ks := fun z => nomatch z
theorem ne_x2 {vs : List (Str × V)} : HO.xd vs ≠ zO od ks := fun z => nomatch z
theorem ne_r2 {ob : Obj} {vs : List V} : HO.frz ob (.tup vs) ≠ zO od ks := fun z => nomatch z
theorem lkd_ne (hd : F a = some (.dK ks)) {p : Addr} {o : Obj} {x : HO} (h : F p = some (.frz o x)) : p ≠ a := fun z => by rw [z, hd] at h; cases h
theorem at_back2 {p : Addr} {y : HO} (n : p ≠ a) {u : HO} (h : F2 p = some u) : upd F2 a y p = some u := by rw [upd_ne n]; exact h
mutual
/-- what stood ahead of the lock stands behind it -/
theorem Rep.back (h0 : F a = some (.dK ks)) (hd : F2 a = some (zO od ks)) : ∀ {v v' : V} {d : D}, Rep K F2 v d → Rep K F v' d → Rep K (upd F2 a (.dK ks)) v d
  | _, _, _, .non, _ => .non
  | _, _, _, .bl b, _ => .bl b
  | _, _, _, .int i, _ => .int i
  | _, _, _, .str k, _ => .str k
  | _, _, _, .ty n, _ => .ty n
  | _, _, _, .adr a, _ => .adr a
  | _, _, _, .lst s h, .lst _ g => .lst (at_back hd ne_l2 s) (h.back h0 hd g)
  | _, _, _, .ro s h, .ro _ g => .ro (s.imp (rd_back hd nf_l) id) (h.back h0 hd g)
  | _, _, _, .tup s h, .tup _ g => .tup (at_back hd ne_t2 s) (h.back h0 hd g)
  | _, _, _, .rot s hc hd' h, .rot _ _ _ g => .rot (at_back hd ne_r2 s) hc hd' (h.back h0 hd g)
  | _, _, _, .obj s h, .obj _ g => .obj (at_back hd ne_i2 s) (h.back h0 hd g)
  | _, _, _, .dT s h, .dT _ g => .dT (rd_back hd nf_t s) (h.back h0 hd g)
  | _, _, _, .dK s h, .dK _ g => .dK (rd_back hd nf_k s) (h.back h0 hd g)
  | _, _, _, .exc0, _ => .exc0
  | _, _, _, .exc s h, .exc _ g => .exc (at_back hd ne_x2 s) (h.back h0 hd g)
  | _, _, _, .gho h, .gho g => .gho (h.back h0 hd g)
  | _, _, _, .ktp s h, .ktp _ g => .ktp (s.imp (rd_back hd nf_p) id) (h.back h0 hd g)
  | _, _, _, .lkd s h, .lkd t g => .lkd (at_back2 (lkd_ne h0 t) s) (h.back h0 hd g)
theorem RepL.back (h0 : F a = some (.dK ks)) (hd : F2 a = some (zO od ks)) : ∀ {vs vs' : List V} {ds : List D}, RepL K F2 vs ds → RepL K F vs' ds → RepL K (upd F2 a (.dK ks)) vs ds
  | _, _, _, .nil, _ => .nil
  | _, _, _, .cons h t, .cons g u => .cons (h.back h0 hd g) (t.back h0 hd u)
theorem RepF.back (h0 : F a = some (.dK ks)) (hd : F2 a = some (zO od ks)) : ∀ {vs vs' : List (Str × V)} {ds : List (Str × D)}, RepF K F2 vs ds → RepF K F vs' ds → RepF K (upd F2 a (.dK ks)) vs ds
  | _, _, _, .nil, _ => .nil
  | _, _, _, .cons h t, .cons g u => .cons (h.back h0 hd g) (t.back h0 hd u)
theorem RepT.back (h0 : F a = some (.dK ks)) (hd : F2 a = some (zO od ks)) : ∀ {vs vs' : List (List Key × V)} {ds : List (List Key × D)}, RepT K F2 vs ds → RepT K F vs' ds → RepT K (upd F2 a (.dK ks)) vs ds
  | _, _, _, .nil, _ => .nil
  | _, _, _, .cons h t, .cons g u => .cons (h.back h0 hd g) (t.back h0 hd u)
theorem RepK.back (h0 : F a = some (.dK ks)) (hd : F2 a = some (zO od ks)) : ∀ {vs vs' : List (Key × V)} {ds : List (Key × D)}, RepK K F2 vs ds → RepK K F vs' ds → RepK K (upd F2 a (.dK ks)) vs ds
  | _, _, _, .nil, _ => .nil
  | _, _, _, .cons h t, .cons g u => .cons (h.back h0 hd g) (t.back h0 hd u)
end
theorem at_drop {F3 : Hp} (hd : F2 a = some (zO od ks)) (hF : ∀ b, b ≠ a → F3 b = F2 b) {p : Addr} {u : HO} (n : u ≠ zO od ks) (h : F2 p = some u) : F3 p = some u := by
  rw [hF p (fun e => by rw [e, hd] at h; exact n (Option.some.inj h).symm)]; exact h
theorem rd_drop {F3 : Hp} (hd : F2 a = some (zO od ks)) (hF : ∀ b, b ≠ a → F3 b = F2 b) {p : Addr} {vs : List V} (s : Rd F2 p (.lst vs)) : Rd F3 p (.lst vs) := by
  rcases s with s | ⟨o, s⟩
  · exact .inl (at_drop hd hF ne_l2 s)
  · exact .inr ⟨o, at_drop hd hF (fun z => nomatch z) s⟩
theorem rd_dropT {F3 : Hp} (hd : F2 a = some (zO od ks)) (hF : ∀ b, b ≠ a → F3 b = F2 b) {p : Addr} {vs : List V} (s : Rd F2 p (.tup vs)) : Rd F3 p (.tup vs) := by
  rcases s with s | ⟨o, s⟩
  · exact .inl (at_drop hd hF ne_t2 s)
  · exact .inr ⟨o, at_drop hd hF (fun z => nomatch z) s⟩
mutual
/-- what has no dict within stands behind the lock -/
theorem Rep.dropK {F3 : Hp} (hd : F2 a = some (zO od ks)) (hF : ∀ b, b ≠ a → F3 b = F2 b) : ∀ {v : V} {d : D}, Rep K F2 v d → d.noK = true → Rep K F3 v d
  | _, _, .non, _ => .non
  | _, _, .bl b, _ => .bl b
  | _, _, .int i, _ => .int i
  | _, _, .str k, _ => .str k
  | _, _, .ty n, _ => .ty n
  | _, _, .adr a, _ => .adr a
  | _, _, .lst s h, n => .lst (at_drop hd hF ne_l2 s) (h.dropK hd hF n)
  | _, _, .ro s h, n => .ro (s.imp (rd_drop hd hF) id) (h.dropK hd hF n)
  | _, _, .ktp s h, n => .ktp (s.imp (rd_dropT hd hF) id) (h.dropK hd hF n)
  | _, _, .tup s h, n => .tup (at_drop hd hF ne_t2 s) (h.dropK hd hF n)
  | _, _, .rot s hc hd' h, n => .rot (at_drop hd hF ne_r2 s) hc hd' (h.dropK hd hF n)
  | _, _, .obj s h, n => .obj (at_drop hd hF ne_i2 s) (h.dropK hd hF n)
  | _, _, .dT _ _, h => nomatch h
  | _, _, .dK _ _, h => nomatch h
  | _, _, .exc0, h => nomatch h
  | _, _, .exc _ _, h => nomatch h
  | _, _, .gho _, h => nomatch h
  | _, _, .lkd _ _, h => nomatch h
theorem RepL.dropK {F3 : Hp} (hd : F2 a = some (zO od ks)) (hF : ∀ b, b ≠ a → F3 b = F2 b) : ∀ {vs : List V} {ds : List D}, RepL K F2 vs ds → noKL ds = true → RepL K F3 vs ds
  | _, _, .nil, _ => .nil
  | _, _, .cons h t, n => .cons (h.dropK hd hF (Bool.and_eq_true _ _ ▸ n).1) (t.dropK hd hF (Bool.and_eq_true _ _ ▸ n).2)
theorem RepF.dropK {F3 : Hp} (hd : F2 a = some (zO od ks)) (hF : ∀ b, b ≠ a → F3 b = F2 b) : ∀ {vs : List (Str × V)} {ds : List (Str × D)}, RepF K F2 vs ds → noKF ds = true → RepF K F3 vs ds
  | _, _, .nil, _ => .nil
  | _, _, .cons h t, n => .cons (h.dropK hd hF (Bool.and_eq_true _ _ ▸ n).1) (t.dropK hd hF (Bool.and_eq_true _ _ ▸ n).2)
end
end
/-! ### the state -/
section
variable {K : PySem.W.Frag} {c : Fc} {F F2 H H2 : Hp} {ow ow2 : Addr → Option Hold} {δ δ2 : DSt} {tmp tmp2 : List (V × DV)} {σ σ2 : L2.St} {a : Addr} {od : Obj} {ks : List (Key × V)}
end
/-! ### a statement while a dict is locked -/
section
variable {X : Cx} {c : Fc} {W : WX}
/-! ### walked -/
/-! ### an expression while an own dict is locked -/
def hidO (x : Option DV) : Option DV := match x with | some (.own _) => none | y => y
def hid (δ : DSt) : DSt := δ.map hidO
theorem hid_at {δ : DSt} {i : Nat} {x : DV} (h : (hid δ)[i]? = some (some x)) : ∃ d, x = .d d ∧ δ[i]? = some (some (.d d)) := by
  unfold hid at h
  rw [List.getElem?_map] at h
  cases q : δ[i]? with
  | none => rw [q] at h; cases h
  | some y =>
    rw [q] at h
    have h : hidO y = some x := Option.some.inj h
    cases y with
    | none => cases h
    | some y =>
      cases y with
      | d z => cases h; exact ⟨z, rfl, rfl⟩
      | own o => cases h
end
/-! ### list(d) -/
end DL
namespace DR
open PySem PySem.Spec PyProof.Rows L2 DL
variable {δ : DSt} {Q : DK} {E : XD}
end DR

set_option Elab.async false
set_option linter.all false
set_option maxRecDepth 100000
/-! DL79: a loop's target that unpacks tuples or lists -/
namespace DL
open PySem PySem.Spec PyProof.Rows L2
end DL
namespace DR
open PySem PySem.Spec PyProof.Rows L2 DL
end DR

set_option Elab.async false
set_option linter.all false
set_option maxRecDepth 100000
/-! DL80: readings of DL77 -/
namespace DR
open PySem PySem.Spec PyProof.Rows L2 DL
section
variable {δ : DSt} {cs : Cells} {Q : DV → DSt → Cells → Prop} {E : XD} {D : EndsC}
end
end DR

set_option Elab.async false
set_option linter.all false
set_option maxRecDepth 100000
/-! DL81: tuples of the module (a default, a constant) -/
namespace DL
open PySem PySem.Spec PyProof.Rows L2
section
variable {X : Cx} {c : Fc} {W : WX}
end
end DL
namespace DR
open PySem PySem.Spec PyProof.Rows L2 DL
variable {δ : DSt} {Q : List DL.D → DSt → Prop} {E : XD}
end DR

set_option Elab.async false
set_option linter.all false
set_option maxRecDepth 100000
/-! DL82: o.m(.., k = v) -/
namespace DL
open PySem PySem.Spec PyProof.Rows L2
section
variable {X : Cx} {k n : Nat} {f C : Addr} {fd : FuncData} {ps ks : List Str} {sp : Sp} {E : L2.St → XK} {m : Str} {pos apos : Pos} {e o : Expr} {es : List Expr} {kws : List Keyword} {t tk : TA} {to : TE} {gU : List Value → List Value → List Value} {gV : List V → List V → List V}
end
section
variable {X : Cx} {c : Fc} {W : WX} {k n : Nat} {f C : Addr} {fd : FuncData} {ps ks : List Str} {sd : SpD} {m : Str} {pos apos : Pos} {e o : Expr} {es : List Expr} {kws : List Keyword} {to : TD} {ta tk : TDA} {gU : List Value → List Value → List Value}
end
end DL
namespace DR
open PySem PySem.Spec PyProof.Rows L2 DL
end DR

set_option Elab.async false
set_option linter.all false
set_option maxRecDepth 100000
set_option maxHeartbeats 4000000
/-! DL83: lists within lists that change: cells made by an expression, looked at while an expression runs, written through an alias -/
namespace DL
open PySem PySem.Spec PyProof.Rows L2
mutual
/-- no list within -/
def D.noL : D → Bool
  | .lst _ => false
  | .ro _ => false
  | .tup xs => noLL xs
  | .rot xs => noLL xs
  | .ktp xs => noLL xs
  | .obj _ fs => noLF fs
  | .dT _ => false
  | .dK kvs => noLK kvs
  | .exc _ _ _ _ _ => false
  | .gho _ _ => false
  | .lkd _ _ _ _ => false
  | _ => true
def noLL : List D → Bool
  | [] => true
  | d :: ds => d.noL && noLL ds
def noLF : List (Str × D) → Bool
  | [] => true
  | (_, d) :: ds => d.noL && noLF ds
def noLK : List (Key × D) → Bool
  | [] => true
  | (_, d) :: ds => d.noL && noLK ds
end
section
variable {K : PySem.W.Frag} {F F' : Hp} {L : List Addr}
/-- all at L are lists, F' has the rest -/
structure DropL (F F' : Hp) (L : List Addr) : Prop where
  ls : ∀ a ∈ L, ∃ vs, F a = some (.lst vs)
  at_ : ∀ b, b ∉ L → F' b = F b
theorem DropL.keep (q : DropL F F' L) {p : Addr} {u : HO} (n : ∀ vs, u ≠ .lst vs) (h : F p = some u) : F' p = some u := by
  rw [q.at_ p fun z => by obtain ⟨vs, e⟩ := q.ls p z; rw [h] at e; exact n vs (Option.some.inj e)]
  exact h
theorem DropL.rd (q : DropL F F' L) {p : Addr} {u : HO} (n : ∀ vs, u ≠ .lst vs) (h : Rd F p u) : Rd F' p u := by
  rcases h with h | ⟨o, h⟩
  · exact .inl (q.keep n h)
  · exact .inr ⟨o, q.keep (fun vs z => nomatch z) h⟩
theorem nl_t {vs : List V} : ∀ us, HO.tup vs ≠ .lst us := fun _ z => nomatch z
theorem nl_f {o : Obj} {u : HO} : ∀ us, HO.frz o u ≠ .lst us := fun _ z => nomatch z
theorem nl_i {C d : Addr} {vs : List (Str × V)} : ∀ us, HO.ins C d vs ≠ .lst us := fun _ z => nomatch z
theorem nl_k {vs : List (Key × V)} : ∀ us, HO.dK vs ≠ .lst us := fun _ z => nomatch z
mutual
theorem Rep.dropL (q : DropL F F' L) : ∀ {v : V} {d : D}, Rep K F v d → d.noL = true → Rep K F' v d
  | _, _, .non, _ => .non
  | _, _, .bl b, _ => .bl b
  | _, _, .int i, _ => .int i
  | _, _, .str k, _ => .str k
  | _, _, .ty n, _ => .ty n
  | _, _, .adr a, _ => .adr a
  | _, _, .lst _ _, n => nomatch n
  | _, _, .ro _ _, n => nomatch n
  | _, _, .tup s h, n => .tup (q.keep nl_t s) (h.dropL q n)
  | _, _, .rot s hc hd' h, n => .rot (q.keep nl_f s) hc hd' (h.dropL q n)
  | _, _, .ktp s h, n => .ktp (s.imp (q.rd nl_t) id) (h.dropL q n)
  | _, _, .obj s h, n => .obj (q.keep nl_i s) (h.dropL q n)
  | _, _, .dT _ _, h => nomatch h
  | _, _, .dK s h, n => .dK (q.rd nl_k s) (h.dropL q n)
  | _, _, .exc0, h => nomatch h
  | _, _, .exc _ _, h => nomatch h
  | _, _, .gho _, h => nomatch h
  | _, _, .lkd _ _, h => nomatch h
theorem RepL.dropL (q : DropL F F' L) : ∀ {vs : List V} {ds : List D}, RepL K F vs ds → noLL ds = true → RepL K F' vs ds
  | _, _, .nil, _ => .nil
  | _, _, .cons h t, n => .cons (h.dropL q (Bool.and_eq_true _ _ ▸ n).1) (t.dropL q (Bool.and_eq_true _ _ ▸ n).2)
theorem RepF.dropL (q : DropL F F' L) : ∀ {vs : List (Str × V)} {ds : List (Str × D)}, RepF K F vs ds → noLF ds = true → RepF K F' vs ds
  | _, _, .nil, _ => .nil
  | _, _, .cons h t, n => .cons (h.dropL q (Bool.and_eq_true _ _ ▸ n).1) (t.dropL q (Bool.and_eq_true _ _ ▸ n).2)
theorem RepK.dropL (q : DropL F F' L) : ∀ {vs : List (Key × V)} {ds : List (Key × D)}, RepK K F vs ds → noLK ds = true → RepK K F' vs ds
  | _, _, .nil, _ => .nil
  | _, _, .cons h t, n => .cons (h.dropL q (Bool.and_eq_true _ _ ▸ n).1) (t.dropL q (Bool.and_eq_true _ _ ▸ n).2)
end
def IsLst (o : OC) : Prop := ∃ ds, o = .lst ds
end
section
variable {X : Cx} {c : Fc} {W : WX}
theorem region_out {K : PySem.W.Frag} {F F1 F2 H H' : Hp} {ow2 : Addr → Option Hold} {δ' : DSt} {σ' : L2.St} {L : List Addr} {tmp : List (V × DV)} (s1 : Same F F1) (hL : ∀ a ∈ L, F a = none ∧ ∃ vs, F1 a = some (.lst vs)) (f2 : ∀ b, b ∉ L → F1 b = F b) (S2 : SttF K ⟨[], [], F1, H⟩ F2 ow2 δ' tmp σ' H') :
    ∃ F'' : Hp, Ext F H F'' H' ∧ DropL F2 F'' L ∧ ∀ b, F2 b = none → F'' b = none := by
  obtain ⟨F'', eF⟩ : ∃ F'' : Hp, F'' = fun b => if b ∈ L then none else F2 b := ⟨_, rfl⟩
  have g1 : ∀ b, b ∈ L → F'' b = none := fun b h => by rw [eF]; exact if_pos h
  have g2 : ∀ b, b ∉ L → F'' b = F2 b := fun b h => by rw [eF]; exact if_neg h
  refine ⟨F'', ⟨fun b u e => ?_, fun b u e => S2.fr b u e (fun z => nomatch z), fun b u e => ?_, fun b hb => ?_⟩, ⟨fun a ha => ?_, g2⟩, fun b e => ?_⟩
  · have hb : b ∉ L := fun z => by rw [(hL b z).1] at e; cases e
    rw [g2 b hb]
    exact S2.f0 b u (s1 b u e)
  · by_cases h : b ∈ L
    · rw [g1 b h] at e; cases e
    · rw [g2 b h] at e; exact S2.fh _ _ e
  · by_cases h : b ∈ L
    · rw [g1 b h] at hb; exact (hb rfl).elim
    · rw [g2 b h] at hb
      rcases S2.fn b hb with z | z
      · exact .inl (by rw [← f2 b h]; exact z)
      · exact .inr z
  · obtain ⟨_, vs, e⟩ := hL a ha
    exact ⟨vs, S2.f0 a _ e⟩
  · by_cases h : b ∈ L
    · exact g1 b h
    · rw [g2 b h]; exact e
/-- what an expression makes becomes a cell -/
def cellE (t : TD) : TDc := fun δ cs Q E => t δ (fun y δ1 => ∃ o, y = .own o ∧ ∀ a, a ∉ cs.map (·.1) → Q (.d (.adr a)) δ1 ((a, o) :: cs)) E
theorem pec_cell {e : Expr} {t : TD} (he : PE X e (LE X.K c W t)) : PE X e (LEc X.K c W (cellE t)) :=
  PE_imp he fun σ H Q ⟨δ, cs, pre, tmp, Qd, Ed, S, q, k, w⟩ => ⟨δ, _, _, _, S, q, fun v y δ1 H1 ⟨o, ey, q1⟩ ⟨F, ow, S1⟩ => by
    subst ey
    obtain ⟨a', e0, ea, _⟩ := S1.tm.1
    subst e0
    have hfr : a' ∉ cs.map (·.1) := fun h => by
      obtain ⟨⟨b, o2⟩, hm, e⟩ := List.mem_map.mp h
      have e : b = a' := e
      subst e
      obtain ⟨k, hk, p', e0, eb, _⟩ := RepTmp.own S1.tm.2 (List.mem_append_right pre (List.mem_append_left tmp (List.mem_map.mpr ⟨(b, o2), hm, rfl⟩)))
      cases e0
      rw [ea] at eb
      cases eb
      exact Nat.lt_irrefl _ hk
    obtain ⟨ow2, S2⟩ := SttF.sink (A := pre) (B := stk cs ++ tmp) S1
    exact k _ _ _ ((a', o) :: cs) _ (q1 a' hfr) ⟨F, ow2, S2.push (.adr a')⟩, (w.app _).app _⟩
end
end DL
namespace DR
open PySem PySem.Spec PyProof.Rows L2 DL
section
variable {δ : DSt} {cs : Cells} {Q : DV → DSt → Cells → Prop} {E : XD} {D : EndsC}
theorem cellE {t : TD} (h : t δ (fun y δ1 => ∃ o, y = .own o ∧ ∀ a, a ∉ cs.map (·.1) → Q (.d (.adr a)) δ1 ((a, o) :: cs)) E) : DL.cellE t δ cs Q E := h
end
end DR

set_option Elab.async false
set_option linter.all false
set_option maxRecDepth 100000
/-! DL84: text.upper() -/
namespace DL
open PySem PySem.Spec PyProof.Rows L2
section
variable {X : Cx} {c : Fc} {W : WX}
end
end DL
namespace DR
open PySem PySem.Spec PyProof.Rows L2 DL
end DR

set_option Elab.async false
set_option linter.all false
set_option maxRecDepth 100000
/-! t[lo:hi] of a tuple, the whole of it or not -/
namespace DL
open PySem PySem.Spec PyProof.Rows L2
abbrev sliceTA : RDS := fun a lo hi Q => ∃ xs, a = .tup xs ∧ Q (.d (.tup (cutD xs lo hi)))
theorem cut_whole {xs : List D} {lo hi : Option Int} (h : HT.sIx xs.length 0 lo = 0 ∧ HT.sIx xs.length xs.length hi = xs.length) : cutD xs lo hi = xs := by
  unfold cutD
  rw [h.1, h.2, List.drop_zero, Nat.sub_zero, List.take_length]
theorem sld_tupA {K : PySem.W.Frag} : SlD K (rSlA K) sliceTA := fun x a lo hi F H Q Qd s r ⟨xs, e, q⟩ k => by
  subst e
  cases r with
  | tup s1 r1 =>
    refine ⟨_, _, rfl, SqT.of (s _ _ s1), fun w => ?_, fun w p n => k _ _ _ _ q (made_tup n s (r1.cut lo hi))⟩
    rw [r1.len] at w
    exact k _ _ _ _ q (by rw [cut_whole w]; exact made_d s (.tup s1 r1))
theorem pd_sliceTA {X : Cx} {c : Fc} {W : WX} {e : Expr} {lo hi : Option Expr} {t : TD} {tl th : TDO} {p2 pos : Pos} (he : PE X e (LE X.K c W t)) (hl : PO X lo (LO X.K c W tl)) (hh : PO X hi (LO X.K c W th)) : PE X (.Subscript e (.Slice lo hi none p2) pos) (LE X.K c W (sliceD sliceTA t tl th)) := pd_sliceR sl_tupA sld_tupA he hl hh
end DL

set_option Elab.async false
set_option linter.all false
set_option maxRecDepth 100000
set_option maxHeartbeats 4000000
/-! DL86: a slice of an own list, which stays own; a guarded def's lent lists -/
namespace DL
open PySem PySem.Spec PyProof.Rows L2
section
variable {X : Cx} {c : Fc} {W : WX}
end
end DL
namespace DR
open PySem PySem.Spec PyProof.Rows L2 DL
section
variable {δ : DSt} {Q : DK} {E : XD}
end
end DR

set_option Elab.async false
set_option linter.all false
set_option maxRecDepth 100000
set_option maxHeartbeats 4000000
/-! DL87: text.index(sign) -/
namespace DL
open PySem PySem.Spec PyProof.Rows L2
section
variable {X : Cx} {c : Fc} {W : WX}
def isStr : DV → Prop := fun x => ∃ a, x.toD = .str a
def sindexD (to te : TD) : TD := fun δ Q E => to δ (fun x δ1 => isStr x ∧ te δ1 (fun y δ2 => ∃ a b i rest, x.toD = .str a ∧ y.toD = .str b ∧ Builtin.Str.occurrences a b 0 a.length 1 = i :: rest ∧ Q (.d (.int (i : Nat))) δ2) E) E
theorem pd_sindex {o e : Expr} {to te : TD} {apos pos : Pos} (ho : PE X o (LE X.K c W to)) (he : PE X e (LE X.K c W te)) (hs : starEach [e] X.env = [(false, eval e X.env)] := by rfl) (hbase : attributeBase o "index" X.env (eval o X.env) = eval o X.env := by rfl) (hline : (apos.endLine == pos.line) = true := by rfl) :
    PE X (.Call (.Attribute o "index" apos) [e] [] pos) (LE X.K c W (sindexD to te)) :=
  PE_imp (pe_m1 F.slot_str_index F.type_str_index mt_sindex ho he hs hbase hline) fun σ H Q ⟨δ, tmp, Qd, Ed, S, t, k, w⟩ => ⟨δ, tmp, _, Ed, S, t, fun v x δ1 H1 ⟨⟨a, ea⟩, t1⟩ ⟨F, ow, S1⟩ => by
    obtain ⟨F', S2, _⟩ := S1.top_frz
    rw [ea] at S2
    have r := S2.top
    cases r with
    | str k1 =>
      refine ⟨⟨a, rfl⟩, δ1, _, _, Ed, ⟨F', ow, S2⟩, t1, fun u y δ2 H2 ⟨a2, b, i, rest, e1, e2, ho, q⟩ ⟨F3, ow3, S3⟩ => ?_, w.push⟩
      obtain ⟨F4, S4, _⟩ := S3.top_frz
      rw [e2] at S4
      have r2 := S4.top
      rw [ea] at e1
      cases e1
      cases r2 with
      | str k2 => exact ⟨a, b, i, rest, rfl, rfl, ho, k _ _ _ _ q ⟨F4, ow3, S4.pop.pop.push (.int _)⟩⟩, w⟩
end
end DL
namespace DR
open PySem PySem.Spec PyProof.Rows L2 DL
theorem sindex {δ : DSt} {Q : DK} {E : XD} {to te : TD} (h : to δ (fun x δ1 => isStr x ∧ te δ1 (fun y δ2 => ∃ a b i rest, x.toD = .str a ∧ y.toD = .str b ∧ Builtin.Str.occurrences a b 0 a.length 1 = i :: rest ∧ Q (.d (.int (i : Nat))) δ2) E) E) : sindexD to te δ Q E := h
/-- where a letter stands -/
theorem occ_abc : ∀ i : Fin 26, Builtin.Str.occurrences "abcdefghijklmnopqrstuvwxyz" ⟨#[97 + i.val]⟩ 0 26 1 = [i.val] := by decide +kernel
end DR

set_option Elab.async false
set_option linter.all false
set_option maxRecDepth 100000
set_option maxHeartbeats 4000000
/-! DL88: cells of any expression, expressions by a test over cells, tuples of a cell's items, calls and tests that look through the cells -/
namespace DL
open PySem PySem.Spec PyProof.Rows L2
section
variable {X : Cx} {c : Fc} {W : WX}
/-- what an expression with cells makes becomes a cell -/
def cellC (t : TDc) : TDc := fun δ cs Q E => t δ cs (fun y δ1 cs1 => ∃ o, y = .own o ∧ ∀ a, a ∉ cs1.map (·.1) → Q (.d (.adr a)) δ1 ((a, o) :: cs1)) E
theorem pec_cellC {e : Expr} {t : TDc} (he : PE X e (LEc X.K c W t)) : PE X e (LEc X.K c W (cellC t)) :=
  PE_imp he fun σ H Q ⟨δ, cs, pre, tmp, Qd, Ed, S, q, k, w⟩ => ⟨δ, cs, pre, tmp, _, _, S, q, fun v y δ1 cs1 H1 ⟨o, ey, q1⟩ ⟨F, ow, S1⟩ => by
    subst ey
    obtain ⟨a', e0, ea, _⟩ := S1.tm.1
    subst e0
    have hfr : a' ∉ cs1.map (·.1) := fun h => by
      obtain ⟨⟨b, o2⟩, hm, e⟩ := List.mem_map.mp h
      have e : b = a' := e
      subst e
      obtain ⟨k, hk, p', e0, eb, _⟩ := RepTmp.own S1.tm.2 (List.mem_append_right pre (List.mem_append_left tmp (List.mem_map.mpr ⟨(b, o2), hm, rfl⟩)))
      cases e0
      rw [ea] at eb
      cases eb
      exact Nat.lt_irrefl _ hk
    obtain ⟨ow2, S2⟩ := SttF.sink (A := pre) (B := stk cs1 ++ tmp) S1
    exact k _ _ _ ((a', o) :: cs1) _ (q1 a' hfr) ⟨F, ow2, S2.push (.adr a')⟩, w⟩
def ifExpC (c : TDTc) (t u : TDc) : TDc := fun δ cs Q E => c δ cs (fun b δ1 cs1 => if b = true then t δ1 cs1 Q E else u δ1 cs1 Q E) E
theorem pec_ifExp {e a b : Expr} {tc : TDTc} {t u : TDc} {pos : Pos} (hc : PT X e (LTc X.K c W tc)) (ha : PE X a (LEc X.K c W t)) (hb : PE X b (LEc X.K c W u)) : PE X (.IfExp e a b pos) (LEc X.K c W (ifExpC tc t u)) :=
  PE_imp (pe_ifExp hc ha hb) fun σ H Q ⟨δ, cs, pre, tmp, Qd, Ed, S, q, k, w⟩ => ⟨δ, cs, pre, tmp, _, _, S, q, fun b δ' cs' H' q' S' => by
    cases b
    · exact ⟨δ', cs', pre, tmp, Qd, Ed, S', q', k, w⟩
    · exact ⟨δ', cs', pre, tmp, Qd, Ed, S', q', k, w⟩, w⟩
/-- all cells are looked at -/
theorem regionA {K : PySem.W.Frag} {c : Fc} {F H : Hp} {ow : Addr → Option Hold} {δ : DSt} {σ : L2.St} {cs : Cells} {pre tmp : List (V × DV)} (S : SttF K c F ow δ (pre ++ (stk cs ++ tmp)) σ H) (lc : ∀ a o', (a, o') ∈ cs → IsLst o') :
    ∃ (L : List Addr) (F1 : Hp), Same F F1 ∧ Same F1 H ∧ (∀ a ∈ L, F a = none ∧ ∃ vs, F1 a = some (.lst vs)) ∧ (∀ b, b ∉ L → F1 b = F b) ∧ ∀ a o', (a, o') ∈ cs → Rep K F1 (.ref a) o'.toD := by
  let L : List Addr := cs.map (·.1)
  have ht := S.tm
  have hc : ∀ a o', (a, o') ∈ cs → F a = none ∧ OwnRep K F H a o' := fun a o' hm => by
    obtain ⟨k, _, q⟩ := RepTmp.own ht (List.mem_append_right pre (List.mem_append_left tmp (List.mem_map.mpr ⟨(a, o'), hm, rfl⟩)))
    obtain ⟨p', e0, _, b, _, r⟩ := q
    cases e0
    exact ⟨b, r⟩
  have isl : ∀ {a : Addr} {o : OC}, IsLst o → OwnRep K F H a o → ∃ vs, H a = some (.lst vs) := fun {a o} h r => by
    obtain ⟨ds, rfl⟩ := h
    obtain ⟨vs, e, _⟩ := r
    exact ⟨vs, e⟩
  have hL : ∀ a ∈ L, F a = none ∧ ∃ vs, H a = some (.lst vs) := fun a ha => by
    obtain ⟨⟨a', o'⟩, hm, rfl⟩ := List.mem_map.mp ha
    obtain ⟨b, r⟩ := hc _ _ hm
    exact ⟨b, isl (lc _ _ hm) r⟩
  let F1 : Hp := fun b => if b ∈ L then H b else F b
  have f1 : ∀ b, b ∈ L → F1 b = H b := fun b h => if_pos h
  have f2 : ∀ b, b ∉ L → F1 b = F b := fun b h => if_neg h
  have s1 : Same F F1 := fun b u e => by
    by_cases h : b ∈ L
    · rw [(hL b h).1] at e; cases e
    · rw [f2 b h]; exact e
  have s2 : Same F1 H := fun b u e => by
    by_cases h : b ∈ L
    · rw [f1 b h] at e; exact e
    · rw [f2 b h] at e; exact S.fh _ _ e
  exact ⟨L, F1, s1, s2, fun a ha => ⟨(hL a ha).1, by rw [f1 a ha]; exact (hL a ha).2⟩, f2, fun a o' hm => (hc a o' hm).2.rep (f1 a (List.mem_map.mpr ⟨(a, o'), hm, rfl⟩)) s1⟩
/-- the slots as they are seen through the cells -/
def FillS (K : PySem.W.Frag) (cs : Cells) (δ δ' : DSt) : Prop := δ'.length = δ.length ∧ ∀ (i : Nat) (x : DV), δ'[i]? = some (some x) → ∃ d y, x = .d y ∧ δ[i]? = some (some (.d d)) ∧ Fill K cs d y
theorem FillS.hid {K : PySem.W.Frag} {cs : Cells} {δ : DSt} : FillS K cs δ (hid δ) := ⟨by unfold DL.hid; rw [List.length_map], fun i x h => by
  obtain ⟨d, rfl, e⟩ := hid_at h
  exact ⟨d, d, rfl, e, .refl⟩⟩
theorem FillS.set {K : PySem.W.Frag} {cs : Cells} {δ δ' : DSt} (h : FillS K cs δ δ') {i : Nat} {d y : D} (e : δ[i]? = some (some (.d d))) (hf : Fill K cs d y) : FillS K cs δ (δ'.set i (some (.d y))) := ⟨by rw [List.length_set]; exact h.1, fun j x hx => by
  by_cases z : i = j
  · subst z
    have hi : i < δ'.length := by rw [h.1]; exact set_lt e
    rw [List.getElem?_set_self hi] at hx
    cases hx
    exact ⟨d, y, rfl, e, hf⟩
  · rw [List.getElem?_set_ne z] at hx
    exact h.2 j x hx⟩
theorem regionA_in {K : PySem.W.Frag} {c : Fc} {F F1 H : Hp} {ow : Addr → Option Hold} {δ δ' : DSt} {σ : L2.St} {cs : Cells} {tmp : List (V × DV)} (S : SttF K c F ow δ tmp σ H) (s1 : Same F F1) (s2 : Same F1 H) (hc : ∀ a o', (a, o') ∈ cs → Rep K F1 (.ref a) o'.toD) (hf : FillS K cs δ δ') :
    SttF K ⟨[], [], F1, H⟩ F1 (fun _ => none) δ' [] σ H := by
  refine ⟨s2, Same.refl _, fun a h => .inl h, fun a o h _ => h, fun a h => h, by rw [hf.1]; exact S.len, fun j x hx => ?_, True.intro, fun k i p z => by cases z⟩
  obtain ⟨d, y, rfl, e, hy⟩ := hf.2 j x hx
  obtain ⟨u, e2, ru⟩ := S.sl j _ e
  exact ⟨u, e2, hy F1 u hc (Rep.mono s1 ru)⟩
/-- a test while all is seen through the cells -/
def viewTA (K : PySem.W.Frag) (t : TDT) : TDTc := fun δ cs Q _ => ∃ δ', (∀ a o', (a, o') ∈ cs → IsLst o') ∧ FillS K cs δ δ' ∧ t δ' (fun b _ => Q b δ cs) (fun _ _ => False)
theorem ptc_viewA {K : PySem.W.Frag} {e : Expr} {t : TDT} (h : ∀ F0 H0, PT X e (LT X.K ⟨[], [], F0, H0⟩ W t)) (hK : X.K = K := by rfl) : PT X e (LTc X.K c W (viewTA K t)) := by
  subst hK
  have hu : PT X e fun σ H Q => ∃ F0 H0, LT X.K ⟨[], [], F0, H0⟩ W t σ H Q := ⟨fun pins s σ H Q I ⟨F0, H0, q⟩ => (h F0 H0).run pins s σ H Q I q⟩
  refine PT_imp hu fun σ H Q ⟨δ, cs, pre, tmp, Qd, Ed, ⟨F, ow, S⟩, ⟨δ', lc, hf, q⟩, k, w⟩ => ?_
  obtain ⟨L, F1, s1, s2, hL, f2, hc⟩ := regionA S lc
  refine ⟨F1, H, δ', [], _, _, ⟨F1, _, regionA_in S s1 s2 hc hf⟩, q, ?_, fun x δ' σ' H' F' ow' cls d z => z.elim⟩
  rintro b δ2 H' q' ⟨F2, ow2, S2⟩
  obtain ⟨F'', ext, dr, _⟩ := region_out s1 hL f2 S2
  exact k _ _ _ _ q' ⟨F'', ow, S.ext ext⟩
/-- C(e), e seen through the cells; the new object holds no list -/
def newV (K : PySem.W.Frag) (C : Addr) (dd : List D) (sd : SpD) (te : TDc) : TDc := fun δ cs Q E => te δ cs (fun x δ1 cs1 => ∃ a y, x = .d a ∧ (∀ a o', (a, o') ∈ cs1 → IsLst o') ∧ Fill K cs1 a y ∧
  sd (.own (.ins C []) :: ([y] ++ [] ++ dd).map .d) (fun r os => r = .d .non ∧ ∃ fs os', os = .ins C fs :: os' ∧ ((D.obj C fs).noL = true ∧ Q (.d (.obj C fs)) δ1 cs1)) (fun _ os => ∃ o os', os = o :: os' ∧ False)) E
theorem pec_newV {K : PySem.W.Frag} {k : Nat} {f C : Addr} {fd : FuncData} {ps : List Str} {sd : SpD} {x : Str} {p pos : Pos} {e : Expr} {te : TDc} {gU : List Value → List Value → List Value} {gV : List V → List V → List V} {dv : List V} {dd : List D} (M : Mk X.K C f) (G : FnOk X.prog X.w X.K X.mg X.base (L2.CX X.prog X.w) k f fd ps (spOf X.K sd)) (hr : Room (k + 1) X.A) (hg : Gl X x) (hm : X.mg x = some (.ref C)) (kb : KBn X.K fd ps (1 + 1) [] gU gV) (hd : ∀ F, RepL X.K F dv dd) (hv : ∀ v vs zs, gV (v :: vs) zs = v :: (vs ++ zs ++ dv)) (tk0 : Takes X W)
    (ha : PE X e (LEc X.K c W te)) (hK : X.K = K := by rfl)
    (hall : (backToKw pos (keywordEach [] X.env)).all (·.1.isSome) = true := by rfl) (hks : (backToKw pos (keywordEach [] X.env)).filterMap (·.1) = [] := by rfl) (hdb : (x == ("__debug__" : Str)) = false := by decide)
    (he : starEach [e] X.env = (false, eval e X.env) :: starEach [] X.env := by rfl) (hpl : ((backTo pos (starEach [e] X.env)).any (·.1) || (backToKw pos (keywordEach [] X.env)).any (·.1.isNone)) = false := by rfl) :
    PE X (.Call (.Name x p) [e] [] pos) (LEc X.K c W (newV K C dd sd te)) := by
  subst hK
  refine PE_imp (pe_newK (E := WE W) M G hr hg hm kb (fun τ => passAt tk0 τ) (pa_cons ha pa_nil he) pk_nil hall hks hdb he hpl) fun σ H Q ⟨δ, cs, pre, tmp, Qd, Ed, S, q, k, w⟩ => ?_
  refine ⟨δ, cs, pre, tmp, _, Ed, S, q, fun v z δ1 cs1 H1 ⟨a, y, ez, lc, hf, sp⟩ ⟨F, ow, S1⟩ => ?_, w⟩
  subst ez
  show ([v] : List V).length = 1 ∧ ([] : List V).length = 0 ∧ _
  refine ⟨rfl, rfl, fun o dx no ndx ne => ?_⟩
  rw [hv]
  have ra : Rep X.K F v a := S1.tm.1
  have S0 := S1.pop
  obtain ⟨L, F1, s1, s2, hL, f2, hc⟩ := regionA S0 lc
  have ry : Rep X.K F1 v y := hf F1 v hc (Rep.mono s1 ra)
  have Sr := regionA_in S0 s1 s2 hc (FillS.hid (K := X.K) (cs := cs1) (δ := δ1))
  have rall : RepL X.K F1 ([v] ++ [] ++ dv) ([y] ++ [] ++ dd) := by
    have hdd := hd F1
    simpa using RepL.cons ry hdd
  refine lift_make (as := ([y] ++ [] ++ dd).map .d) (xs := ([y] ++ [] ++ dd).map .d) (Qd := fun r _ => match r with | .d o => o.noL = true ∧ Qd (.d o) δ1 cs1 | .own _ => False) (Ed := fun _ _ => False) Sr rall.avs argsOf_d (by rw [slots_d]; exact .nil) sp ?_ (fun x δ' σ' H' F' ow' cls d z => z.elim) o dx no ndx ne
  rintro u r δ' H' q' ⟨F2, ow2, S2⟩
  cases r with
  | own _ => exact q'.elim
  | d o =>
    obtain ⟨F'', ext, dr, _⟩ := region_out s1 hL f2 S2
    exact k _ _ _ _ _ q'.2 ⟨F'', ow, (S0.ext ext).push (Rep.dropL dr S2.top q'.1)⟩
/-- tuple(x), x an alias of a list -/
def tupA (i : Nat) : TDc := fun δ cs Q _ => ∃ (p : Addr) (ds : List D) (n : Nat), δ[i]? = some (some (.d (.adr p))) ∧ cs[n]? = some (p, OC.lst ds) ∧ Q (.d (.tup ds)) δ cs
theorem pec_tupA {i : Nat} {x y : Str} {p pos py : Pos} (h : ∀ {t : TA}, PA X [.Name y py] t → PE X (.Call (.Name x p) [.Name y py] [] pos) (tCB (fun xs H Q => ∃ p ys, xs = [.ref p] ∧ ((SqL X.K H p ys ∧ ∀ l, H l = none → Q (.ref l) (upd H l (.tup ys))) ∨ (SqT X.K H p ys ∧ Q (.ref p) H))) t)) (hv : PE X (.Name y py) (tVar i)) (hs : starEach [.Name y py] X.env = (false, eval (.Name y py) X.env) :: starEach [] X.env := by rfl) :
    PE X (.Call (.Name x p) [.Name y py] [] pos) (LEc X.K c W (tupA i)) := PE_imp (h (pa_cons hv pa_nil hs)) fun σ H Q ⟨δ, cs, pre, tmp, Qd, Ed, ⟨F, ow, S⟩, ⟨a, ds, n, ei, en, q⟩, k, w⟩ => by
  obtain ⟨v, e1, r⟩ := S.sl _ _ ei
  cases (show Rep X.K F v (.adr a) from r)
  obtain ⟨kk, _, p', e0, _, b, _, vs, ep, rl⟩ := RepTmp.own S.tm (List.mem_append_right pre (List.mem_append_left tmp (List.mem_map.mpr ⟨(a, OC.lst ds), List.mem_of_getElem? en, rfl⟩)))
  cases e0
  exact ⟨_, e1, a, vs, rfl, .inl ⟨SqL.of ep, fun l nl => k _ _ _ _ _ q ((made_tup nl S.fh rl).stt S)⟩⟩
/-- x[e], x an alias of a list -/
def ixA (i : Nat) (t : TD) : TDc := fun δ cs Q E => (∃ p, δ[i]? = some (some (.d (.adr p)))) ∧ t δ (fun k δ1 => ∃ (p : Addr) (ds : List D) (n : Nat) (j : Int) (d : D), δ1[i]? = some (some (.d (.adr p))) ∧ cs[n]? = some (p, OC.lst ds) ∧ k.toD = .int j ∧ atI ds j = some d ∧ Q (.d d) δ1 cs) E
theorem pec_ixA {i : Nat} {x : Str} {b : Expr} {t : TD} {pos px : Pos} (ha : PE X (.Name x px) (tVar i)) (hb : PE X b (LE X.K c W t)) (hs : PlainIx b) : PE X (.Subscript (.Name x px) b pos) (LEc X.K c W (ixA i t)) :=
  PE_imp (pe_ix ix_list ha hb hs) fun σ H Q ⟨δ, cs, pre, tmp, Qd, Ed, ⟨F, ow, S⟩, ⟨⟨a, ea⟩, q⟩, k, w⟩ => by
    obtain ⟨v, e1, r0⟩ := S.sl _ _ ea
    cases (show Rep X.K F v (.adr a) from r0)
    refine ⟨_, e1, δ, _, _, Ed, ⟨F, ow, S⟩, q, fun u y δ1 H1 ⟨p, ds, n, j, d, ei, en, ej, ed, q1⟩ ⟨F1, ow1, S1⟩ => ?_, (w.app _).app _⟩
    obtain ⟨F2, S2, _⟩ := S1.top_frz
    obtain ⟨v', e2, r2⟩ := S2.sl _ _ ei
    rw [e1] at e2
    cases e2
    cases (show Rep X.K F2 _ (.adr p) from r2)
    obtain ⟨kk, _, p', e0, _, b, _, vs, ep, rl⟩ := RepTmp.own S2.pop.tm (List.mem_append_right pre (List.mem_append_left tmp (List.mem_map.mpr ⟨(a, OC.lst ds), List.mem_of_getElem? en, rfl⟩)))
    cases e0
    rw [ej] at S2
    obtain ⟨z, ez, rz⟩ := rl.ats ed
    cases S2.top
    exact ⟨a, vs, j, z, rfl, rfl, SqL.of ep, ez, k _ _ _ _ _ q1 ⟨F2, ow1, S2.pop.push rz⟩⟩
/-- o[i] = e, o what an expression over cells gives -/
def putLc (te to : TDc) (ti : TD) : TDSc := fun D δ cs => te δ cs (fun v δ1 cs1 => to δ1 cs1 (fun x δ2 cs2 => ti δ2 (fun k δ3 => ∃ n a ds j m, x.toD = .adr a ∧ cs2[n]? = some (a, OC.lst ds) ∧ k.toD = .int j ∧ ixN ds.length j = some m ∧ D.nx δ3 (cs2.set n (a, OC.lst (ds.set m v.toD)))) D.ex) D.ex) D.ex
theorem psc_putLc {o i e : Expr} {te to : TDc} {ti : TD} {pos pos' : Pos} (h : ∀ {te : TE} {g : TG}, PE X e te → PG X (.Subscript o i pos') g → PS X (.Assign [.Subscript o i pos'] e pos) (tAsg te g)) (hg : ∀ {to ti : TE} {t : TSet}, PE X o to → PE X i ti → PSet X t → PG X (.Subscript o i pos') (gSub to ti t))
    (ho : PE X o (LEc X.K c W to)) (he : PE X e (LEc X.K c W te)) (hi : PE X i (LE X.K c W ti)) : PS X (.Assign [.Subscript o i pos'] e pos) (LSc X.K c W (putLc te to ti)) :=
  PS_imp (h he (hg ho hi set_list)) fun D σ H ⟨δ, cs, pre, tmp, Dd, S, q, k, kr, kb, kc, w⟩ => ⟨δ, cs, pre, tmp, _, _, S, q, fun u y δ1 cs1 H1 q1 ⟨F1, ow1, S1⟩ => by
    obtain ⟨F2, S2, _⟩ := S1.top_frz
    refine ⟨δ1, cs1, (u, .d y.toD) :: pre, tmp, _, _, ⟨F2, ow1, S2⟩, q1, fun v x δ2 cs2 H2 q2 ⟨F3, ow3, S3⟩ => ?_, w⟩
    obtain ⟨F4, S4, _⟩ := S3.top_frz
    refine ⟨δ2, _, _, _, ⟨F4, ow3, S4⟩, q2, fun t z δ3 H3 ⟨n, a, ds, j, m, ex, en, ek, em, q3⟩ ⟨F5, ow5, S5⟩ => ?_, (((w.app _).app _).push).push⟩
    obtain ⟨F6, S6, _⟩ := S5.top_frz
    rw [ek] at S6
    cases S6.top
    have rx : Rep X.K F6 v x.toD := S6.pop.top
    rw [ex] at rx
    cases rx
    have ry : Rep X.K F6 u y.toD := S6.pop.pop.top
    have S7 := S6.pop.pop.pop
    change SttF X.K c F6 ow5 δ3 (pre ++ (stk cs2 ++ tmp)) σ H3 at S7
    obtain ⟨l, r, e1, e2⟩ := cells_at en
    have es : pre ++ (stk cs2 ++ tmp) = (pre ++ stk l) ++ (V.ref a, .own (.lst ds)) :: (stk r ++ tmp) := by rw [e1]; simp [stk]
    rw [es] at S7
    obtain ⟨p', e0, _, _, _, vs, ep, rk⟩ := S7.tm.mid
    cases e0
    refine ⟨a, vs, j, m, rfl, rfl, ep, by rw [rk.len]; exact em, k _ _ _ _ q3 ⟨F6, ow5, ?_⟩⟩
    have S8 := S7.writeC (o' := .lst (ds.set m y.toD)) (ob := .lst _) ⟨_, upd_same, rk.set ry m⟩
    rw [e2]
    have es' : pre ++ (stk (l ++ (a, OC.lst (ds.set m y.toD)) :: r) ++ tmp) = (pre ++ stk l) ++ (V.ref a, .own (.lst (ds.set m y.toD))) :: (stk r ++ tmp) := by simp [stk]
    rw [es']
    exact S8, w⟩
end
end DL
namespace DR
open PySem PySem.Spec PyProof.Rows L2 DL
section
variable {δ : DSt} {cs : Cells} {Q : DV → DSt → Cells → Prop} {E : XD} {D : EndsC} {K : PySem.W.Frag}
theorem cellC {t : TDc} (h : t δ cs (fun y δ1 cs1 => ∃ o, y = .own o ∧ ∀ a, a ∉ cs1.map (·.1) → Q (.d (.adr a)) δ1 ((a, o) :: cs1)) E) : DL.cellC t δ cs Q E := h
theorem ifExpC {c : TDTc} {t u : TDc} (h : c δ cs (fun b δ1 cs1 => if b = true then t δ1 cs1 Q E else u δ1 cs1 Q E) E) : DL.ifExpC c t u δ cs Q E := h
theorem viewTA {t : TDT} {Q : Bool → DSt → Cells → Prop} {δ' : DSt} (lc : ∀ a o', (a, o') ∈ cs → IsLst o') (hf : FillS K cs δ δ') (h : t δ' (fun b _ => Q b δ cs) (fun _ _ => False)) : DL.viewTA K t δ cs Q E := ⟨δ', lc, hf, h⟩
theorem newV {C : Addr} {dd : List DL.D} {sd : SpD} {te : TDc} (h : te δ cs (fun x δ1 cs1 => ∃ a y, x = .d a ∧ (∀ a o', (a, o') ∈ cs1 → IsLst o') ∧ Fill K cs1 a y ∧
  sd (.own (.ins C []) :: ([y] ++ [] ++ dd).map .d) (fun r os => r = .d .non ∧ ∃ fs os', os = .ins C fs :: os' ∧ ((DL.D.obj C fs).noL = true ∧ Q (.d (.obj C fs)) δ1 cs1)) (fun _ os => ∃ o os', os = o :: os' ∧ False)) E) : DL.newV K C dd sd te δ cs Q E := h
theorem tupA {i n : Nat} {p : Addr} {ds : List DL.D} (ei : δ[i]? = some (some (.d (.adr p)))) (en : cs[n]? = some (p, OC.lst ds)) (h : Q (.d (.tup ds)) δ cs) : DL.tupA i δ cs Q E := ⟨p, ds, n, ei, en, h⟩
theorem ixA {i : Nat} {p : Addr} {t : TD} (ei : δ[i]? = some (some (.d (.adr p)))) (h : t δ (fun k δ1 => ∃ (p : Addr) (ds : List DL.D) (n : Nat) (j : Int) (d : DL.D), δ1[i]? = some (some (.d (.adr p))) ∧ cs[n]? = some (p, OC.lst ds) ∧ k.toD = .int j ∧ atI ds j = some d ∧ Q (.d d) δ1 cs) E) : DL.ixA i t δ cs Q E := ⟨⟨p, ei⟩, h⟩
theorem putLc {te to : TDc} {ti : TD} (h : te δ cs (fun v δ1 cs1 => to δ1 cs1 (fun x δ2 cs2 => ti δ2 (fun k δ3 => ∃ n a ds j m, x.toD = .adr a ∧ cs2[n]? = some (a, OC.lst ds) ∧ k.toD = .int j ∧ ixN ds.length j = some m ∧ D.nx δ3 (cs2.set n (a, OC.lst (ds.set m v.toD)))) D.ex) D.ex) D.ex) : DL.putLc te to ti D δ cs := h
theorem ifCC {c : TDTc} {t u : TDSc} (h : c δ cs (fun b δ1 cs1 => if b = true then t D δ1 cs1 else u D δ1 cs1) D.ex) : DL.ifC c t u D δ cs := h
theorem upE2 {t : TD} (h : t δ (fun x δ' => Q x δ' cs) E) : DL.upE t δ cs Q E := h
end
end DR

set_option Elab.async false
set_option linter.all false
set_option maxRecDepth 100000
set_option maxHeartbeats 4000000
/-! DL89: list(x) of an own object whose __iter__ walks a tuple of its own -/
namespace DL
open PySem PySem.Spec PyProof.Rows L2
/-- def __len__(self): return len(self.fld) -/
structure LenT (K : PySem.W.Frag) (C f : Addr) (qual fld : Str) (st : Stmt) (fd : FuncData) : Prop where
  at_ : PySem.W.findIn K (.ref C) "__len__" = some (some (.ref f))
  fn : PySem.W.isFn K (.ref f) = true
  fu : Fun K "__len__" qual st f fd
  sc : FnScope ["self"] ["self"] (defScope st)
  bd : Binds K fd ["self"] []
  body : ∀ (P : Program) (w : World) (mg : Str → Option Value) (base : Heap) (A : Around) (outer : List Env) (s : Shared) (G : Hp) (E : XK) (cdv : Value), mg "len" = none → ∃ t, PSs (cxOf (L2.CX P w) P w K mg base ["self"] qual (defScope st) f cdv A outer s G E) (defBody st) t ∧
    ∀ (a dx q : Addr) (us : List (Str × V)) (xs : List V) (Q : VK), G a = some (.ins C dx us) → us.lookup fld = some (.ref q) → SqT K G q xs → xs.length ≤ sizeLine → Q (.int xs.length) G → t { nx := fun _ G2 => Q .non G2, rt := Q } (start ["self"] [.ref a]) G
section
variable {X : Cx} {σ : L2.St} {pins : List (Addr × Obj)} {A1 : Around}
theorem tup_loop {Rs : Result → Shared → Prop} {t it q : Addr} {ys : List V} {H0 : Hp} (hd : A1.in1.handled = none) (hl : ys.length < sizeLine) (hdone : ∀ s, Inv X pins σ (upd H0 q (.lst ys)) s → Rs (.ok (.ret .none)) s) (ht : ∀ zs, SqT X.K (upd H0 q (.lst zs)) t ys) :
    ∀ (m i : Nat) (s : Shared), Inv X pins σ (upd H0 q (.lst (ys.take i))) s → i + m = ys.length → s.heap.IsTupleIter it t i → FpOk X pins (upd H0 q (.lst (ys.take i))) it → codeAny (model X.prog X.w) A1 (.builtin "list.extend.loop" ⟨[.ref q, .ref it, .none], []⟩) Rs s := by
  intro m
  induction m with
  | zero =>
    intro i s I hi st hf
    refine codeAny_builtin PySem.F.entry_extend_loop ?_
    rw [Around.under_plainId PySem.F.plain_extend_loop _]
    show wpAny _ A1.in1 (pyNext (.ref it) >>= _) _ _ s
    obtain ⟨its, rv, p, hz⟩ := I.tuple (ht _)
    obtain ⟨f0, f1, f2, f3, f4, f5⟩ := hf
    have hll := rv.length
    refine wpAny_bind (wpAny_pyNext_tuple_end hd st (show s.heap.IsTuple t its.toArray from p) (by simp; omega) fun h' eb => ?_)
    have I1 : Inv X pins σ (upd H0 q (.lst (ys.take i))) { s with heap := h' } := I.turned (t' := s.toks) (fun b o hb e => eb b o hb e) f0 f1 f3 f4 f5
    rw [show ys.take i = ys from by rw [List.take_of_length_le (by omega)]] at I1
    exact wpAny_pure (hdone _ I1)
  | succ m ih =>
    intro i s I hi st hf
    refine codeAny_builtin PySem.F.entry_extend_loop ?_
    rw [Around.under_plainId PySem.F.plain_extend_loop _]
    show wpAny _ A1.in1 (pyNext (.ref it) >>= _) _ _ s
    obtain ⟨its, rv, p, hz⟩ := I.tuple (ht _)
    have hf' := hf
    obtain ⟨f0, f1, f2, f3, f4, f5⟩ := hf
    have hil : i < ys.length := by omega
    obtain ⟨u, hu, ru⟩ := rv.get (List.getElem?_eq_getElem hil)
    refine wpAny_bind (wpAny_pyNext_tuple_item st (show s.heap.IsTuple t its.toArray from p) (x := u) (by simpa using hu) fun h' st' sb => ?_)
    have I1 : Inv X pins σ (upd H0 q (.lst (ys.take i))) { s with heap := h' } := I.turned (t' := s.toks) (fun b o hb e => (sb.2 b hb).trans e) f0 f1 f3 f4 f5
    have nq : it ≠ q := fun z => by rw [z, upd_same] at f0; cases f0
    show wpAny _ A1.in1 (updateSeq q (·.push u) >>= _) _ _ _
    obtain ⟨z, its2, k, r2, hl2, e⟩ := I1.lstM upd_same
    have hlt : (ys.take i).length = i := by rw [List.length_take]; omega
    refine wpAny_bind (wpAny_updateSeq e rfl (wpAny_pure ⟨plainId_quiet PySem.F.plain_extend_loop _, ?_⟩) (by rw [List.size_toArray]; omega) (by show (its2.toArray.push u).size ≤ sizeLine + 1; rw [Array.size_push, List.size_toArray]; omega))
    have I2 := I1.lset (its' := its2 ++ [u]) (ys := ys.take i ++ [ys[i]]) (t' := s.toks) (f := (·.push u)) upd_same e (by simp) (r2.append (.cons ru .nil)) (by rw [List.length_append, List.length_singleton]; omega)
    rw [upd_upd, show ys.take i ++ [ys[i]] = ys.take (i + 1) by rw [List.take_succ, List.getElem?_eq_getElem hil]; rfl] at I2
    refine ih (i + 1) _ I2 (by omega) (st'.at fun o e2 => (Heap.get?_update_other _ _ nq.symm).trans e2) ⟨by rw [upd_ne nq]; rw [upd_ne nq] at f0; exact f0, f1, f2, f3, f4, f5⟩
theorem own_len_hint {C f a dx q : Addr} {qual fld : Str} {st : Stmt} {fd : FuncData} {us : List (Str × V)} {ys : List V} {A : Around} {H : Hp} {s : Shared} {k : Nat} {E : Value → Shared → Prop} {Q : Bool → Shared → Prop} (sb : Sub X (k + 3) A) (T : LenT X.K C f qual fld st fd) (hm : X.mg "len" = none) (I : Inv X pins σ H s)
    (ha : H a = some (.ins C dx us)) (hf : us.lookup fld = some (.ref q)) (hq : SqT X.K H q ys) (hl : ys.length ≤ sizeLine) (h : ∀ b s', Inv X pins σ H s' → Q b s') : wpAny (model X.prog X.w) A (Builtin.List.listLengthHint (.ref a)) Q E s := by
  obtain ⟨mA, J, _⟩ := ins_get I.hok ha
  obtain ⟨od, J, _⟩ := J.look
  obtain ⟨m0, fr⟩ := I.fr
  unfold Builtin.List.listLengthHint
  refine wpAny_bind (wpAny_bind (J.type.here ((PySem.W.looks_findIn I.kIn T.at_).here ?_)))
  refine PySem.W.KFB.if_not rfl ?_
  refine wpAny_ite_split (fun _ => ?_) (fun z => absurd rfl z)
  refine wpAny_bind (wpAny_rule ?_)
  refine wpAny_bind (wpAny_attempt ?_)
  refine PySem.W.len_K fr I.ok.mod.kin J T.at_ T.fn ?_
  have e0 : Env0 X.prog X.w X.K X.mg X.base A X.stack s H := by
    have e := I.env0
    exact ⟨by rw [sb.fr]; exact e.frames, e.mod, e.bs, e.bsz, e.funs, e.frf, e.hok, e.bare⟩
  obtain ⟨oc, od2, kV, doc, pm, an, cdv, ct, osl, rfl, lk, hcd⟩ := T.fu.ex
  have bd := T.bd s [.ref a] I.kIn rfl
  have run := run_at (mg := X.mg) (base := X.base) (w := X.w) (P := X.prog) (k := k + 1) lk hcd T.sc (A := A.in1) (outer := X.stack) (s := s) (G := H) (args := ⟨[.ref a], []⟩) (us := [.ref a]) (vs := [V.ref a]) (E := fun _ _ _ => False)
    (Q := fun v G2 => v = .int ys.length ∧ G2 = H) sb.in1.room e0.in1 bd (.cons rfl .nil) rfl (fun _ => by
      obtain ⟨t, ht, hread⟩ := T.body X.prog X.w X.mg X.base A.in1 X.stack s H (fun _ _ _ => False) cdv hm
      exact ⟨t, ht, hread a dx q us ys (fun v G2 => v = .int ys.length ∧ G2 = H) ha hf hq hl ⟨rfl, rfl⟩⟩)
  refine wpAny_call (codeAny_mono run fun fin s2 z => ?_)
  cases fin with
  | error er =>
    have z2 : L2.CX X.prog X.w X.stack H s (fun _ _ _ => False) er s2 := z
    obtain ⟨_, _, _, _, _, _, _, _, _, _, _, _, z⟩ := z2
    exact z.elim
  | ok fl =>
    cases fl with
    | next => exact z.elim
    | brk => exact z.elim
    | cont => exact z.elim
    | ret w =>
      obtain ⟨y, G2, J3, ry, ey, e2⟩ := I.after z
      subst ey e2
      obtain ⟨tk, rfl⟩ := ry
      have hz : (ys.length : Int) ≤ (sizeLine : Nat) := Int.ofNat_le.mpr hl
      show (0 ≤ (ys.length : Int) ∧ (ys.length : Int) < 2 ^ 63) ∧ _
      refine ⟨⟨Int.natCast_nonneg _, by rw [sizeLine_eq] at hz; omega⟩, ?_⟩
      refine wpAny_bind (wpAny_pure ?_)
      show wpAny _ _ (if Builtin.List.listTooLong (ys.length : Int).toNat = true then _ else _) _ _ _
      rw [if_neg (by unfold Builtin.List.listTooLong; simp; omega)]
      exact wpAny_pure (h _ _ (J3.tok _))
theorem own_iterT {C f a dx q : Addr} {qual fld : Str} {st : Stmt} {fd : FuncData} {us : List (Str × V)} {ys : List V} {A : Around} {H : Hp} {s : Shared} {k : Nat} {E : Value → Shared → Prop} {Q : Value → Shared → Prop} (sb : Sub X (k + 2) A) (T : IterOf X.K C f qual fld st fd) (hm : X.mg "iter" = none) (I : Inv X pins σ H s)
    (ha : H a = some (.ins C dx us)) (hf : us.lookup fld = some (.ref q)) (hq : SqT X.K H q ys) (h : ∀ it s', Inv X pins σ H s' → s'.heap.IsTupleIter it q 0 → FpOk X pins H it → s'.heap.get? it = some (titObj q) → Q (.ref it) s') : wpAny (model X.prog X.w) A (pyIter (.ref a)) Q E s := by
  obtain ⟨_, O, _⟩ := ins_get I.hok ha
  obtain ⟨_, J, _⟩ := O.look
  obtain ⟨_, fr⟩ := I.fr
  refine PySem.W.owit_iter fr I.ok.mod.kin J T.at_ T.fn ?_
  obtain ⟨oc, od, kV, doc, pm, an, cdv, ct, osl, rfl, lk, hcd⟩ := T.fu.ex
  have bd := T.bd s [.ref a] I.kIn rfl
  have e0 : Env0 X.prog X.w X.K X.mg X.base A X.stack s H := by
    have e := I.env0
    exact ⟨by rw [sb.fr]; exact e.frames, e.mod, e.bs, e.bsz, e.funs, e.frf, e.hok, e.bare⟩
  have run := run_at (mg := X.mg) (base := X.base) (w := X.w) (P := X.prog) (k := k + 1) lk hcd T.sc (A := A) (outer := X.stack) (s := s) (G := H) (args := ⟨[.ref a], []⟩) (us := [.ref a]) (vs := [V.ref a]) (E := fun _ _ _ => False)
    (Q := fun v G2 => ∃ it, v = .ref it ∧ H it = none ∧ s.heap.objs.size ≤ it ∧ G2 = upd H it (TitO q it)) sb.room e0 bd (.cons rfl .nil) rfl (fun _ => by
      obtain ⟨t, ht, hread⟩ := T.body X.prog X.w X.mg X.base A X.stack s H (fun _ _ _ => False) cdv hm
      exact ⟨t, ht, hread a dx q us ys (fun v G2 => ∃ it, v = .ref it ∧ H it = none ∧ s.heap.objs.size ≤ it ∧ G2 = upd H it (TitO q it)) ha hf hq fun it n1 n2 => ⟨it, rfl, n1, n2, rfl⟩⟩)
  refine wpAny_call (codeAny_mono run fun fin s2 z => ?_)
  cases fin with
  | error er =>
    have z2 : L2.CX X.prog X.w X.stack H s (fun _ _ _ => False) er s2 := z
    obtain ⟨_, _, _, _, _, _, _, _, _, _, _, _, z⟩ := z2
    exact z.elim
  | ok fl =>
    cases fl with
    | next => exact z.elim
    | brk => exact z.elim
    | cont => exact z.elim
    | ret u =>
      obtain ⟨v, G2, I2, rv, it, rfl, hn, hy, rfl⟩ := I.after z
      obtain rfl : u = Value.ref it := rv
      have got : s2.heap.get? it = some (titObj q) := (I2.hok it _ upd_same).1
      have ti : s2.heap.IsTupleIter it q 0 := ⟨_, got, rfl, rfl⟩
      unfold PySem.W.OwitIt
      refine wpAny_specialOf ti.typeIs F.slot_tuple_iterator_next.lookup ?_
      have I3 := ItX.inv_drop I2 upd_same
      have fp := ItX.inv_fp I2 upd_same (Nat.le_trans I.sz hy)
      have e : ItX.dropH (upd H it (TitO q it)) it = H := ItX.dropH_upd hn
      rw [e] at I3 fp
      exact h it _ I3 ti fp got
theorem SqT.upd_lst {K : PySem.W.Frag} {H : Hp} {q t : Addr} {zs ys : List V} (h : SqT K H t ys) (hq : H q = none) : SqT K (upd H q (.lst zs)) t ys :=
  SqT.ext h (Ext.upd hq)
def rListT (K : PySem.W.Frag) (C : Addr) (fld : Str) : List V → Hp → VK → Prop := fun xs H Q => ∃ a dx us t ys, xs = [.ref a] ∧ H a = some (.ins C dx us) ∧ us.lookup fld = some (.ref t) ∧ SqT K H t ys ∧ ys.length < sizeLine ∧ ∀ q, H q = none → Q (.ref q) (upd H q (.lst ys))
theorem call_listT {C fi fl : Addr} {quali quall fld : Str} {sti stl : Stmt} {fdi fdl : FuncData} {n : Nat} (Ti : IterOf X.K C fi quali fld sti fdi) (Tl : LenT X.K C fl quall fld stl fdl) (hi : X.mg "iter" = none) (hl : X.mg "len" = none) (hc : X.calm = true) (hr : Room (n + 5) X.A) : CallR X (.type "list") (rListT X.K C fld) := by
  intro pins s σ H xs us Q I rv h
  have hd : X.A.handled = none := I.ok.hd hc
  obtain ⟨a, dx, fs, t, ys, rfl, ha, hfl, ht, hlen, hq⟩ := h
  obtain ⟨u, rfl, ru⟩ := rv.one
  cases ru
  have sb : Sub X (n + 3) X.A.in1.in1 := (Sub.in1 (Sub.in1 (⟨hr, rfl⟩ : Sub X (n + 5) X.A)))
  refine callType_codes (Q₁ := fun obj s₁ => obj = .ref s.heap.objs.size ∧ s₁ = { s with heap := s.heap.push { cls := .type "list", data := .seq #[] } }) PySem.F.called_list (PySem.F.typeCall_list_1 _) PySem.F.entry_list_init
    (code_list_new _ ⟨rfl, rfl⟩) fun obj s₁ h₁ => ?_
  obtain ⟨rfl, rfl⟩ := h₁
  have hS : (s.heap.push { cls := .type "list", data := .seq #[] }).get? s.heap.objs.size = some { cls := .type "list", data := .seq #[] } := Heap.get?_push_size _ rfl
  refine ⟨⟨_, hS, rfl⟩, PySem.F.args_list_init_2 _ _, ?_⟩
  have fr : H s.heap.objs.size = none := I.hok.fresh (Nat.le_refl _)
  have I1 : Inv X pins σ (upd H s.heap.objs.size (.lst [])) { s with heap := s.heap.push { cls := .type "list", data := .seq #[] } } := I.lnew (its := []) (t' := s.toks) .nil (Nat.zero_le _)
  show wpAny _ _ (do let old ← Builtin.List.listItems (.ref s.heap.objs.size); Builtin.List.listUpdate (.ref s.heap.objs.size) (fun _ => #[]); letGo old.toList.reverse; Builtin.List.listExtendWith (.ref s.heap.objs.size) (.ref a) .none) _ _ _
  refine wpAny_bind ?_
  unfold Builtin.List.listItems
  refine wpAny_bind (wpAny_seqItems hS rfl (wpAny_pure ?_))
  show wpAny _ _ (updateSeq s.heap.objs.size (fun _ => #[]) >>= fun _ => letGo (#[] : Array Value).toList.reverse >>= fun _ => Builtin.List.listExtendWith (.ref s.heap.objs.size) (.ref a) .none) _ _ _
  refine wpAny_bind (wpAny_updateSeq hS rfl ?_)
  have I2 := I1.lset (f := fun _ => #[]) (its := []) (its' := []) (ys := []) (t' := s.toks) upd_same hS rfl .nil (Nat.zero_le _)
  rw [upd_upd] at I2
  refine wpAny_bind (wpAny_letGo ?_)
  have ha2 : upd H s.heap.objs.size (.lst []) a = some (.ins C dx fs) := by rw [upd_ne (ne_of_none ha fr)]; exact ha
  have ht2 : ∀ zs, SqT X.K (upd H s.heap.objs.size (.lst zs)) t ys := fun zs => SqT.upd_lst ht fr
  have hne : s.heap.objs.size ≠ a := fun z => by rw [z, ha] at fr; cases fr
  generalize hq0 : s.heap.objs.size = q at *
  obtain ⟨mA, J, _⟩ := ins_get I2.hok ha2
  obtain ⟨od, J, _⟩ := J.look
  unfold Builtin.List.listExtendWith
  refine wpAny_bind (J.type.here ?_)
  have h1 : Builtin.List.listSameRef (.ref q) (.ref a) = false := by simp [Builtin.List.listSameRef, hne]
  have h2 : (Value.ref C == Value.type "list") = false := rfl
  have h3 : (Value.ref C == Value.type "tuple") = false := rfl
  simp only [h1, h2, h3, Bool.or_false, Bool.false_eq_true, if_false]
  refine wpAny_bind (own_iterT sb Ti hi I2 ha2 hfl (ht2 []) fun it s3 I3 st f3 got => ?_)
  have I4 := I3.pinned (fp := [it]) (fun b hb => by rw [List.mem_singleton.mp hb]; exact f3) (fun b hb => by rw [List.mem_singleton.mp hb]; exact ⟨_, got, fun v z => by cases z⟩)
  refine wpAny_bind (wpAny_holding (own_len_hint sb Tl hl I4 ha2 hfl (ht2 []) (Nat.le_of_lt hlen) fun b s5 I5 => ?_))
  have got5 : s5.heap.get? it = some (titObj t) := (I5.pin (it, titObj t) (List.mem_append_right _ (List.mem_append_right _ (mem_pinsAt (by simp) got)))).1
  have st5 : s5.heap.IsTupleIter it t 0 := ⟨_, got5, rfl, rfl⟩
  have I6 := I5.unpinned
  have fin : ∀ s6, Inv X pins σ (upd H q (.lst [])) s6 → s6.heap.IsTupleIter it t 0 → codeAny (model X.prog X.w) X.A.in1 (.builtin "list.extend.loop" ⟨[.ref q, .ref it, .none], []⟩) (wants (fun r s₂ => r = .none ∧ EP X pins σ Q (.ref q) s₂) X.xe) s6 := fun s6 I7 st7 =>
    tup_loop (A1 := X.A.in1) (t := t) (ys := ys) (H0 := H) (Rs := wants (fun r s₂ => r = .none ∧ EP X pins σ Q (.ref q) s₂) X.xe) hd hlen (fun s8 I8 => ⟨rfl, .ref q, _, I8, rfl, hq q fr⟩) ht2 ys.length 0 s6 I7 (by simp) st7 f3
  refine wpAny_ite_split (fun _ => ?_) (fun _ => wpAny_pure ⟨plainId_quiet PySem.F.plain_extend_loop _, fin _ I6 st5⟩)
  obtain ⟨z, its, k, r3, hl3, e3⟩ := I6.lstM upd_same
  cases r3
  refine wpAny_bind (wpAny_rule ?_)
  refine wpAny_bind ?_
  show wpAny _ _ (updateSeq q (·.push .none) >>= fun _ => updateSeq q (·.pop)) _ _ _
  refine wpAny_bind (wpAny_updateSeq e3 rfl ?_)
  have I8 := I6.lset (f := (·.push Value.none)) (its' := [Value.none]) (ys := [.non]) (t' := s5.toks) upd_same e3 (by simp) (.cons rfl .nil) (by rw [List.length_singleton, sizeLine_eq]; decide)
  obtain ⟨z4, its4, k4, r4, hl4, e4⟩ := I8.lstM upd_same
  obtain ⟨u4, rfl, ru4⟩ := r4.one
  refine wpAny_updateSeq e4 rfl ?_ (by show 1 ≤ sizeLine; rw [sizeLine_eq]; decide) (by show 0 ≤ sizeLine + 1; exact Nat.zero_le _)
  have I9 := I8.lset (f := (·.pop)) (its := [u4]) (its' := []) (ys := []) (t' := s5.toks) upd_same e4 (by rfl) .nil (Nat.zero_le _)
  rw [upd_upd, upd_upd] at I9
  have nq : it ≠ q := fun z => by have := f3.1; rw [z, upd_same] at this; cases this
  refine wpAny_pure ⟨plainId_quiet PySem.F.plain_extend_loop _, fin _ I9 ?_⟩
  refine st5.at fun o e2 => ?_
  exact (Heap.get?_update_other _ _ nq.symm).trans ((Heap.get?_update_other _ _ nq.symm).trans e2)
/-- len(o) of an own object that says the length of a tuple of its own -/
def rLenT (K : PySem.W.Frag) (C : Addr) (fld : Str) : List V → Hp → VK → Prop := fun xs H Q => ∃ a dx us t ys, xs = [.ref a] ∧ H a = some (.ins C dx us) ∧ us.lookup fld = some (.ref t) ∧ SqT K H t ys ∧ ys.length ≤ sizeLine ∧ Q (.int ys.length) H
theorem call_lenT {C fl : Addr} {quall fld : Str} {stl : Stmt} {fdl : FuncData} {n : Nat} (T : LenT X.K C fl quall fld stl fdl) (hm : X.mg "len" = none) (hr : Room (n + 3) X.A) : CallR X (.builtin "len") (rLenT X.K C fld) := by
  rintro pins s σ H xs us0 Q I r ⟨a, dx, us, q, ys, rfl, ha, hf, hq, hl, h⟩
  obtain ⟨u, rfl, ru⟩ := r.one
  obtain rfl : u = Value.ref a := ru
  have sb : Sub X (n + 3) X.A := ⟨hr, rfl⟩
  obtain ⟨mA, J, _⟩ := ins_get I.hok ha
  obtain ⟨od, J, _⟩ := J.look
  obtain ⟨m0, fr⟩ := I.fr
  refine PySem.W.len_K fr I.ok.mod.kin J T.at_ T.fn ?_
  have e0 : Env0 X.prog X.w X.K X.mg X.base X.A X.stack s H := I.env0
  obtain ⟨oc, od2, kV, doc, pm, an, cdv, ct, osl, rfl, lk, hcd⟩ := T.fu.ex
  have bd := T.bd s [.ref a] I.kIn rfl
  have run := run_at (mg := X.mg) (base := X.base) (w := X.w) (P := X.prog) (k := n + 1) lk hcd T.sc (A := X.A.in1) (outer := X.stack) (s := s) (G := H) (args := ⟨[.ref a], []⟩) (us := [.ref a]) (vs := [V.ref a]) (E := fun _ _ _ => False)
    (Q := fun v G2 => v = .int ys.length ∧ G2 = H) sb.in1.room e0.in1 bd (.cons rfl .nil) rfl (fun _ => by
      obtain ⟨t, ht, hread⟩ := T.body X.prog X.w X.mg X.base X.A.in1 X.stack s H (fun _ _ _ => False) cdv hm
      exact ⟨t, ht, hread a dx q us ys (fun v G2 => v = .int ys.length ∧ G2 = H) ha hf hq hl ⟨rfl, rfl⟩⟩)
  refine wpAny_call (codeAny_mono run fun fin s2 z => ?_)
  cases fin with
  | error er =>
    have z2 : L2.CX X.prog X.w X.stack H s (fun _ _ _ => False) er s2 := z
    obtain ⟨_, _, _, _, _, _, _, _, _, _, _, _, z⟩ := z2
    exact z.elim
  | ok fl =>
    cases fl with
    | next => exact z.elim
    | brk => exact z.elim
    | cont => exact z.elim
    | ret w =>
      obtain ⟨y, G2, J3, ry, ey, e2⟩ := I.after z
      subst ey e2
      obtain ⟨tk, rfl⟩ := ry
      have hz : (ys.length : Int) ≤ (sizeLine : Nat) := Int.ofNat_le.mpr hl
      show (0 ≤ (ys.length : Int) ∧ (ys.length : Int) < 2 ^ 63) ∧ _
      exact ⟨⟨Int.natCast_nonneg _, by rw [sizeLine_eq] at hz; omega⟩, .int ys.length, G2, J3.tok _, ⟨_, rfl⟩, h⟩
end
/-! ### in data -/
abbrev listTN (C : Addr) (fld : Str) : RDN := fun ds Q => ∃ fs ys, ds = [.obj C fs] ∧ fs.lookup fld = some (.tup ys) ∧ ys.length < sizeLine ∧ Q (.own (.lst ys))
abbrev lenTN (C : Addr) (fld : Str) : RDN := fun ds Q => ∃ fs ys, ds = [.obj C fs] ∧ fs.lookup fld = some (.tup ys) ∧ ys.length ≤ sizeLine ∧ Q (.d (.int ys.length))
theorem cn_listT {K : PySem.W.Frag} {C : Addr} {fld : Str} : CallN K (rListT K C fld) (listTN C fld) := fun xs ds F H Q Qd s r ⟨fs, ys, e1, el, hl, q⟩ k => by
  subst e1
  cases r with
  | cons r t =>
    cases t
    cases r with
    | @obj a _ dx us _ s1 h =>
      obtain ⟨u, e2, ru⟩ := (RepF.lookup h).2 _ el
      cases ru with
      | @tup p vs _ s2 r2 => exact ⟨a, dx, us, p, vs, rfl, s _ _ s1, e2, SqT.of (s _ _ s2), by rw [RepL.len r2]; exact hl, fun q0 n => k _ _ _ _ q (made_list n s r2)⟩
theorem cn_lenT {K : PySem.W.Frag} {C : Addr} {fld : Str} : CallN K (rLenT K C fld) (lenTN C fld) := fun xs ds F H Q Qd s r ⟨fs, ys, e1, el, hl, q⟩ k => by
  subst e1
  cases r with
  | cons r t =>
    cases t
    cases r with
    | @obj a _ dx us _ s1 h =>
      obtain ⟨u, e2, ru⟩ := (RepF.lookup h).2 _ el
      cases ru with
      | @tup p vs _ s2 r2 => exact ⟨a, dx, us, p, vs, rfl, s _ _ s1, e2, SqT.of (s _ _ s2), by rw [RepL.len r2]; exact hl, by rw [RepL.len r2]; exact k _ _ _ _ q (made_d s (.int _))⟩
end DL

set_option Elab.async false
set_option linter.all false
set_option maxRecDepth 100000
set_option maxHeartbeats 4000000
/-! DL90: list(x) and e + x of an own list that stays own -/
namespace DL
open PySem PySem.Spec PyProof.Rows L2
section
variable {X : Cx} {c : Fc} {W : WX}
def listO (i : Nat) : TD := fun δ Q _ => ∃ xs, δ[i]? = some (some (.own (.lst xs))) ∧ Q (.own (.lst xs)) δ
theorem pd_listO {i : Nat} {x y : Str} {p pos py : Pos} (h : ∀ {t : TA}, PA X [.Name y py] t → PE X (.Call (.Name x p) [.Name y py] [] pos) (tCB (fun xs H Q => ∃ p ys, xs = [.ref p] ∧ (SqL X.K H p ys ∨ SqT X.K H p ys) ∧ ∀ l, H l = none → Q (.ref l) (upd H l (.lst ys))) t)) (hv : PE X (.Name y py) (tVar i)) (hs : starEach [.Name y py] X.env = (false, eval (.Name y py) X.env) :: starEach [] X.env := by rfl) :
    PE X (.Call (.Name x p) [.Name y py] [] pos) (LE X.K c W (listO i)) := PE_imp (h (pa_cons hv pa_nil hs)) fun σ H Q ⟨δ, tmp, Qd, Ed, ⟨F, ow, S⟩, ⟨xs, ei, q⟩, k, w⟩ => by
  obtain ⟨v, e1, p', rfl, _, _, _, vs, ep, r⟩ := S.sl _ _ ei
  exact ⟨_, e1, p', vs, rfl, .inl (SqL.of ep), fun l nl => k _ _ _ _ q ((made_list nl S.fh r).stt S)⟩
def addO (i : Nat) (t : TD) : TD := fun δ Q E => t δ (fun x δ1 => ∃ xs zs, x.toD = .lst xs ∧ δ1[i]? = some (some (.own (.lst zs))) ∧ xs.length + zs.length ≤ sizeLine ∧ Q (.own (.lst (xs ++ zs))) δ1) E
theorem pd_addO {i : Nat} {a : Expr} {y : Str} {py pos : Pos} {t : TD} (ha : PE X a (LE X.K c W t)) (hv : PE X (.Name y py) (tVar i)) : PE X (.BinOp a .Add (.Name y py) pos) (LE X.K c W (addO i t)) :=
  PE_imp (pe_op op_cat ha hv) fun σ H Q ⟨δ, tmp, Qd, Ed, S, q, k, w⟩ => ⟨δ, tmp, _, Ed, S, q, fun x a δ1 H1 ⟨xs, zs, ex, ei, z, q1⟩ ⟨F, ow, S1⟩ => by
    obtain ⟨F2, S2, _⟩ := S1.top_frz
    rw [ex] at S2
    obtain ⟨v', e2, p', rfl, _, n, _, vs, ep, r⟩ := S2.sl _ _ ei
    have rx := S2.top
    cases rx with
    | lst s1 r1 => exact ⟨_, e2, _, _, _, _, rfl, rfl, S2.fh _ _ s1, ep, by rw [r1.len, r.len]; exact z, fun p n => k _ _ _ _ q1 ((made_list n S2.fh (r1.app r)).stt S2.pop)⟩, w⟩
end
end DL
namespace DR
open PySem PySem.Spec PyProof.Rows L2 DL
section
variable {δ : DSt} {Q : DK} {E : XD}
theorem listO {i : Nat} {xs : List DL.D} (e : δ[i]? = some (some (.own (.lst xs)))) (h : Q (.own (.lst xs)) δ) : DL.listO i δ Q E := ⟨xs, e, h⟩
theorem addO {i : Nat} {t : TD} (h : t δ (fun x δ1 => ∃ xs zs, x.toD = .lst xs ∧ δ1[i]? = some (some (.own (.lst zs))) ∧ xs.length + zs.length ≤ sizeLine ∧ Q (.own (.lst (xs ++ zs))) δ1) E) : DL.addO i t δ Q E := h
end
end DR

set_option Elab.async false
set_option linter.all false
set_option maxRecDepth 100000
set_option maxHeartbeats 0
set_option pp.deepTerms false
set_option pp.deepTerms.threshold 8

namespace RD9
open PySem PySem.Spec PyProof.Rows L2
theorem mulr {i j : Int} (h1 : -(2 ^ 64) < j) (h2 : j < 2 ^ 64) : CMul i j := .inr ⟨h1, h2⟩
theorem divw {i j : Int} (h1 : 0 < j) (h2 : j.natAbs.log2 < 9000) : CDivW i j := ⟨h1, h2⟩
theorem mull {i j : Int} (h1 : -(2 ^ 64) < i) (h2 : i < 2 ^ 64) : CMul i j := .inl ⟨h1, h2⟩
theorem pow18 : CPow 10 18 := ⟨by decide, by decide, by decide⟩
theorem scalI {i j : Int} : scal (.int i) (.int j) = true := rfl
theorem scalS {i j : Str} : scal (.str i) (.str j) = true := rfl
theorem iteEqI {A B : Prop} {i j : Int} (h : if decide (i = j) = true then A else B) : if (if false = true then !decide (V.int i = V.int j) else decide (V.int i = V.int j)) = true then A else B := by
  rw [show decide (V.int i = V.int j) = decide (i = j) from decide_eq_decide.mpr ⟨fun e => V.int.inj e, fun e => congrArg _ e⟩]; exact h
theorem iteNeI {A B : Prop} {i j : Int} (h : if (!decide (i = j)) = true then A else B) : if (if true = true then !decide (V.int i = V.int j) else decide (V.int i = V.int j)) = true then A else B := by
  rw [show decide (V.int i = V.int j) = decide (i = j) from decide_eq_decide.mpr ⟨fun e => V.int.inj e, fun e => congrArg _ e⟩]; exact h
theorem iteEqS {A B : Prop} {i j : Str} (h : if decide (i = j) = true then A else B) : if (if false = true then !decide (V.str i = V.str j) else decide (V.str i = V.str j)) = true then A else B := by
  rw [show decide (V.str i = V.str j) = decide (i = j) from decide_eq_decide.mpr ⟨fun e => V.str.inj e, fun e => congrArg _ e⟩]; exact h
theorem f1k {α : Type} {l : List α} (h : Nat.blt l.length 1000 = true) : l.length < 1000 := by simpa [Nat.blt_eq] using h
theorem lkn {α : Type} {f : Str} {fs : List (Str × α)} (h : (List.lookup f fs).isNone = true) : List.lookup f fs = none := Option.isNone_iff_eq_none.mp h
theorem nd0 : ([] : List Nat).Nodup := .nil
theorem nd1 {a : Nat} : [a].Nodup := List.nodup_cons.mpr ⟨(fun h => nomatch h), .nil⟩
theorem sh0 {α : Type} : ([] : List α).length ≤ sizeLine := by show 0 ≤ sizeLine; decide
theorem sh1 {α : Type} {a : α} : [a].length ≤ sizeLine := by show 1 ≤ sizeLine; decide
theorem sh2 {α : Type} {a b : α} : [a, b].length ≤ sizeLine := by show 2 ≤ sizeLine; decide
theorem sh3 {α : Type} {a b c : α} : [a, b, c].length ≤ sizeLine := by show 3 ≤ sizeLine; decide
theorem sh4 {α : Type} {a b c d : α} : [a, b, c, d].length ≤ sizeLine := by show 4 ≤ sizeLine; decide
end RD9
local macro_rules
  | `(tactic| walk_at "da") => `(tactic| repeat (first | exact DR.args_n | apply DR.args_d | (apply DR.args_o; (with_unfolding_all rfl))))
local macro_rules
  | `(tactic| walk_at "dt") => `(tactic| repeat (first | exact DR.tk_n | (apply DR.tk_c; (with_unfolding_all rfl))))
local macro_rules
  | `(tactic| walk_at "dc") => `(tactic| first | (exact RD9.mulr (by decide) (by decide)) | (exact RD9.mull (by decide) (by decide)) | (exact RD9.mulr (by omega) (by omega)) | (exact RD9.mull (by omega) (by omega)) | (show (0 : Int) < _; first | decide | omega) | (exact RD9.divw (by decide) (by decide +kernel)) | (exact RD9.divw (by omega) (by decide +kernel)))
local macro_rules
  | `(tactic| walk_at "dd1") => `(tactic| with_reducible first
    | apply DR.op | (apply DR.var; (with_unfolding_all rfl)) | apply DR.const | apply DR.cons | apply DR.nil | apply DR.seq | apply DR.set | apply DR.tv | apply DR.built | apply DR.call | apply DR.consO
    | apply DR.if_ | apply DR.ifE | apply DR.ret | apply DR.retN | apply DR.next | apply DR.drop | apply DR.setO | apply DR.setLc | apply DR.par | apply DR.par3 | apply DR.consk | apply DR.nilk | apply DR.unpack
    | (apply DR.fvar; (with_unfolding_all rfl)) | (apply DR.mvar; (with_unfolding_all rfl)) | apply DR.lst | apply DR.tup | apply DR.not | apply DR.and | apply DR.or | apply DR.boolE | apply DR.notv | apply DR.andv | apply DR.orv | apply DR.chain | apply DR.neg
    | (apply DR.ixo; (with_unfolding_all rfl)) | (apply DR.setItem; (with_unfolding_all rfl)) | (apply DR.meth; (with_unfolding_all rfl)) | (apply DR.builtO; (with_unfolding_all rfl))
    | apply DR.newDK | (apply DR.getKO; (with_unfolding_all rfl)) | apply DR.putK | apply DR.inKO | apply DR.inKF | (apply DR.aug; (with_unfolding_all rfl)) | apply DR.makeO | (apply DR.methO; (with_unfolding_all rfl); exact RD9.lkn (by with_unfolding_all rfl)) | (apply DR.owniO; (with_unfolding_all rfl); (with_unfolding_all rfl)) | apply DR.sortK | apply DR.tupItems
    | apply DR.both | apply DR.sub | apply DR.newk | (apply DR.newl; (with_unfolding_all rfl)) | apply DR.callr | apply DR.starA | apply DR.tseq | apply DR.clsm | apply DR.owni | apply DR.tryc | apply DR.tryca | apply DR.tryo | apply DR.trym | apply DR.xf | apply DR.raiser | apply DR.methr | apply DR.methk | apply DR.clsmk | apply DR.join | apply DR.upper | apply DR.dzip | apply DR.tzip | apply DR.slc | apply DR.slN | apply DR.slS | apply DR.cnt | apply DR.cntT | apply DR.rotI | apply DR.lenSetR | apply DR.dcomp | apply DR.rev | apply DR.intO | apply DR.negO | apply DR.tupgV | apply DR.getK | apply DR.index
    | apply DR.inLO | apply DR.enumi | apply DR.zipi | apply DR.zipm | apply DR.lenSet | apply DR.comp2 | apply DR.compX
    | apply DR.for_ | apply DR.comp | apply DR.yes | apply DR.nameg | apply DR.tupg | apply DR.namesC | apply DR.namesN | apply DR.listi | apply DR.tupi | apply DR.stri | apply DR.range1 | apply DR.raise
    | apply DR.newT | (apply DR.getO; (with_unfolding_all rfl)) | apply DR.getF | apply DR.put | apply DR.inO | apply DR.inF | apply DR.prop | refine ⟨⟨_, by with_unfolding_all rfl⟩, ?_⟩
    | apply DR.fld | (apply DR.fldo; (with_unfolding_all rfl); (with_unfolding_all rfl)) | apply DR.fldset | apply DR.make | apply DR.methd
    | apply RD9.iteEqI | apply RD9.iteNeI | apply RD9.iteEqS | apply RD9.iteNeS | refine ⟨RD9.scalI, ?_⟩ | refine ⟨RD9.scalS, ?_⟩
    | apply RD9.iteNF | apply RD9.iteNT | apply RD9.iteIF | apply RD9.iteIT
    | apply DR.iteT | apply DR.iteF | apply DR.nit | apply DR.nif
    | (apply DR.rt; walk_at "dt") | (apply DR.nx; walk_at "dt") | (apply DR.ex; walk_at "dt")
    | refine ⟨RD9.sh3, ?_⟩ | refine ⟨RD9.sh2, ?_⟩ | refine ⟨RD9.sh1, ?_⟩ | refine ⟨RD9.sh0, ?_⟩ | refine ⟨RD9.sh4, ?_⟩ | refine ⟨RD9.pow18, ?_⟩ | refine ⟨RD9.pow12, ?_⟩
    | refine ⟨DR.nost_i, ?_⟩ | refine ⟨DR.nost_b, ?_⟩ | refine ⟨DR.nost_n, ?_⟩
    | refine ⟨_, _, (by with_unfolding_all rfl), (by walk_at "da"), (by with_unfolding_all first | exact RD9.nd0 | exact RD9.nd1 | exact RD9.nd2 rfl), ?_⟩
    | refine ⟨_, (by walk_at "da"), (by with_unfolding_all first | exact RD9.nd0 | exact RD9.nd1 | exact RD9.nd2 rfl), ?_⟩
    | refine ⟨_, _, _, by with_unfolding_all rfl, rfl, by with_unfolding_all rfl, ?_⟩
    | refine ⟨[_], rfl, ?_⟩ | refine ⟨[_, _], rfl, ?_⟩ | refine ⟨[], rfl, ?_⟩ | refine ⟨[_, _, _], rfl, ?_⟩ | refine ⟨[_, _, _, _], rfl, ?_⟩ | refine ⟨[_, _, _, _, _], rfl, ?_⟩ | refine ⟨[_, _, _, _, _, _], rfl, ?_⟩
    | refine ⟨_, _, rfl, rfl, by with_unfolding_all walk_at "dc", ?_⟩
    | refine ⟨_, _, rfl, rfl, ?_⟩
    | refine ⟨_, rfl, _, rfl, ?_⟩
    | refine ⟨_, rfl, ?_⟩
    | refine ⟨_, _, rfl, ?_⟩
    | refine ⟨_, .inl rfl, ?_⟩
    | refine ⟨RD9.f1k (by with_unfolding_all rfl), ?_⟩
    | refine ⟨RD9.lkn (by with_unfolding_all rfl), ?_⟩
   )
local macro_rules
  | `(tactic| walk_at "dd") => `(tactic| repeat walk_at "dd1")

namespace KT
open PySem PySem.Spec PyProof.Rows L2 DL
def top (i : Nat) : Stmt := PySem.Challenge.pw_coveredday_k44_closings_and_day_books.main.body.getD i (.Pass ⟨0, 0, 0, 0⟩)
structure TxtB (mg : Str → Option Value) : Prop where
  b_int : mg "int" = none
  b_abs : mg "abs" = none
  b_len : mg "len" = none
  b_range : mg "range" = none
  b_min : mg "min" = none
structure TxtN (mg : Str → Option Value) : Prop extends TxtB mg where
  b_isinstance : mg "isinstance" = none
  b_all : mg "all" = none
  b_str : mg "str" = none
  b_bool : mg "bool" = none
  b_list : mg "list" = none
  b_tuple : mg "tuple" = none
  b_set : mg "set" = none
  b_enumerate : mg "enumerate" = none
  b_iter : mg "iter" = none
  b_zip : mg "zip" = none
  b_max : mg "max" = none
  b_repr : mg "repr" = none
  k__CASH : ∃ t, mg "_CASH" = some (.str "cash" t)
  k__LETTERS : ∃ t, mg "_LETTERS" = some (.str "abcdefghijklmnopqrstuvwxyz" t)
  k__LONGEST_NAME : ∃ t, mg "_LONGEST_NAME" = some (.int 12 t)
  k__MOST_GOODS : ∃ t, mg "_MOST_GOODS" = some (.int 5 t)
def Nm (g : Str) : Prop := g ≠ "cash" ∧ 1 ≤ g.length ∧ g.length ≤ 12 ∧ ∀ c ∈ g.cps.toList, 97 ≤ c ∧ c ≤ 122
def Goods (gs : List Str) : Prop := gs.Nodup ∧ 1 ≤ gs.length ∧ gs.length ≤ 5 ∧ ∀ g ∈ gs, Nm g
def cash : Str := "cash"
def RowOf (x : D) (xs : List D) : Prop := x = .lst xs ∨ x = .tup xs
theorem in_abz {c : Nat} (h : 97 ≤ c ∧ c ≤ 122) : c ∈ (Str.ofString "abcdefghijklmnopqrstuvwxyz").cps.toList := by
  have e : ∀ k : Fin 26, 97 + k.val ∈ (Str.ofString "abcdefghijklmnopqrstuvwxyz").cps.toList := by decide +kernel
  have := e ⟨c - 97, by omega⟩
  rwa [show 97 + (c - 97) = c by omega] at this
theorem kit_self {K : PySem.W.Frag} {n : String} : PySem.W.kitOne K (.type n) (.type n) = some true := by
  unfold PySem.W.kitOne
  exact if_pos (beq_iff_eq.mpr rfl)
theorem scL_str : ∀ {gs : List Str}, scL (gs.map .str) = some (gs.map V.str)
  | [] => rfl
  | g :: gs => by
    rw [List.map_cons, List.map_cons]
    unfold scL
    rw [scL_str]
    rfl
theorem inV_str {a : Str} {gs : List Str} : inV (V.str a) (gs.map V.str) = decide (a ∈ gs) := by
  unfold inV
  rw [List.any_map, Bool.eq_iff_iff, List.any_eq_true, decide_eq_true_eq]
  constructor
  · rintro ⟨b, hb, e⟩
    have e : eqV (V.str b) (V.str a) = true := e
    have : b = a := by simpa [eqV] using e
    exact this ▸ hb
  · intro h
    exact ⟨a, h, by show eqV (V.str a) (V.str a) = true; simp [eqV]⟩
theorem dp_strs (l : List Str) : Dp_ 2 (.tup (l.map .str)) := dp_tup (dp_map fun r _ => dp_str)
theorem dp_ints (l : List Int) : Dp_ 2 (.tup (l.map .int)) := dp_tup (dp_map fun r _ => dp_int)
theorem eqv_names {l k : List Str} : PyData.eqv (D.tup (l.map .str)).py (D.tup (k.map .str)).py = decide (l = k) := eqv_tups eqv_strs
abbrev s_is_name : Stmt := top 21
theorem sc_is_name : FnScope ["thing", "letter"] ["thing"] (defScope s_is_name) := ⟨rfl, rfl, rfl, by decide +kernel, rfl, by decide +kernel, by decide +kernel⟩
abbrev s_is_sequence : Stmt := top 17
theorem sc_is_sequence : FnScope ["thing"] ["thing"] (defScope s_is_sequence) := ⟨rfl, rfl, rfl, by decide +kernel, rfl, by decide +kernel, by decide +kernel⟩
abbrev s_is_integer : Stmt := top 16
theorem sc_is_integer : FnScope ["thing"] ["thing"] (defScope s_is_integer) := ⟨rfl, rfl, rfl, by decide +kernel, rfl, by decide +kernel, by decide +kernel⟩
abbrev s_is_row : Stmt := top 18
theorem sc_is_row : FnScope ["thing", "length"] ["thing", "length"] (defScope s_is_row) := ⟨rfl, rfl, rfl, by decide +kernel, rfl, by decide +kernel, by decide +kernel⟩
abbrev s_checked_goods : Stmt := top 22
theorem sc_checked_goods : FnScope ["goods", "told", "good"] ["goods"] (defScope s_checked_goods) := ⟨rfl, rfl, rfl, by decide +kernel, rfl, by decide +kernel, by decide +kernel⟩
end KT

set_option Elab.async false
set_option linter.all false
set_option maxRecDepth 100000
set_option maxHeartbeats 0
set_option pp.deepTerms false
set_option pp.deepTerms.threshold 8


namespace KT
open PySem PySem.Spec PyProof.Rows L2 DL
abbrev s_BadGoods___init : Stmt := inClass (top 6) 0
theorem sc_BadGoods___init : FnScope ["self", "what"] ["self", "what"] (defScope s_BadGoods___init) := ⟨rfl, rfl, rfl, by decide +kernel, rfl, by decide +kernel, by decide +kernel⟩
theorem ok_BadGoods {P : Program} {w : World} {K : PySem.W.Frag} {mg : Str → Option Value} {base : Heap} {B : Addr} {f : Addr} {fd : FuncData} (F : Fun K "__init__" "BadGoods.__init__" s_BadGoods___init f fd) (ox : OexC K B) (nw0 : PySem.W.findIn K (.ref B) "what" = some none) : FnOk P w K mg base CX0 1 f fd ["self", "what"] (ErrR K B ["what"]) :=
  ok_err1 F sc_BadGoods___init ox nw0 fun cdv A outer s H E => pss_one (ps_ost (pv 0) (pv 1))
abbrev s_BadPosition___init : Stmt := inClass (top 8) 0
theorem sc_BadPosition___init : FnScope ["self", "what"] ["self", "what"] (defScope s_BadPosition___init) := ⟨rfl, rfl, rfl, by decide +kernel, rfl, by decide +kernel, by decide +kernel⟩
theorem ok_BadPosition {P : Program} {w : World} {K : PySem.W.Frag} {mg : Str → Option Value} {base : Heap} {B : Addr} {f : Addr} {fd : FuncData} (F : Fun K "__init__" "BadPosition.__init__" s_BadPosition___init f fd) (ox : OexC K B) (nw0 : PySem.W.findIn K (.ref B) "what" = some none) : FnOk P w K mg base CX0 1 f fd ["self", "what"] (ErrR K B ["what"]) :=
  ok_err1 F sc_BadPosition___init ox nw0 fun cdv A outer s H E => pss_one (ps_ost (pv 0) (pv 1))
/-- plain data and its type -/
inductive Pl : D → String → Prop
  | non : Pl .non "NoneType"
  | bl (b : Bool) : Pl (.bl b) "bool"
  | int (i : Int) : Pl (.int i) "int"
  | str (s : Str) : Pl (.str s) "str"
  | lst (l : List D) : Pl (.lst l) "list"
  | tup (l : List D) : Pl (.tup l) "tuple"
theorem Pl.ty {K : PySem.W.Frag} {x : D} {n : String} (h : Pl x n) : TyD K x (.type n) := by
  cases h
  · exact .non
  · exact .bl _
  · exact .int _
  · exact .str _
  · exact .lst _
  · exact .tup _
def isI : D → Bool
  | .int _ => true
  | _ => false
def isS : D → Bool
  | .lst _ => true
  | .tup _ => true
  | _ => false
def low (z : Str) : Bool := z.cps.toList.all fun c => decide (c ∈ (Str.ofString "abcdefghijklmnopqrstuvwxyz").cps.toList)
def nmB (z : Str) : Bool := decide (1 ≤ z.length) && decide (z.length ≤ 12) && low z
def nmD : D → Bool
  | .str z => nmB z
  | _ => false
def seqOf : D → List D
  | .lst l => l
  | .tup l => l
  | _ => []
section
variable {P : Program} {w : World} {K : PySem.W.Frag} {mg : Str → Option Value} {base : Heap} {C OG NA BG BM : Addr}
/-! ### kinds of things -/
def sdIntX : SpD := fun as Q _ => ∃ (x : D) (n : String), as = [.d x] ∧ Pl x n ∧ Q (.d (.bl (isI x))) []
theorem ok_integerX {f : Addr} {fd : FuncData} (G : Fun K "is_integer" "is_integer" s_is_integer f fd) (T : TxtN mg) : FnOk P w K mg base (L2.CX P w) 1 f fd ["thing"] (spOf K sdIntX) := by
  refine okD G sc_is_integer [] (fun as Q E ⟨xs, n, e, _⟩ => by subst e; exact ⟨rfl, rfl⟩) ⟨_, fun cdv A outer s H E ad F0 H0 hr => (pds_one (psd_ret (pd_and (pd_builtB (fun h => pe_callB call_isi (by rfl) T.b_isinstance (by decide +kernel) h) (cn_isi (K := K)).op (pda_cons (pd_var (pv 0)) (pda_cons (pd_const (pe_bltn (v := .ty "int") (by rfl) T.b_int (by decide +kernel) rfl) (fun _ => .ty _)) pda_nil))) (pd_one (pd_not (pd_builtB (fun h => pe_callB call_isi (by rfl) T.b_isinstance (by decide +kernel) h) (cn_isi (K := K)).op (pda_cons (pd_var (pv 0)) (pda_cons (pd_const (pe_bltn (v := .ty "bool") (by rfl) T.b_bool (by decide +kernel) rfl) (fun _ => .ty _)) pda_nil)))))))), ?_⟩
  rintro as Qd Ed ⟨x, n, rfl, hx, k⟩
  refine DR.start (δ' := [some (.d x)]) rfl ?_
  walk_at "dd"
  cases hx with
  | non => exact ⟨_, _, _, _, false, rfl, .ty _, .non, by rfl, DR.nost_b, by walk_at "dd"; exact k⟩
  | bl b =>
    refine ⟨_, _, _, _, true, rfl, .ty _, .bl _, by rfl, ?_⟩
    walk_at "dd"
    refine ⟨_, _, _, _, true, rfl, .ty _, .bl _, kit_self, ?_⟩
    walk_at "dd"
    exact k
  | int i =>
    refine ⟨_, _, _, _, true, rfl, .ty _, .int _, kit_self, ?_⟩
    walk_at "dd"
    refine ⟨_, _, _, _, false, rfl, .ty _, .int _, by rfl, ?_⟩
    walk_at "dd"
    exact k
  | str s => exact ⟨_, _, _, _, false, rfl, .ty _, .str _, by rfl, DR.nost_b, by walk_at "dd"; exact k⟩
  | lst l => exact ⟨_, _, _, _, false, rfl, .ty _, .lst _, by rfl, DR.nost_b, by walk_at "dd"; exact k⟩
  | tup l => exact ⟨_, _, _, _, false, rfl, .ty _, .tup _, by rfl, DR.nost_b, by walk_at "dd"; exact k⟩
def sdSeqX : SpD := fun as Q _ => ∃ (x : D) (n : String), as = [.d x] ∧ Pl x n ∧ Q (.d (.bl (isS x))) []
theorem ok_seqX {f : Addr} {fd : FuncData} (G : Fun K "is_sequence" "is_sequence" s_is_sequence f fd) (T : TxtN mg) : FnOk P w K mg base (L2.CX P w) 1 f fd ["thing"] (spOf K sdSeqX) := by
  refine okD G sc_is_sequence [] (fun as Q E ⟨xs, y, e, _⟩ => by subst e; exact ⟨rfl, rfl⟩) ⟨_, fun cdv A outer s H E ad F0 H0 hr => (pds_one (psd_ret (pd_builtB (fun h => pe_callB call_isiT (by rfl) T.b_isinstance (by decide +kernel) h) (cn_isiT (K := K)).op (pda_cons (pd_var (pv 0)) (pda_cons (pd_tup (fun h => pe_tup h) (pda_cons (pd_const (pe_bltn (v := .ty "list") (by rfl) T.b_list (by decide +kernel) rfl) (fun _ => .ty _)) (pda_cons (pd_const (pe_bltn (v := .ty "tuple") (by rfl) T.b_tuple (by decide +kernel) rfl) (fun _ => .ty _)) pda_nil))) pda_nil))))), ?_⟩
  rintro as Qd Ed ⟨x, n, rfl, hx, k⟩
  refine DR.start (δ' := [some (.d x)]) rfl ?_
  walk_at "dd"
  cases hx with
  | non => exact ⟨_, _, _, _, false, rfl, .cons (.ty _) (.cons (.ty _) .nil), .non, rfl, DR.nost_b, by walk_at "dd"; exact k⟩
  | bl b => exact ⟨_, _, _, _, false, rfl, .cons (.ty _) (.cons (.ty _) .nil), .bl _, rfl, DR.nost_b, by walk_at "dd"; exact k⟩
  | int i => exact ⟨_, _, _, _, false, rfl, .cons (.ty _) (.cons (.ty _) .nil), .int _, rfl, DR.nost_b, by walk_at "dd"; exact k⟩
  | str s => exact ⟨_, _, _, _, false, rfl, .cons (.ty _) (.cons (.ty _) .nil), .str _, rfl, DR.nost_b, by walk_at "dd"; exact k⟩
  | lst l => exact ⟨_, _, _, _, true, rfl, .cons (.ty _) (.cons (.ty _) .nil), .lst _, rfl, DR.nost_b, by walk_at "dd"; exact k⟩
  | tup l => exact ⟨_, _, _, _, true, rfl, .cons (.ty _) (.cons (.ty _) .nil), .tup _, rfl, DR.nost_b, by walk_at "dd"; exact k⟩
def isR (n : Nat) (x : D) : Bool := isS x && decide ((seqOf x).length = n)
def sdRowX : SpD := fun as Q _ => ∃ (x : D) (t : String) (n : Nat), as = [.d x, .d (.int n)] ∧ Pl x t ∧ n ≤ 1000 ∧ Q (.d (.bl (isR n x))) []
theorem ok_rowX (D_is_sequence : DefD P w K mg base "is_sequence" 1 ["thing"] sdSeqX) {f : Addr} {fd : FuncData} (G : Fun K "is_row" "is_row" s_is_row f fd) (T : TxtN mg) : FnOk P w K mg base (L2.CX P w) 3 f fd ["thing", "length"] (spOf K sdRowX) := by
  refine okD G sc_is_row [] (fun as Q E ⟨xs, y, n, e, _⟩ => by subst e; exact ⟨rfl, rfl⟩) ⟨_, fun cdv A outer s H E ad F0 H0 hr => (pds_one (psd_ret (pd_and (pd_call D_is_sequence.ok (hr.mono (by decide)) (by rfl) D_is_sequence.mg D_is_sequence.kp D_is_sequence.b (takes_of rfl rfl rfl rfl) (pda_cons (pd_var (pv 0)) pda_nil)) (pd_one (pd_cmp op_eq op2_eq.op (pd_builtB (fun h => pe_callB call_len_seq (by rfl) T.b_len (by decide +kernel) h) cn_len.op (pda_cons (pd_var (pv 0)) pda_nil)) (pd_var (pv 1)) (nomark _)))))), ?_⟩
  rintro as Qd Ed ⟨x, t, n, rfl, hx, hn, k⟩
  refine DR.start (δ' := [some (.d x), some (.d (.int n))]) rfl ?_
  walk_at "dd"
  refine ⟨x, t, rfl, hx, ?_⟩
  have e : ∀ l : List D, decide (V.int (l.length : Int) = V.int (n : Int)) = decide (l.length = n) := fun l => decide_eq_decide.mpr ⟨fun q => by injection q with q; omega, fun q => by rw [q]⟩
  have no : isS x = false → isR n x = false := fun h => by unfold isR; rw [h]; rfl
  have yes : isS x = true → isR n x = decide ((seqOf x).length = n) := fun h => by unfold isR; rw [h]; rfl
  cases q : isS x with
  | false =>
    rw [no q] at k
    walk_at "dd"
    exact k
  | true =>
    rw [yes q] at k
    cases hx with
    | lst l =>
      walk_at "dd"
      rw [if_neg Bool.false_ne_true, e]
      exact k
    | tup l =>
      walk_at "dd"
      rw [if_neg Bool.false_ne_true, e]
      exact k
    | _ => cases q
def isN (n : Nat) (x : D) : Bool := isR n x && (seqOf x).all isI
def AllPl (x : D) : Prop := ∀ d ∈ seqOf x, ∃ n, Pl d n
def sdNumX : SpD := fun as Q _ => ∃ (x : D) (t : String) (n : Nat), as = [.d x, .d (.int n)] ∧ Pl x t ∧ AllPl x ∧ n ≤ 1000 ∧ Q (.d (.bl (isN n x))) []
abbrev s_is_number_row : Stmt := top 19
theorem sc_is_number_row : FnScope ["thing", "length", "number"] ["thing", "length"] (defScope s_is_number_row) := ⟨rfl, rfl, rfl, by decide +kernel, rfl, by decide +kernel, by decide +kernel⟩
theorem ok_numX (D_is_row : DefD P w K mg base "is_row" 3 ["thing", "length"] sdRowX) (D_is_integer : DefD P w K mg base "is_integer" 1 ["thing"] sdIntX) {f : Addr} {fd : FuncData} (G : Fun K "is_number_row" "is_number_row" s_is_number_row f fd) (T : TxtN mg) : FnOk P w K mg base (L2.CX P w) 5 f fd ["thing", "length"] (spOf K sdNumX) := by
  refine okD G sc_is_number_row [] (fun as Q E ⟨xs, y, n, e, _⟩ => by subst e; exact ⟨rfl, rfl⟩) ⟨_, fun cdv A outer s H E ad F0 H0 hr => (pds_one (psd_ret (pd_and (pd_call D_is_row.ok (hr.mono (by decide)) (by rfl) D_is_row.mg D_is_row.kp D_is_row.b (takes_of rfl rfl rfl rfl) (pda_cons (pd_var (pv 0)) (pda_cons (pd_var (pv 1)) pda_nil))) (pd_one (pd_builtB (fun h => pe_callB (cr_all rfl) (by rfl) T.b_all (by decide +kernel) h) cn_all.op (pda_cons (pd_lc (own := [("number", 2)]) (by rfl) sc_is_number_row.nd (pid_seq (pd_var (pv 0))) (blkOk_by (own := [("number", 2)]) (N := ["thing", "length", "number"]) (sc := defScope s_is_number_row) (by decide +kernel)) (fun _ _ _ _ _ => (pgd_name (i := 2) (vs := [2]) (pg_name (i := 2) sc_is_number_row.nd rfl (.inl rfl)) (by show ¬ (2 ∈ ([] : List Nat)); decide) (by decide))) (fun _ _ _ _ _ => ptsd_nil) (fun _ _ _ _ _ => (pd_call D_is_integer.ok (hr.mono (by decide)) (by rfl) D_is_integer.mg D_is_integer.kp D_is_integer.b takes0 (pda_cons (pd_var (pv 2)) pda_nil))) (by show ∀ i ∈ ([2] : List Nat), ¬ (i ∈ ([] : List Nat)); decide)) pda_nil)))))), ?_⟩
  rintro as Qd Ed ⟨x, t, n, rfl, hx, ha, hn, k⟩
  refine DR.start (δ' := [some (.d x), some (.d (.int n)), none]) rfl ?_
  walk_at "dd"
  refine ⟨x, t, n, rfl, hx, hn, ?_⟩
  cases q : isR n x with
  | false =>
    rw [show isN n x = false by unfold isN; rw [q]; rfl] at k
    walk_at "dd"
    exact k
  | true =>
    rw [show isN n x = (seqOf x).all isI by unfold isN; rw [q]; rfl] at k
    have hlen : (seqOf x).length = n := by
      unfold isR at q
      rw [Bool.and_eq_true] at q
      exact of_decide_eq_true q.2
    walk_at "dd"
    have ea : ∀ l : List D, (l.map isI).all id = l.all isI := fun l => by rw [List.all_map]; rfl
    cases hx with
    | lst l =>
      refine DR.seqL ?_
      walk_at "dd"
      refine DR.lc_map (fun d => D.bl (isI d)) (fun d acc N hd hl kN => ?_) ?_
      · obtain ⟨m, hm⟩ := ha d hd
        walk_at "dd"
        refine ⟨d, m, rfl, hm, ?_⟩
        exact ⟨Nat.lt_of_lt_of_le hl (Nat.le_trans (Nat.le_of_eq hlen) (Nat.le_trans hn (by decide))), kN⟩
      walk_at "dd"
      refine ⟨l.map isI, .inl (by rw [List.map_map]; rfl), ?_⟩
      dsimp only
      rw [ea]
      walk_at "dd"
      exact k
    | tup l =>
      refine DR.seqT ?_
      walk_at "dd"
      refine DR.lc_map (fun d => D.bl (isI d)) (fun d acc N hd hl kN => ?_) ?_
      · obtain ⟨m, hm⟩ := ha d hd
        walk_at "dd"
        refine ⟨d, m, rfl, hm, ?_⟩
        exact ⟨Nat.lt_of_lt_of_le hl (Nat.le_trans (Nat.le_of_eq hlen) (Nat.le_trans hn (by decide))), kN⟩
      walk_at "dd"
      refine ⟨l.map isI, .inl (by rw [List.map_map]; rfl), ?_⟩
      dsimp only
      rw [ea]
      walk_at "dd"
      exact k
    | _ => unfold isR at q; cases q
/-! ### names -/
def sdNameX : SpD := fun as Q _ => ∃ (x : D) (n : String), as = [.d x] ∧ Pl x n ∧ (∀ z, x = .str z → z.length ≤ 1000) ∧ Q (.d (.bl (nmD x))) []
theorem ok_nameX {f : Addr} {fd : FuncData} (G : Fun K "is_name" "is_name" s_is_name f fd) (T : TxtN mg) : FnOk P w K mg base (L2.CX P w) 1 f fd ["thing"] (spOf K sdNameX) := by
  obtain ⟨_, k__LETTERS⟩ := T.k__LETTERS
  obtain ⟨_, k__LONGEST_NAME⟩ := T.k__LONGEST_NAME
  refine okD G sc_is_name [] (fun as Q E ⟨xs, n, e, _⟩ => by subst e; exact ⟨rfl, rfl⟩) ⟨_, fun cdv A outer s H E ad F0 H0 hr => (pds_cons (psd_if (PW.pt (pwd_or (ptd_not (ptd_val (pd_builtB (fun h => pe_callB call_isi (by rfl) T.b_isinstance (by decide +kernel) h) (cn_isi (K := K)).op (pda_cons (pd_var (pv 0)) (pda_cons (pd_const (pe_bltn (v := .ty "str") (by rfl) T.b_str (by decide +kernel) rfl) (fun _ => .ty _)) pda_nil))) (fun h => pt_val h))) (pwd_or1 (ptd_not (ptd_chain op_le (op2_I0 fun _ _ _ => .bl _) op_le (op2_I0 fun _ _ _ => .bl _) (pd_const pe_int (fun _ => .int _)) (pd_builtB (fun h => pe_callB call_len_str (by rfl) T.b_len (by decide +kernel) h) cn_lenS.op (pda_cons (pd_var (pv 0)) pda_nil)) (pd_const (pe_glob (v := (.int 12)) rfl k__LONGEST_NAME ⟨_, rfl⟩) (fun _ => .int _)) (by with_unfolding_all rfl)))))) (pds_one (psd_ret (pd_const pe_bl (fun _ => .bl _)))) pds_nil)
      (pds_one (psd_ret (pd_builtB (fun h => pe_callB (cr_all rfl) (by rfl) T.b_all (by decide +kernel) h) cn_all.op (pda_cons (pd_lc (own := [("letter", 1)]) (by rfl) sc_is_name.nd (pid_str (pd_var (pv 0))) (blkOk_by (own := [("letter", 1)]) (N := ["thing", "letter"]) (sc := defScope s_is_name) (by decide +kernel)) (fun _ _ _ _ _ => (pgd_name (i := 1) (vs := [1]) (pg_name (i := 1) sc_is_name.nd rfl (.inl rfl)) (by show ¬ (1 ∈ ([] : List Nat)); decide) (by decide))) (fun _ _ _ _ _ => ptsd_nil) (fun _ _ _ _ _ => (pd_cmp op_in_sign op2_inSign.op (pd_var (pv 1)) (pd_const (pe_glob (v := (.str "abcdefghijklmnopqrstuvwxyz")) rfl k__LETTERS ⟨_, rfl⟩) (fun _ => .str (by decide +kernel))) rfl)) (by show ∀ i ∈ ([1] : List Nat), ¬ (i ∈ ([] : List Nat)); decide)) pda_nil))))), ?_⟩
  rintro as Qd Ed ⟨x, n, rfl, hx, hz, k⟩
  refine DR.start (δ' := [some (.d x), none]) rfl ?_
  walk_at "dd"
  cases hx with
  | str g =>
    have hz := hz g rfl
    refine ⟨_, _, _, _, true, rfl, .ty _, .str _, kit_self, ?_⟩
    walk_at "dd"
    refine ⟨Nat.le_trans hz (by decide), ?_⟩
    walk_at "dd"
    by_cases c1 : 1 ≤ g.length
    · rw [show decide (1 ≤ (g.length : Int)) = true from decide_eq_true (by omega)]
      walk_at "dd"
      by_cases c2 : g.length ≤ 12
      · rw [show decide ((g.length : Int) ≤ 12) = true from decide_eq_true (by omega)]
        walk_at "dd"
        refine DR.lc_mapM (fun c => D.bl (decide (c ∈ (Str.ofString "abcdefghijklmnopqrstuvwxyz").cps.toList))) (fun ch acc N hc hl kN => ?_) ?_
        · walk_at "dd"
          refine ⟨Nat.lt_of_lt_of_le hl (Nat.le_trans (show g.cps.toList.length ≤ 1000 by rw [Array.length_toList]; exact hz) (by decide)), ?_⟩
          rw [if_neg Bool.false_ne_true]
          exact kN
        · walk_at "dd"
          refine ⟨g.cps.toList.map fun c => decide (c ∈ (Str.ofString "abcdefghijklmnopqrstuvwxyz").cps.toList), .inl (by rw [List.map_map]; rfl), ?_⟩
          walk_at "dd"
          rw [show nmD (.str g) = low g by show nmB g = _; unfold nmB; rw [decide_eq_true c1, decide_eq_true c2]; rfl] at k
          dsimp only
          rw [List.all_map]
          exact k
      · rw [show decide ((g.length : Int) ≤ 12) = false from decide_eq_false (by omega)]
        walk_at "dd"
        rw [show nmD (.str g) = false by show nmB g = _; unfold nmB; rw [decide_eq_false c2, Bool.and_false]; rfl] at k
        exact k
    · rw [show decide (1 ≤ (g.length : Int)) = false from decide_eq_false (by omega)]
      walk_at "dd"
      rw [show nmD (.str g) = false by show nmB g = _; unfold nmB; rw [decide_eq_false c1]; rfl] at k
      exact k
  | non =>
    refine ⟨_, _, _, _, false, rfl, .ty _, .non, by rfl, ?_⟩
    walk_at "dd"
    exact k
  | bl b =>
    refine ⟨_, _, _, _, false, rfl, .ty _, .bl _, by rfl, ?_⟩
    walk_at "dd"
    exact k
  | int i =>
    refine ⟨_, _, _, _, false, rfl, .ty _, .int _, by rfl, ?_⟩
    walk_at "dd"
    exact k
  | lst l =>
    refine ⟨_, _, _, _, false, rfl, .ty _, .lst _, by rfl, ?_⟩
    walk_at "dd"
    exact k
  | tup l =>
    refine ⟨_, _, _, _, false, rfl, .ty _, .tup _, by rfl, ?_⟩
    walk_at "dd"
    exact k
/-! ### goods -/
theorem any_str {s : Str} : ∀ {ns : List Str}, ((pyL (ns.map D.str)).any fun z => PyData.eqv z (D.str s).py) = decide (s ∈ ns)
  | [] => by simp [pyL]
  | a :: ns => by
    rw [List.map_cons]
    simp only [pyL, List.any_cons]
    rw [any_str, eqv_str]
    by_cases e : a = s
    · simp [e]
    · simp [e, Ne.symm e]
def txs (ds : List D) : List Str := ds.filterMap fun d => match d with
  | .str z => some z
  | _ => none
theorem txs_map {ds : List D} (h : ds.all nmD = true) : ds = (txs ds).map .str := by
  induction ds with
  | nil => rfl
  | cons d ds ih =>
    rw [List.all_cons, Bool.and_eq_true] at h
    cases d with
    | str z =>
      show _ = D.str z :: (txs ds).map .str
      rw [← ih h.2]
    | _ => exact absurd h.1 (by simp [nmD])
/-- what is wrong with goods, by the words in their order -/
def goodsW (x : D) : Option Str :=
  if isS x = false ∨ (seqOf x).length < 1 ∨ 5 < (seqOf x).length then some "goods"
  else if (seqOf x).all nmD = false then some "name"
  else if cash ∈ txs (seqOf x) then some "cash"
  else if (txs (seqOf x)).Nodup then none else some "double"
def FewT (x : D) : Prop := ∀ d ∈ seqOf x, ∀ z, d = .str z → z.length ≤ 1000
theorem low_ok {z : Str} (h : low z = true) : ∀ c ∈ z.cps.toList, 97 ≤ c ∧ c ≤ 122 := fun c hc => by
  have q := of_decide_eq_true (List.all_eq_true.mp h c hc)
  have e : ∀ c ∈ (Str.ofString "abcdefghijklmnopqrstuvwxyz").cps.toList, 97 ≤ c ∧ c ≤ 122 := by decide +kernel
  exact e c q
theorem nmB_nm {z : Str} (h : nmB z = true) (hc : z ≠ cash) : Nm z := by
  unfold nmB at h
  rw [Bool.and_eq_true, Bool.and_eq_true] at h
  exact ⟨hc, of_decide_eq_true h.1.1, of_decide_eq_true h.1.2, low_ok h.2⟩
theorem nm_nmB {z : Str} (h : Nm z) : nmB z = true := by
  obtain ⟨_, h1, h2, h3⟩ := h
  unfold nmB low
  rw [decide_eq_true h1, decide_eq_true h2, Bool.true_and, Bool.true_and]
  exact List.all_eq_true.mpr fun c hc => decide_eq_true (in_abz (h3 c hc))
theorem txs_str {gs : List Str} : txs (gs.map .str) = gs := by
  induction gs with
  | nil => rfl
  | cons g gs ih => exact congrArg (g :: ·) ih
/-- right goods -/
theorem goodsW_none {x : D} (h : goodsW x = none) : ∃ gs, RowOf x (gs.map .str) ∧ Goods gs := by
  unfold goodsW at h
  split at h
  · cases h
  · rename_i h1
    split at h
    · cases h
    · rename_i h2
      split at h
      · cases h
      · rename_i h3
        split at h
        · rename_i h4
          have ha : (seqOf x).all nmD = true := by simpa using h2
          refine ⟨txs (seqOf x), ?_, h4, ?_, ?_, fun g hg => ?_⟩
          · rw [← txs_map ha]
            cases x <;> first | exact .inl rfl | exact .inr rfl | (exact absurd (.inl rfl) h1)
          · have := congrArg List.length (txs_map ha); rw [List.length_map] at this; omega
          · have := congrArg List.length (txs_map ha); rw [List.length_map] at this; omega
          · have hm : D.str g ∈ seqOf x := by rw [txs_map ha]; exact List.mem_map_of_mem hg
            exact nmB_nm (List.all_eq_true.mp ha _ hm) fun e => h3 (e ▸ hg)
        · cases h
theorem goodsW_ok {x : D} {gs : List Str} (hx : RowOf x (gs.map .str)) (hg : Goods gs) : goodsW x = none := by
  have e : seqOf x = gs.map .str := by rcases hx with rfl | rfl <;> rfl
  have s : isS x = true := by rcases hx with rfl | rfl <;> rfl
  unfold goodsW
  rw [e, txs_str, s, List.length_map]
  have h1 := hg.2.1
  have h2 := hg.2.2.1
  have n1 : ¬ (true = false ∨ gs.length < 1 ∨ 5 < gs.length) := by rintro (h | h | h); cases h; omega; omega
  have n2 : ¬ ((gs.map D.str).all nmD = false) := by
    simp only [Bool.not_eq_false]
    exact List.all_eq_true.mpr fun d hd => by obtain ⟨g, h, rfl⟩ := List.mem_map.mp hd; exact nm_nmB (hg.2.2.2 g h)
  have n3 : ¬ cash ∈ gs := fun h => (hg.2.2.2 _ h).1 rfl
  rw [if_neg n1, if_neg n2, if_neg n3, if_pos hg.1]
def sdGoodsX (BG : Addr) : SpD := fun as Q E => ∃ (x : D) (n : String), as = [.d x] ∧ Pl x n ∧ AllPl x ∧ FewT x ∧ (seqOf x).length ≤ 1000 ∧ (∀ gs, RowOf x (gs.map .str) → Goods gs → Q (.d (.tup (gs.map .str))) []) ∧ (∀ v, goodsW x = some v → E ⟨BG, some [("what", .str v)]⟩ [])
theorem ok_goodsX (X_BadGoods : DefX P w K mg base "BadGoods" BG ["what"]) (D_is_sequence : DefD P w K mg base "is_sequence" 1 ["thing"] sdSeqX) (D_is_name : DefD P w K mg base "is_name" 1 ["thing"] sdNameX) {f : Addr} {fd : FuncData} (G : Fun K "checked_goods" "checked_goods" s_checked_goods f fd) (T : TxtN mg) : FnOk P w K mg base (L2.CX P w) 3 f fd ["goods"] (spOf K (sdGoodsX BG)) := by
  obtain ⟨_, k__CASH⟩ := T.k__CASH
  obtain ⟨_, k__MOST_GOODS⟩ := T.k__MOST_GOODS
  refine okD G sc_checked_goods [] (fun as Q E ⟨xs, y, e, _⟩ => by subst e; exact ⟨rfl, rfl⟩) ⟨_, fun cdv A outer s H E ad F0 H0 hr => (pds_cons (psd_if (PW.pt (pwd_or (ptd_not (ptd_val (pd_call D_is_sequence.ok (hr.mono (by decide)) (by rfl) D_is_sequence.mg D_is_sequence.kp D_is_sequence.b (takes_of rfl rfl rfl rfl) (pda_cons (pd_var (pv 0)) pda_nil)) (fun h => pt_val h))) (pwd_or1 (ptd_not (ptd_chain op_le (op2_I0 fun _ _ _ => .bl _) op_le (op2_I0 fun _ _ _ => .bl _) (pd_const pe_int (fun _ => .int _)) (pd_builtB (fun h => pe_callB call_len_seq (by rfl) T.b_len (by decide +kernel) h) cn_len.op (pda_cons (pd_var (pv 0)) pda_nil)) (pd_const (pe_glob (v := (.int 5)) rfl k__MOST_GOODS ⟨_, rfl⟩) (fun _ => .int _)) (by with_unfolding_all rfl)))))) (pds_one (psd_raiseR rfl (takes_of rfl rfl rfl rfl) (fun h => pmk_oex X_BadGoods.ox X_BadGoods.ini X_BadGoods.ty X_BadGoods.ok (hr.mono (by decide)) X_BadGoods.b .nil pass0 (by rfl) X_BadGoods.mg h) (pda_cons (pd_const pe_str (fun _ => .str (by decide +kernel))) pda_nil))) pds_nil)
      (pds_cons (psd_set (i := 1) (pd_builtB (fun h => pe_callTy call_tuple_of (by rfl) T.b_tuple (by decide +kernel) h) cn_tuple (pda_cons (pd_var (pv 0)) pda_nil)) (by show ¬ (1 ∈ ([] : List Nat)); decide) sc_checked_goods.nd rfl (.inl rfl))
      (pds_cons (psd_if (ptd_not (ptd_val (pd_builtB (fun h => pe_callB (cr_all rfl) (by rfl) T.b_all (by decide +kernel) h) cn_all.op (pda_cons (pd_lc (own := [("good", 2)]) (by rfl) sc_checked_goods.nd (pid_tup (pd_var (pv 1))) (blkOk_by (own := [("good", 2)]) (N := ["goods", "told", "good"]) (sc := defScope s_checked_goods) (by decide +kernel)) (fun _ _ _ _ _ => (pgd_name (i := 2) (vs := [2]) (pg_name (i := 2) sc_checked_goods.nd rfl (.inl rfl)) (by show ¬ (2 ∈ ([] : List Nat)); decide) (by decide))) (fun _ _ _ _ _ => ptsd_nil) (fun _ _ _ _ _ => (pd_call D_is_name.ok (hr.mono (by decide)) (by rfl) D_is_name.mg D_is_name.kp D_is_name.b takes0 (pda_cons (pd_var (pv 2)) pda_nil))) (by show ∀ i ∈ ([2] : List Nat), ¬ (i ∈ ([] : List Nat)); decide)) pda_nil)) (fun h => pt_val h))) (pds_one (psd_raiseR rfl (takes_of rfl rfl rfl rfl) (fun h => pmk_oex X_BadGoods.ox X_BadGoods.ini X_BadGoods.ty X_BadGoods.ok (hr.mono (by decide)) X_BadGoods.b .nil pass0 (by rfl) X_BadGoods.mg h) (pda_cons (pd_const pe_str (fun _ => .str (by decide +kernel))) pda_nil))) pds_nil)
      (pds_cons (psd_if (ptd_cmp (op_inT (units65 hr)) (op2_inT false).op (pd_const (pe_glob (v := (.str "cash")) rfl k__CASH ⟨_, rfl⟩) (fun _ => .str (by decide +kernel))) (pd_var (pv 1)) rfl) (pds_one (psd_raiseR rfl (takes_of rfl rfl rfl rfl) (fun h => pmk_oex X_BadGoods.ox X_BadGoods.ini X_BadGoods.ty X_BadGoods.ok (hr.mono (by decide)) X_BadGoods.b .nil pass0 (by rfl) X_BadGoods.mg h) (pda_cons (pd_const pe_str (fun _ => .str (by decide +kernel))) pda_nil))) pds_nil)
      (pds_cons (psd_if (ptd_cmp op_lt (op2_I0 fun _ _ _ => .bl _) (pd_lenSet (fun h => RS.pe_lenSetT rfl (by rfl) T.b_len (by rfl) T.b_set h) (pd_var (pv 1))) (pd_builtB (fun h => pe_callB call_len_seq (by rfl) T.b_len (by decide +kernel) h) cn_len.op (pda_cons (pd_var (pv 1)) pda_nil)) (nomark _)) (pds_one (psd_raiseR rfl (takes_of rfl rfl rfl rfl) (fun h => pmk_oex X_BadGoods.ox X_BadGoods.ini X_BadGoods.ty X_BadGoods.ok (hr.mono (by decide)) X_BadGoods.b .nil pass0 (by rfl) X_BadGoods.mg h) (pda_cons (pd_const pe_str (fun _ => .str (by decide +kernel))) pda_nil))) pds_nil)
      (pds_one (psd_ret (pd_var (pv 1))))))))), ?_⟩
  rintro as Qd Ed ⟨x, n, rfl, hx, ha, hf, hl, k1, k2⟩
  refine DR.start (δ' := [some (.d x), none, none]) rfl ?_
  with_reducible refine DR.cut (fun δ => δ = [some (.d x), none, none] ∧ isS x = true ∧ 1 ≤ (seqOf x).length ∧ (seqOf x).length ≤ 5) (fun N kN => ?_) ?_
  · walk_at "dd"
    refine ⟨x, n, rfl, hx, ?_⟩
    cases q : isS x with
    | false =>
      walk_at "dd"
      exact ⟨rfl, by show 1 ≤ 1000; decide, _, rfl, k2 "goods" (by unfold goodsW; rw [if_pos (.inl q)])⟩
    | true =>
      have step : ∀ y : D, y = x → (y = .lst (seqOf x) ∨ y = .tup (seqOf x)) → True := fun _ _ _ => trivial
      have hz : (seqOf x).length ≤ sizeLine := Nat.le_trans hl (by decide)
      cases hx with
      | lst l =>
        walk_at "dd"
        by_cases c1 : 1 ≤ l.length
        · rw [show decide (1 ≤ (l.length : Int)) = true from decide_eq_true (by omega)]
          walk_at "dd"
          by_cases c2 : l.length ≤ 5
          · rw [show decide ((l.length : Int) ≤ 5) = true from decide_eq_true (by omega)]
            walk_at "dd"
            exact kN _ ⟨rfl, q, c1, c2⟩
          · rw [show decide ((l.length : Int) ≤ 5) = false from decide_eq_false (by omega)]
            walk_at "dd"
            exact ⟨rfl, by show 1 ≤ 1000; decide, _, rfl, k2 "goods" (by unfold goodsW; rw [if_pos (.inr (.inr (by show 5 < l.length; omega)))])⟩
        · rw [show decide (1 ≤ (l.length : Int)) = false from decide_eq_false (by omega)]
          walk_at "dd"
          exact ⟨rfl, by show 1 ≤ 1000; decide, _, rfl, k2 "goods" (by unfold goodsW; rw [if_pos (.inr (.inl (by show l.length < 1; omega)))])⟩
      | tup l =>
        walk_at "dd"
        by_cases c1 : 1 ≤ l.length
        · rw [show decide (1 ≤ (l.length : Int)) = true from decide_eq_true (by omega)]
          walk_at "dd"
          by_cases c2 : l.length ≤ 5
          · rw [show decide ((l.length : Int) ≤ 5) = true from decide_eq_true (by omega)]
            walk_at "dd"
            exact kN _ ⟨rfl, q, c1, c2⟩
          · rw [show decide ((l.length : Int) ≤ 5) = false from decide_eq_false (by omega)]
            walk_at "dd"
            exact ⟨rfl, by show 1 ≤ 1000; decide, _, rfl, k2 "goods" (by unfold goodsW; rw [if_pos (.inr (.inr (by show 5 < l.length; omega)))])⟩
        · rw [show decide (1 ≤ (l.length : Int)) = false from decide_eq_false (by omega)]
          walk_at "dd"
          exact ⟨rfl, by show 1 ≤ 1000; decide, _, rfl, k2 "goods" (by unfold goodsW; rw [if_pos (.inr (.inl (by show l.length < 1; omega)))])⟩
      | _ => cases q
  rintro δ ⟨rfl, q, c1, c2⟩
  with_reducible refine DR.cut (fun δ => δ = [some (.d x), some (.d (.tup (seqOf x))), none]) (fun N kN => ?_) ?_
  · walk_at "dd"
    cases hx with
    | lst l => exact ⟨_, _, rfl, .inl rfl, by walk_at "dd"; exact kN _ rfl⟩
    | tup l => exact ⟨_, _, rfl, .inr (.inr rfl), by walk_at "dd"; exact kN _ rfl⟩
    | _ => cases q
  rintro δ rfl
  walk_at "dd"
  refine DR.lc_map (fun d => D.bl (nmD d)) (fun d acc N hd hl kN => ?_) ?_
  · obtain ⟨m, hm⟩ := ha d hd
    walk_at "dd"
    refine ⟨d, m, rfl, hm, hf d hd, ?_⟩
    exact ⟨Nat.lt_of_lt_of_le hl (Nat.le_trans c2 (by decide)), kN⟩
  walk_at "dd"
  refine ⟨(seqOf x).map nmD, .inl (by rw [List.map_map]; rfl), ?_⟩
  dsimp only
  rw [List.all_map]
  have n1 : ¬ (isS x = false ∨ (seqOf x).length < 1 ∨ 5 < (seqOf x).length) := by rintro (h | h | h); (rw [q] at h; cases h); omega; omega
  cases hn : (seqOf x).all nmD with
  | false =>
    rw [show (seqOf x).all (id ∘ nmD) = false from hn]
    walk_at "dd"
    exact ⟨rfl, by show 1 ≤ 1000; decide, _, rfl, k2 "name" (by unfold goodsW; rw [if_neg n1, if_pos hn])⟩
  | true =>
    rw [show (seqOf x).all (id ∘ nmD) = true from hn]
    have n2 : ¬ ((seqOf x).all nmD = false) := by rw [hn]; exact Bool.noConfusion
    have em := txs_map hn
    have hlen : (txs (seqOf x)).length = (seqOf x).length := by have := congrArg List.length em; rw [List.length_map] at this; omega
    rw [em]
    walk_at "dd"
    refine ⟨_, .inr rfl, dp_str.cmp, (dp_strs _).cmp, ?_⟩
    rw [if_neg Bool.false_ne_true, show ((pyL ((txs (seqOf x)).map D.str)).any fun z => PyData.eqv z (DV.d (D.str "cash")).toD.py) = decide (cash ∈ txs (seqOf x)) from any_str]
    refine ⟨DR.nost_b, _, rfl, ?_⟩
    refine DR.split (fun c => ?_) (fun c => ?_)
    · walk_at "dd"
      exact ⟨rfl, by show 1 ≤ 1000; decide, _, rfl, k2 "cash" (by unfold goodsW; rw [if_neg n1, if_neg n2, if_pos c])⟩
    · walk_at "dd"
      refine ⟨by omega, ?_⟩
      walk_at "dd"
      refine DR.split (fun c2 => ?_) (fun c2 => ?_)
      · rw [List.length_map] at c2
        have nd := (RS.uniq_lt (txs (seqOf x))).mp (by omega)
        walk_at "dd"
        exact ⟨rfl, by show 1 ≤ 1000; decide, _, rfl, k2 "double" (by unfold goodsW; rw [if_neg n1, if_neg n2, if_neg c, if_neg nd])⟩
      · rw [List.length_map] at c2
        have nd : (txs (seqOf x)).Nodup := Decidable.byContradiction fun h => c2 (by have := (RS.uniq_lt (txs (seqOf x))).mpr h; omega)
        walk_at "dd"
        obtain ⟨gs, hr, hg⟩ := goodsW_none (x := x) (by unfold goodsW; rw [if_neg n1, if_neg n2, if_neg c, if_pos nd])
        have e2 : txs (seqOf x) = gs := by rcases hr with rfl | rfl <;> exact txs_str
        rw [e2]
        exact k1 gs hr hg
end
end KT

set_option Elab.async false
set_option linter.all false
set_option maxRecDepth 100000
set_option maxHeartbeats 0
set_option pp.deepTerms false
set_option pp.deepTerms.threshold 8


namespace KT
open PySem PySem.Spec PyProof.Rows L2 DL
abbrev ppD (p : Str × Int) : D := .tup [.str p.1, .int p.2]
/-- what a position holds -/
def posFs (gs : List Str) (js : List Int) : List (Str × D) := [("goods", .tup (gs.map .str)), ("counts", .tup (js.map .int)), ("_rows", .tup ((gs.zip js).map ppD))]
abbrev posD (C : Addr) (gs : List Str) (js : List Int) : D := .obj C (posFs gs js)
/-- a right position -/
def Po (gs : List Str) (js : List Int) : Prop := Goods gs ∧ js.length = gs.length
theorem zip_pp : ∀ {gs : List Str} {js : List Int}, zipL (gs.map .str) (js.map .int) = (gs.zip js).map ppD
  | [], _ => rfl
  | _ :: _, [] => rfl
  | g :: gs, j :: js => congrArg (D.tup [.str g, .int j] :: ·) (zip_pp (gs := gs) (js := js))
theorem itT {c : Bool} {a b : Prop} (e : c = true) (h : a) : if c = true then a else b := by rw [if_pos e]; exact h
theorem itF {c : Bool} {a b : Prop} (e : c = false) (h : b) : if c = true then a else b := by rw [e, if_neg Bool.false_ne_true]; exact h
/-- plain types that are no class of ours -/
def NotC (n : String) : Prop := n = "list" ∨ n = "tuple" ∨ n = "int" ∨ n = "NoneType"
structure TxtP (K : PySem.W.Frag) (mg : Str → Option Value) (C BR : Addr) : Prop extends TxtN mg where
  cl_Position : Cls K C
  na_Position : ∀ n : Str, (["goods", "counts", "_rows"] : List Str).contains n = true → NoAttr K C n
  c_Position : mg "Position" = some (.ref C)
  b_sum : mg "sum" = none
  c_BadPrices : mg "BadPrices" = some (.ref BR)
  oe_BadPrices : Oex0 K BR
theorem isN_ok {y : D} {js : List Int} (hy : RowOf y (js.map .int)) : isR js.length y = true ∧ isN js.length y = true := by
  have e : seqOf y = js.map .int := by rcases hy with rfl | rfl <;> rfl
  have s : isS y = true := by rcases hy with rfl | rfl <;> rfl
  have r : isR js.length y = true := by unfold isR; rw [s, e, List.length_map, decide_eq_true rfl]; rfl
  refine ⟨r, ?_⟩
  unfold isN
  rw [r, e, Bool.true_and]
  exact List.all_eq_true.mpr fun d hd => by obtain ⟨i, _, rfl⟩ := List.mem_map.mp hd; rfl
theorem pl_row {x : D} {xs : List D} (h : RowOf x xs) : ∃ n, Pl x n := by rcases h with rfl | rfl; exact ⟨_, .lst _⟩; exact ⟨_, .tup _⟩
theorem allpl_ints {x : D} {js : List Int} (h : RowOf x (js.map .int)) : AllPl x := fun d hd => by
  have e : seqOf x = js.map .int := by rcases h with rfl | rfl <;> rfl
  rw [e] at hd; obtain ⟨g, _, rfl⟩ := List.mem_map.mp hd; exact ⟨_, .int _⟩
/-- what may be passed for goods, for counts -/
structure GA (x : D) : Prop where
  pl : ∃ n, Pl x n
  all : AllPl x
  few : FewT x
  len : (seqOf x).length ≤ 1000
structure CA (y : D) : Prop where
  pl : ∃ n, Pl y n
  all : AllPl y
  len : (seqOf y).length ≤ 1000
/-- what is wrong with counts of n goods -/
def cntW (n : Nat) (y : D) : Option Str := if isR n y = false then some ("counts" : Str) else if isN n y = false then some ("count" : Str) else none
theorem cntW_none {n : Nat} {y : D} (h : cntW n y = none) : ∃ js : List Int, RowOf y (js.map .int) ∧ js.length = n := by
  unfold cntW at h
  split at h
  · cases h
  · rename_i h1
    split at h
    · cases h
    · rename_i h2
      have r : isR n y = true := by simpa using h1
      have m : isN n y = true := by simpa using h2
      have ml : n = (seqOf y).length ∧ isS y = true := by
        unfold isR at r
        rw [Bool.and_eq_true] at r
        exact ⟨(of_decide_eq_true r.2).symm, r.1⟩
      have all : (seqOf y).all isI = true := by
        unfold isN at m
        rw [Bool.and_eq_true] at m
        exact m.2
      have key : ∀ l : List D, l.all isI = true → ∃ js : List Int, l = js.map .int := by
        intro l
        induction l with
        | nil => exact fun _ => ⟨[], rfl⟩
        | cons d l ih =>
          intro ha
          rw [List.all_cons, Bool.and_eq_true] at ha
          obtain ⟨js, rfl⟩ := ih ha.2
          cases d with
          | int i => exact ⟨i :: js, rfl⟩
          | _ => exact absurd ha.1 Bool.false_ne_true
      obtain ⟨js, e⟩ := key _ all
      refine ⟨js, ?_, by rw [ml.1, e, List.length_map]⟩
      cases y <;> first | (exact .inl (congrArg _ e)) | (exact .inr (congrArg _ e)) | cases ml.2
theorem cntW_ok {y : D} {js : List Int} (h : RowOf y (js.map .int)) : cntW js.length y = none := by
  have z := isN_ok h
  unfold cntW
  rw [z.1, z.2]
  rfl
section
variable {P : Program} {w : World} {K : PySem.W.Frag} {mg : Str → Option Value} {base : Heap} {C BG BP BR NA : Addr}
theorem goods_any {x : D} {Q : DV → List OC → Prop} {E : Ex → List OC → Prop} (h : GA x) (k1 : ∀ gs, RowOf x (gs.map .str) → Goods gs → Q (.d (.tup (gs.map .str))) []) (k2 : ∀ v, goodsW x = some v → E ⟨BG, some [("what", .str v)]⟩ []) : sdGoodsX BG [.d x] Q E := by
  obtain ⟨n, hn⟩ := h.pl
  exact ⟨x, n, rfl, hn, h.all, h.few, h.len, k1, k2⟩
def sdPInit (C BG BP : Addr) : SpD := fun as Q E => ∃ x y : D, as = [.own (.ins C []), .d x, .d y] ∧ GA x ∧ CA y ∧ (∀ gs js, RowOf x (gs.map .str) → RowOf y (js.map .int) → Po gs js → Q (.d .non) [.ins C (posFs gs js)]) ∧
  (∀ v, goodsW x = some v → ∀ o, E ⟨BG, some [("what", .str v)]⟩ [o]) ∧ (∀ gs, RowOf x (gs.map .str) → Goods gs → ∀ v, cntW gs.length y = some v → ∀ o, E ⟨BP, some [("what", .str v)]⟩ [o])
abbrev s_Position___init : Stmt := inClass (top 28) 0
theorem sc_Position___init : FnScope ["self", "goods", "counts"] ["self", "goods", "counts"] (defScope s_Position___init) := ⟨rfl, rfl, rfl, by decide +kernel, rfl, by decide +kernel, by decide +kernel⟩
theorem ok_pinit (X_BadPosition : DefX P w K mg base "BadPosition" BP ["what"]) (D_checked_goods : DefD P w K mg base "checked_goods" 3 ["goods"] (sdGoodsX BG)) (D_is_row : DefD P w K mg base "is_row" 3 ["thing", "length"] sdRowX) (D_is_number_row : DefD P w K mg base "is_number_row" 5 ["thing", "length"] sdNumX) {f : Addr} {fd : FuncData} (G : Fun K "__init__" "Position.__init__" s_Position___init f fd) (T : TxtP K mg C BR) : FnOk P w K mg base (L2.CX P w) 7 f fd ["self", "goods", "counts"] (spOf K (sdPInit C BG BP)) := by
  refine okD G sc_Position___init [0] (fun as Q E ⟨x, y, e, _⟩ => by subst e; exact ⟨rfl, rfl⟩) ⟨_, fun cdv A outer s H E ad F0 H0 hr => (pds_cons (psd_fld (i := 0) (pv 0) (pd_call D_checked_goods.ok (hr.mono (by decide)) (by rfl) D_checked_goods.mg D_checked_goods.kp D_checked_goods.b (takes_of rfl rfl rfl rfl) (pda_cons (pd_var (pv 1)) pda_nil)) T.cl_Position (T.na_Position _ (by decide)) rfl)
      (pds_cons (psd_if (ptd_not (ptd_val (pd_call D_is_row.ok (hr.mono (by decide)) (by rfl) D_is_row.mg D_is_row.kp D_is_row.b (takes_of rfl rfl rfl rfl) (pda_cons (pd_var (pv 2)) (pda_cons (pd_builtB (fun h => pe_callB call_len_seq (by rfl) T.b_len (by decide +kernel) h) cn_len.op (pda_cons (pd_fldO (i := 0) (pv 0) T.cl_Position (T.na_Position _ (by decide)) rfl) pda_nil)) pda_nil))) (fun h => pt_val h))) (pds_one (psd_raiseR rfl (takes_of rfl rfl rfl rfl) (fun h => pmk_oex X_BadPosition.ox X_BadPosition.ini X_BadPosition.ty X_BadPosition.ok (hr.mono (by decide)) X_BadPosition.b .nil pass0 (by rfl) X_BadPosition.mg h) (pda_cons (pd_const pe_str (fun _ => .str (by decide +kernel))) pda_nil))) pds_nil)
      (pds_cons (psd_if (ptd_not (ptd_val (pd_call D_is_number_row.ok (hr.mono (by decide)) (by rfl) D_is_number_row.mg D_is_number_row.kp D_is_number_row.b (takes_of rfl rfl rfl rfl) (pda_cons (pd_var (pv 2)) (pda_cons (pd_builtB (fun h => pe_callB call_len_seq (by rfl) T.b_len (by decide +kernel) h) cn_len.op (pda_cons (pd_fldO (i := 0) (pv 0) T.cl_Position (T.na_Position _ (by decide)) rfl) pda_nil)) pda_nil))) (fun h => pt_val h))) (pds_one (psd_raiseR rfl (takes_of rfl rfl rfl rfl) (fun h => pmk_oex X_BadPosition.ox X_BadPosition.ini X_BadPosition.ty X_BadPosition.ok (hr.mono (by decide)) X_BadPosition.b .nil pass0 (by rfl) X_BadPosition.mg h) (pda_cons (pd_const pe_str (fun _ => .str (by decide +kernel))) pda_nil))) pds_nil)
      (pds_cons (psd_fld (i := 0) (pv 0) (pd_builtB (fun h => pe_callTy call_tuple_of (by rfl) T.b_tuple (by decide +kernel) h) cn_tuple (pda_cons (pd_var (pv 2)) pda_nil)) T.cl_Position (T.na_Position _ (by decide)) rfl)
      (pds_one (psd_fld (i := 0) (pv 0) (pd_tzip rfl (by rfl) T.b_tuple (by rfl) T.b_zip (pda_cons (pd_fldO (i := 0) (pv 0) T.cl_Position (T.na_Position _ (by decide)) rfl) (pda_cons (pd_fldO (i := 0) (pv 0) T.cl_Position (T.na_Position _ (by decide)) rfl) pda_nil))) T.cl_Position (T.na_Position _ (by decide)) rfl)))))), ?_⟩
  rintro as Qd Ed ⟨x, y, rfl, hx, hy, k1, k2, k3⟩
  refine DR.start (δ' := [some (.own (.ins C [])), some (.d x), some (.d y)]) rfl ?_
  walk_at "dd"
  refine goods_any hx (fun gs hxr hg => ?_) fun v hv => ?_
  · obtain ⟨n, pl⟩ := hy.pl
    have hlen : gs.length ≤ 1000 := Nat.le_trans hg.2.2.1 (by decide)
    walk_at "dd"
    refine ⟨y, n, gs.length, by rw [List.length_map]; rfl, pl, hlen, ?_⟩
    cases q : isR gs.length y with
    | false =>
      walk_at "dd"
      refine ⟨rfl, by show 1 ≤ 1000; decide, ?_⟩
      walk_at "dd"
      exact k3 gs hxr hg _ (by unfold cntW; exact if_pos q) _
    | true =>
      walk_at "dd"
      refine ⟨y, n, gs.length, by rw [List.length_map]; rfl, pl, hy.all, hlen, ?_⟩
      have nq : ¬ isR gs.length y = false := by rw [q]; exact Bool.noConfusion
      cases q2 : isN gs.length y with
      | false =>
        walk_at "dd"
        refine ⟨rfl, by show 1 ≤ 1000; decide, ?_⟩
        walk_at "dd"
        exact k3 gs hxr hg _ (by unfold cntW; rw [if_neg nq]; exact if_pos q2) _
      | true =>
        have nq2 : ¬ isN gs.length y = false := by rw [q2]; exact Bool.noConfusion
        obtain ⟨js, hyr, hl⟩ := cntW_none (n := gs.length) (y := y) (by unfold cntW; rw [if_neg nq]; exact if_neg nq2)
        have k := k1 gs js hxr hyr ⟨hg, hl⟩
        walk_at "dd"
        have k : Qd (.d .non) [.ins C [("goods", .tup (gs.map .str)), ("counts", .tup (js.map .int)), ("_rows", .tup (zipL (gs.map .str) (js.map .int)))]] := by rw [zip_pp]; exact k
        have jl : js.length ≤ 1000 := by omega
        rcases hyr with rfl | rfl
        · refine ⟨_, _, rfl, .inl rfl, ?_⟩
          walk_at "dd"
          refine ⟨by rw [List.length_map, List.length_map, hl], by rw [List.length_map]; exact hlen, ?_⟩
          walk_at "dd"
          exact k
        · refine ⟨_, _, rfl, .inr (.inr rfl), ?_⟩
          walk_at "dd"
          refine ⟨by rw [List.length_map, List.length_map, hl], by rw [List.length_map]; exact hlen, ?_⟩
          walk_at "dd"
          exact k
  · walk_at "dd"
    exact k2 v hv _
/-! ### reading a position: no asset -/
/-- the sum of products -/
def dot (js ks : List Int) : Int := (js.zipWith (fun x y => x * y) ks).sum
theorem zip_ints : ∀ {js ks : List Int}, zipL (js.map .int) (ks.map .int) = (js.zip ks).map fun p => .tup [.int p.1, .int p.2]
  | [], _ => rfl
  | _ :: _, [] => rfl
  | j :: js, k :: ks => congrArg (D.tup [.int j, .int k] :: ·) (zip_ints (js := js) (ks := ks))
def sdWorth (C BR : Addr) : SpD := fun as Q E => ∃ (gs : List Str) (js : List Int) (y : D), as = [.d (posD C gs js), .d y] ∧ Po gs js ∧ CA y ∧ ((∃ ks : List Int, RowOf y (ks.map .int) ∧ ks.length = gs.length ∧ (∀ p ∈ js.zip ks, CMul p.1 p.2) ∧ Q (.d (.int (dot js ks))) []) ∨ (isN gs.length y = false ∧ E ⟨BR, none⟩ []))
abbrev s_Position_worth : Stmt := inClass (top 28) 4
theorem sc_Position_worth : FnScope ["self", "prices", "count", "price"] ["self", "prices"] (defScope s_Position_worth) := ⟨rfl, rfl, rfl, by decide +kernel, rfl, by decide +kernel, by decide +kernel⟩
theorem ok_pworth (D_is_number_row : DefD P w K mg base "is_number_row" 5 ["thing", "length"] sdNumX) {f : Addr} {fd : FuncData} (G : Fun K "worth" "Position.worth" s_Position_worth f fd) (T : TxtP K mg C BR) : FnOk P w K mg base (L2.CX P w) 7 f fd ["self", "prices"] (spOf K (sdWorth C BR)) := by
  refine okD G sc_Position_worth [] (fun as Q E ⟨gs, js, y, e, _⟩ => by subst e; exact ⟨rfl, rfl⟩) ⟨_, fun cdv A outer s H E ad F0 H0 hr => (pds_cons (psd_if (ptd_not (ptd_val (pd_call D_is_number_row.ok (hr.mono (by decide)) (by rfl) D_is_number_row.mg D_is_number_row.kp D_is_number_row.b (takes_of rfl rfl rfl rfl) (pda_cons (pd_var (pv 1)) (pda_cons (pd_builtB (fun h => pe_callB call_len_seq (by rfl) T.b_len (by decide +kernel) h) cn_len.op (pda_cons (pd_fld (pd_var (pv 0)) T.cl_Position (T.na_Position _ (by decide)) rfl) pda_nil)) pda_nil))) (fun h => pt_val h))) (pds_one (psd_raise0 rfl (takes_of rfl rfl rfl rfl) (pmk_own0 T.oe_BadPrices T.c_BadPrices (by rfl)))) pds_nil)
      (pds_one (psd_ret (pd_builtB (fun h => pe_callB (cr_sum rfl) (by rfl) T.b_sum (by decide +kernel) h) cn_sum.op (pda_cons (pd_lc (own := [("count", 2), ("price", 3)]) (by rfl) sc_Position_worth.nd (PI.or (pid_zip (by rfl) T.b_zip (pda_cons (pd_fld (pd_var (pv 0)) T.cl_Position (T.na_Position _ (by decide)) rfl) (pda_cons (pd_var (pv 1)) pda_nil))) (pid_zipM (by rfl) T.b_zip (pda_cons (pd_fld (pd_var (pv 0)) T.cl_Position (T.na_Position _ (by decide)) rfl) (pda_cons (pd_var (pv 1)) pda_nil)))) (blkOk_by (own := [("count", 2), ("price", 3)]) (N := ["self", "prices", "count", "price"]) (sc := defScope s_Position_worth) (by decide +kernel)) (fun _ _ _ _ _ => (pgd_tup (is := [2, 3]) (vs := [2, 3]) (pg_tup rfl (pgs_cons (pg_name (i := 2) sc_Position_worth.nd rfl (.inl rfl)) (pgs_cons (pg_name (i := 3) sc_Position_worth.nd rfl (.inl rfl)) pgs_nil))) rfl (by show ∀ i ∈ ([2, 3] : List Nat), ¬ (i ∈ ([] : List Nat)) ∧ i ∈ ([2, 3] : List Nat); decide))) (fun _ _ _ _ _ => ptsd_nil) (fun _ _ _ _ _ => (pd_op op_mul (op2_I fun _ _ _ => .int _) (pd_var (pv 2)) (pd_var (pv 3)))) (by show ∀ i ∈ ([2, 3] : List Nat), ¬ (i ∈ ([] : List Nat)); decide)) pda_nil))))), ?_⟩
  rintro as Qd Ed ⟨gs, js, y, rfl, hp, hy0, h⟩
  refine DR.start (δ' := [some (.d (posD C gs js)), some (.d y), none, none]) rfl ?_
  obtain ⟨n, pl⟩ := hy0.pl
  walk_at "dd"
  refine ⟨y, n, gs.length, by rw [List.length_map]; rfl, pl, hy0.all, Nat.le_trans hp.1.2.2.1 (by decide), ?_⟩
  rcases h with ⟨ks, hy, hl, hc, k⟩ | ⟨q, k⟩
  case inr =>
    rw [q]
    walk_at "dd"
    exact ⟨_, rfl, k⟩
  have z := isN_ok hy
  rw [hl] at z
  rw [z.2]
  walk_at "dd"
  have hjl : js.length ≤ 5 := by rw [hp.2]; exact hp.1.2.2.1
  have k : Qd (.d (.int ((js.zip ks).map fun p => p.1 * p.2).sum)) [] := by
    have e : ((js.zip ks).map fun p => p.1 * p.2) = js.zipWith (fun x y => x * y) ks := List.map_uncurry_zip_eq_zipWith
    rw [e]; exact k
  have body : ∀ {δ : DSt} {N : List D → DSt → Prop}, True := trivial
  rcases hy with rfl | rfl
  · refine .inr ?_
    walk_at "dd"
    refine ⟨true, false, _, _, _, _, Bool.noConfusion, rfl, rfl, .inl rfl, by rw [List.length_map, List.length_map, hl, hp.2], ?_⟩
    rw [zip_ints]
    refine DR.lc_mapM (l := js.zip ks) (r := fun p : Int × Int => D.tup [.int p.1, .int p.2]) (fun p => D.int (p.1 * p.2)) (fun p acc N hpm hl3 kN => ?_) ?_
    · walk_at "dd"
      refine ⟨hc p hpm, ?_⟩
      walk_at "dd"
      exact ⟨Nat.lt_of_lt_of_le hl3 (Nat.le_trans (by rw [List.length_zip]; exact Nat.le_trans (Nat.min_le_left ..) hjl) (show 5 ≤ sizeLine by decide)), kN⟩
    walk_at "dd"
    refine ⟨(js.zip ks).map fun p => p.1 * p.2, .inl (by rw [List.map_map]; rfl), ?_⟩
    walk_at "dd"
    exact k
  · refine .inl ?_
    walk_at "dd"
    refine ⟨_, _, _, _, rfl, .inr ⟨rfl, rfl⟩, ?_⟩
    rw [zip_ints]
    refine DR.lc_mapM (l := js.zip ks) (r := fun p : Int × Int => D.tup [.int p.1, .int p.2]) (fun p => D.int (p.1 * p.2)) (fun p acc N hpm hl3 kN => ?_) ?_
    · walk_at "dd"
      refine ⟨hc p hpm, ?_⟩
      walk_at "dd"
      exact ⟨Nat.lt_of_lt_of_le hl3 (Nat.le_trans (by rw [List.length_zip]; exact Nat.le_trans (Nat.min_le_left ..) hjl) (show 5 ≤ sizeLine by decide)), kN⟩
    walk_at "dd"
    refine ⟨(js.zip ks).map fun p => p.1 * p.2, .inl (by rw [List.map_map]; rfl), ?_⟩
    walk_at "dd"
    exact k
end
end KT

set_option Elab.async false
set_option linter.all false
set_option maxRecDepth 100000
set_option maxHeartbeats 0
set_option pp.deepTerms false
set_option pp.deepTerms.threshold 8


namespace KT
open PySem PySem.Spec PyProof.Rows L2 DL
structure TxtQ (K : PySem.W.Frag) (mg : Str → Option Value) (C BR OG : Addr) : Prop extends TxtP K mg C BR where
  c_OtherGoods : mg "OtherGoods" = some (.ref OG)
  oe_OtherGoods : Oex0 K OG
  si_Position : SlX.SIsi K C
  cr_Position : ClX.CRead K C (.type "type")
  no_list : PySem.W.kitOne K (.type "list") (.ref C) = some false
  no_tup : PySem.W.kitOne K (.type "tuple") (.ref C) = some false
  no_int : PySem.W.kitOne K (.type "int") (.ref C) = some false
  no_non : PySem.W.kitOne K (.type "NoneType") (.ref C) = some false
theorem kit_own {K : PySem.W.Frag} {C : Addr} : PySem.W.kitOne K (.ref C) (.ref C) = some true := by
  unfold PySem.W.kitOne
  exact if_pos (beq_iff_eq.mpr rfl)
section
variable {P : Program} {w : World} {K : PySem.W.Frag} {mg : Str → Option Value} {base : Heap} {C OG BG BP BR : Addr}
theorem ga_row {x : D} {gs : List Str} (hx : RowOf x (gs.map .str)) (hg : Goods gs) : GA x := by
  have e : seqOf x = gs.map .str := by rcases hx with rfl | rfl <;> rfl
  refine ⟨pl_row hx, fun d hd => ?_, fun d hd z hz => ?_, ?_⟩
  · rw [e] at hd; obtain ⟨g, _, rfl⟩ := List.mem_map.mp hd; exact ⟨_, .str _⟩
  · rw [e] at hd; obtain ⟨g, h, rfl⟩ := List.mem_map.mp hd; cases hz; exact Nat.le_trans (hg.2.2.2 _ h).2.2.1 (by decide)
  · rw [e, List.length_map]; exact Nat.le_trans hg.2.2.1 (by decide)
theorem ca_row {y : D} {js : List Int} (hy : RowOf y (js.map .int)) (hl : js.length ≤ 1000) : CA y := by
  have e : seqOf y = js.map .int := by rcases hy with rfl | rfl <;> rfl
  exact ⟨pl_row hy, allpl_ints hy, by rw [e, List.length_map]; exact hl⟩
theorem row_same {x : D} {gs hs : List Str} (a : RowOf x (gs.map .str)) (b : RowOf x (hs.map .str)) : gs = hs := by
  have e1 : txs (seqOf x) = gs := by rcases a with rfl | rfl <;> exact txs_str
  have e2 : txs (seqOf x) = hs := by rcases b with rfl | rfl <;> exact txs_str
  exact e1.symm.trans e2
theorem ints_same {y : D} {js ks : List Int} (a : RowOf y (js.map .int)) (b : RowOf y (ks.map .int)) : js = ks := by
  have e1 : seqOf y = js.map .int := by rcases a with rfl | rfl <;> rfl
  have e2 : seqOf y = ks.map .int := by rcases b with rfl | rfl <;> rfl
  have e := e1.symm.trans e2
  exact (List.map_inj_right (fun _ _ h => D.int.inj h)).mp e
/-- the class is called with right ones -/
theorem init_ok {x y : D} {gs : List Str} {js : List Int} {Q : DV → List OC → Prop} {E : Ex → List OC → Prop} (hx : RowOf x (gs.map .str)) (hy : RowOf y (js.map .int)) (hp : Po gs js) (k : Q (.d .non) [.ins C (posFs gs js)]) : sdPInit C BG BP [.own (.ins C []), .d x, .d y] Q E := by
  refine ⟨x, y, rfl, ga_row hx hp.1, ca_row hy (by rw [hp.2]; exact Nat.le_trans hp.1.2.2.1 (by decide)), fun gs2 js2 h1 h2 _ => ?_, fun v hv o => ?_, fun gs2 h1 _ v hv o => ?_⟩
  · rw [← row_same hx h1, ← ints_same hy h2]; exact k
  · rw [goodsW_ok hx hp.1] at hv; cases hv
  · rw [← row_same hx h1, ← hp.2, cntW_ok hy] at hv; cases hv
def sdPEq (C : Addr) : SpD := fun as Q _ => ∃ (gs : List Str) (js : List Int) (y : D), as = [.d (posD C gs js), .d y] ∧ ((∃ gs2 js2, y = posD C gs2 js2 ∧ Q (.d (.bl (decide (gs = gs2 ∧ js = js2)))) []) ∨ ∃ n, Pl y n ∧ NotC n ∧ Q (.d (.bl false)) [])
abbrev s_Position___eq : Stmt := inClass (top 28) 11
theorem sc_Position___eq : FnScope ["self", "other"] ["self", "other"] (defScope s_Position___eq) := ⟨rfl, rfl, rfl, by decide +kernel, rfl, by decide +kernel, by decide +kernel⟩
theorem ok_peq {f : Addr} {fd : FuncData} (G : Fun K "__eq__" "Position.__eq__" s_Position___eq f fd) (T : TxtQ K mg C BR OG) : FnOk P w K mg base (L2.CX P w) 1 f fd ["self", "other"] (spOf K (sdPEq C)) := by
  refine okD G sc_Position___eq [] (fun as Q E ⟨gs, js, y, e, _⟩ => by subst e; exact ⟨rfl, rfl⟩) ⟨_, fun cdv A outer s H E ad F0 H0 hr => (pds_one (psd_ret (pd_and (pd_builtB (fun h => pe_callB call_isi (by rfl) T.b_isinstance (by decide +kernel) h) (cn_isi (K := K)).op (pda_cons (pd_var (pv 1)) (pda_cons (pd_const (pe_glob (v := .ref C) rfl T.c_Position rfl) (fun _ => .adr _)) pda_nil))) (pd_and (pd_cmp (op_eqD hr.units) op2_eqD.op (pd_fld (pd_var (pv 0)) T.cl_Position (T.na_Position _ (by decide)) rfl) (pd_fld (pd_var (pv 1)) T.cl_Position (T.na_Position _ (by decide)) rfl) (nomark _)) (pd_one (pd_cmp (op_eqD hr.units) op2_eqD.op (pd_fld (pd_var (pv 0)) T.cl_Position (T.na_Position _ (by decide)) rfl) (pd_fld (pd_var (pv 1)) T.cl_Position (T.na_Position _ (by decide)) rfl) (nomark _))))))), ?_⟩
  rintro as Qd Ed ⟨gs, js, y, rfl, h⟩
  refine DR.start (δ' := [some (.d (posD C gs js)), some (.d y)]) rfl ?_
  walk_at "dd"
  rcases h with ⟨gs2, js2, rfl, k⟩ | ⟨n, hp, hn, k⟩
  · refine ⟨_, _, _, _, true, rfl, .own C, .obj T.cl_Position T.si_Position, kit_own, ?_⟩
    walk_at "dd"
    refine eqd_t (dp_strs gs).cmp (dp_strs gs2).cmp eqv_names ?_
    walk_at "dd"
    by_cases c : gs = gs2
    · rw [decide_eq_true c]
      walk_at "dd"
      refine eqd_t (dp_ints js).cmp (dp_ints js2).cmp (eqv_tups eqv_ints) ?_
      walk_at "dd"
      by_cases c2 : js = js2
      · rw [decide_eq_true c2]
        rw [decide_eq_true ⟨c, c2⟩] at k
        exact k
      · rw [decide_eq_false c2]
        rw [decide_eq_false (fun z => c2 z.2)] at k
        exact k
    · rw [decide_eq_false c]
      walk_at "dd"
      rw [decide_eq_false (fun z => c z.1)] at k
      exact k
  · have hk : PySem.W.kitOne K (.type n) (.ref C) = some false := by
      rcases hn with rfl | rfl | rfl | rfl
      · exact T.no_list
      · exact T.no_tup
      · exact T.no_int
      · exact T.no_non
    refine ⟨_, _, _, _, false, rfl, .own C, hp.ty, hk, ?_⟩
    walk_at "dd"
    exact k
end
end KT

set_option Elab.async false
set_option linter.all false
set_option maxRecDepth 100000
set_option maxHeartbeats 0
set_option pp.deepTerms false
set_option pp.deepTerms.threshold 8


namespace KT
open PySem PySem.Spec PyProof.Rows L2 DL
/-! ### closings -/
def cloFs (w b p c : Int) : List (Str × D) := [("worth", .int w), ("before", .int b), ("paid", .int p), ("cash", .int c)]
abbrev cloD (CL : Addr) (w b p c : Int) : D := .obj CL (cloFs w b p c)
structure TxtC (K : PySem.W.Frag) (mg : Str → Option Value) (C BR OG CL : Addr) : Prop extends TxtQ K mg C BR OG where
  cl_Closing : Cls K CL
  na_Closing : ∀ n : Str, (["worth", "before", "paid", "cash"] : List Str).contains n = true → NoAttr K CL n
  c_Closing : mg "Closing" = some (.ref CL)
  si_Closing : SlX.SIsi K CL
  noC_tup : PySem.W.kitOne K (.type "tuple") (.ref CL) = some false
section
variable {P : Program} {w : World} {K : PySem.W.Frag} {mg : Str → Option Value} {base : Heap} {C OG BG BP BR CL : Addr}
def sdCInit (CL : Addr) : SpD := fun as Q _ => ∃ w b p c : Int, as = [.own (.ins CL []), .d (.int w), .d (.int b), .d (.int p), .d (.int c)] ∧ Q (.d .non) [.ins CL (cloFs w b p c)]
abbrev s_Closing___init : Stmt := inClass (top 2) 0
theorem sc_Closing___init : FnScope ["self", "worth", "before", "paid", "cash"] ["self", "worth", "before", "paid", "cash"] (defScope s_Closing___init) := ⟨rfl, rfl, rfl, by decide +kernel, rfl, by decide +kernel, by decide +kernel⟩
theorem ok_cinit {f : Addr} {fd : FuncData} (G : Fun K "__init__" "Closing.__init__" s_Closing___init f fd) (T : TxtC K mg C BR OG CL) : FnOk P w K mg base (L2.CX P w) 1 f fd ["self", "worth", "before", "paid", "cash"] (spOf K (sdCInit CL)) := by
  refine okD G sc_Closing___init [0] (fun as Q E ⟨x, b, p, c, e, _⟩ => by subst e; exact ⟨rfl, rfl⟩) ⟨_, fun cdv A outer s H E ad F0 H0 hr => (pds_cons (psd_fld (i := 0) (pv 0) (pd_var (pv 1)) T.cl_Closing (T.na_Closing _ (by decide)) rfl)
      (pds_cons (psd_fld (i := 0) (pv 0) (pd_var (pv 2)) T.cl_Closing (T.na_Closing _ (by decide)) rfl)
      (pds_cons (psd_fld (i := 0) (pv 0) (pd_var (pv 3)) T.cl_Closing (T.na_Closing _ (by decide)) rfl)
      (pds_one (psd_fld (i := 0) (pv 0) (pd_var (pv 4)) T.cl_Closing (T.na_Closing _ (by decide)) rfl))))), ?_⟩
  rintro as Qd Ed ⟨x, b, p, c, rfl, k⟩
  refine DR.start (δ' := [some (.own (.ins CL [])), some (.d (.int x)), some (.d (.int b)), some (.d (.int p)), some (.d (.int c))]) rfl ?_
  walk_at "dd"
  exact k
def sdCEq (CL : Addr) : SpD := fun as Q _ => ∃ (w b p c : Int) (y : D), as = [.d (cloD CL w b p c), .d y] ∧ ((∃ w2 b2 p2 c2, y = cloD CL w2 b2 p2 c2 ∧ Q (.d (.bl (decide (w = w2 ∧ b = b2 ∧ p = p2 ∧ c = c2)))) []) ∨ ∃ l, y = .tup l ∧ Q (.d (.bl false)) [])
abbrev s_Closing___eq : Stmt := inClass (top 2) 1
theorem sc_Closing___eq : FnScope ["self", "other"] ["self", "other"] (defScope s_Closing___eq) := ⟨rfl, rfl, rfl, by decide +kernel, rfl, by decide +kernel, by decide +kernel⟩
theorem ok_ceq {f : Addr} {fd : FuncData} (G : Fun K "__eq__" "Closing.__eq__" s_Closing___eq f fd) (T : TxtC K mg C BR OG CL) : FnOk P w K mg base (L2.CX P w) 1 f fd ["self", "other"] (spOf K (sdCEq CL)) := by
  refine okD G sc_Closing___eq [] (fun as Q E ⟨x, b, p, c, y, e, _⟩ => by subst e; exact ⟨rfl, rfl⟩) ⟨_, fun cdv A outer s H E ad F0 H0 hr => (pds_one (psd_ret (pd_and (pd_builtB (fun h => pe_callB call_isi (by rfl) T.b_isinstance (by decide +kernel) h) (cn_isi (K := K)).op (pda_cons (pd_var (pv 1)) (pda_cons (pd_const (pe_glob (v := .ref CL) rfl T.c_Closing rfl) (fun _ => .adr _)) pda_nil))) (pd_and (pd_cmp op_eq op2_eq.op (pd_fld (pd_var (pv 0)) T.cl_Closing (T.na_Closing _ (by decide)) rfl) (pd_fld (pd_var (pv 1)) T.cl_Closing (T.na_Closing _ (by decide)) rfl) (nomark _)) (pd_and (pd_cmp op_eq op2_eq.op (pd_fld (pd_var (pv 0)) T.cl_Closing (T.na_Closing _ (by decide)) rfl) (pd_fld (pd_var (pv 1)) T.cl_Closing (T.na_Closing _ (by decide)) rfl) (nomark _)) (pd_and (pd_cmp op_eq op2_eq.op (pd_fld (pd_var (pv 0)) T.cl_Closing (T.na_Closing _ (by decide)) rfl) (pd_fld (pd_var (pv 1)) T.cl_Closing (T.na_Closing _ (by decide)) rfl) (nomark _)) (pd_one (pd_cmp op_eq op2_eq.op (pd_fld (pd_var (pv 0)) T.cl_Closing (T.na_Closing _ (by decide)) rfl) (pd_fld (pd_var (pv 1)) T.cl_Closing (T.na_Closing _ (by decide)) rfl) (nomark _))))))))), ?_⟩
  rintro as Qd Ed ⟨x, b, p, c, y, rfl, h⟩
  refine DR.start (δ' := [some (.d (cloD CL x b p c)), some (.d y)]) rfl ?_
  walk_at "dd"
  rcases h with ⟨x2, b2, p2, c2, rfl, k⟩ | ⟨l, rfl, k⟩
  · refine ⟨_, _, _, _, true, rfl, .own CL, .obj T.cl_Closing T.si_Closing, kit_own, ?_⟩
    walk_at "dd"
    refine DR.split (fun d1 => ?_) (fun d1 => by walk_at "dd"; rw [decide_eq_false (fun z => d1 z.1)] at k; exact k)
    walk_at "dd"
    refine DR.split (fun d2 => ?_) (fun d2 => by walk_at "dd"; rw [decide_eq_false (fun z => d2 z.2.1)] at k; exact k)
    walk_at "dd"
    refine DR.split (fun d3 => ?_) (fun d3 => by walk_at "dd"; rw [decide_eq_false (fun z => d3 z.2.2.1)] at k; exact k)
    walk_at "dd"
    rw [if_neg Bool.false_ne_true, show decide (V.int c = V.int c2) = decide (x = x2 ∧ b = b2 ∧ p = p2 ∧ c = c2) from decide_eq_decide.mpr ⟨fun z => ⟨d1, d2, d3, V.int.inj z⟩, fun z => by rw [z.2.2.2]⟩]
    exact k
  · refine ⟨_, _, _, _, false, rfl, .own CL, .tup _, T.noC_tup, ?_⟩
    walk_at "dd"
    exact k
def sdClose (CL C BR : Addr) : SpD := fun as Q E => ∃ (gs : List Str) (js : List Int) (y : D) (c : Int), as = [.d (.int c), .d (posD C gs js), .d y] ∧ Po gs js ∧ CA y ∧ ((∃ ks : List Int, RowOf y (ks.map .int) ∧ ks.length = gs.length ∧ (∀ p ∈ js.zip ks, CMul p.1 p.2) ∧ Q (.d (cloD CL (dot js ks) (c + dot js ks) (max 0 (-(c + dot js ks))) (c + dot js ks + max 0 (-(c + dot js ks))))) []) ∨ (isN gs.length y = false ∧ E ⟨BR, none⟩ []))
abbrev s_close_out : Stmt := top 3
theorem sc_close_out : FnScope ["cash", "position", "prices", "worth", "before", "paid"] ["cash", "position", "prices"] (defScope s_close_out) := ⟨rfl, rfl, rfl, by decide +kernel, rfl, by decide +kernel, by decide +kernel⟩
theorem ok_close (D_Position_worth : DefM P w K mg base C "worth" 7 ["self", "prices"] (sdWorth C BR)) (K_Closing : DefK P w K mg base CL 1 5 ["self", "worth", "before", "paid", "cash"] [] [] (sdCInit CL)) {f : Addr} {fd : FuncData} (G : Fun K "close_out" "close_out" s_close_out f fd) (T : TxtC K mg C BR OG CL) : FnOk P w K mg base (L2.CX P w) 9 f fd ["cash", "position", "prices"] (spOf K (sdClose CL C BR)) := by
  refine okD G sc_close_out [] (fun as Q E ⟨gs, js, y, c, e, _⟩ => by subst e; exact ⟨rfl, rfl⟩) ⟨_, fun cdv A outer s H E ad F0 H0 hr => (pds_cons (psd_set (i := 3) (pd_meth (pd_var (pv 1)) T.cl_Position D_Position_worth.me D_Position_worth.ok (hr.mono (by decide)) D_Position_worth.b (takes_of rfl rfl rfl rfl) (pda_cons (pd_var (pv 2)) pda_nil)) (by show ¬ (3 ∈ ([] : List Nat)); decide) sc_close_out.nd rfl (.inl rfl))
      (pds_cons (psd_set (i := 4) (pd_op op_add (op2_I0 fun _ _ _ => .int _) (pd_var (pv 0)) (pd_var (pv 3))) (by show ¬ (4 ∈ ([] : List Nat)); decide) sc_close_out.nd rfl (.inl rfl))
      (pds_cons (psd_set (i := 5) (pd_builtB (fun h => pe_callB (call_max2 rfl) (by rfl) T.b_max (by decide +kernel) h) cn_two.op (pda_cons (pd_const pe_int (fun _ => .int _)) (pda_cons (pd_neg (pd_var (pv 4))) pda_nil))) (by show ¬ (5 ∈ ([] : List Nat)); decide) sc_close_out.nd rfl (.inl rfl))
      (pds_one (psd_ret (pd_newK (n := 4) K_Closing.mkc K_Closing.ok (hr.mono (by decide)) (by rfl) T.c_Closing K_Closing.kb0 (fun _ => .nil) (fun _ _ _ => rfl) (takes_of rfl rfl rfl rfl) (pda_cons (pd_var (pv 3)) (pda_cons (pd_var (pv 4)) (pda_cons (pd_var (pv 5)) (pda_cons (pd_op op_add (op2_I0 fun _ _ _ => .int _) (pd_var (pv 4)) (pd_var (pv 5))) pda_nil)))) pkd_nil)))))), ?_⟩
  rintro as Qd Ed ⟨gs, js, y, c, rfl, hp, hy, h⟩
  refine DR.start (δ' := [some (.d (.int c)), some (.d (posD C gs js)), some (.d y), none, none, none]) rfl ?_
  walk_at "dd"
  refine ⟨gs, js, y, rfl, hp, hy, ?_⟩
  rcases h with ⟨ks, h1, h2, h3, k⟩ | ⟨h1, k⟩
  · refine .inl ⟨ks, h1, h2, h3, ?_⟩
    walk_at "dd"
    refine ⟨rfl, ?_⟩
    walk_at "dd"
    refine ⟨rfl, ?_⟩
    refine ⟨_, _, _, _, rfl, ?_⟩
    rw [show (fun i j : Int => if j > i then j else i) 0 (-(c + dot js ks)) = max 0 (-(c + dot js ks)) by dsimp only; split <;> omega]
    refine ⟨rfl, _, _, rfl, ?_⟩
    walk_at "dd"
    exact k
  · refine .inr ⟨h1, ?_⟩
    walk_at "dd"
    exact k
end
end KT

set_option Elab.async false
set_option linter.all false
set_option maxRecDepth 100000
set_option maxHeartbeats 0
set_option pp.deepTerms false
set_option pp.deepTerms.threshold 8


namespace KT
open PySem PySem.Spec PyProof.Rows L2 DL
/-! ### as tuples, to the depth that is passed -/
def asT : Nat → D → D
  | n + 1, .lst l => .tup (l.map (asT n))
  | n + 1, .tup l => .tup (l.map (asT n))
  | _, d => d
def Dpt : Nat → D → Prop
  | 0, d => isS d = false ∧ ∃ n, Pl d n
  | n + 1, d => (∃ n, Pl d n) ∧ (seqOf d).length ≤ 1000 ∧ ∀ x ∈ seqOf d, Dpt n x
def sdNo : SpD := fun _ _ _ => False
def sdAsT (n : Nat) : SpD := fun as Q _ => ∃ x : D, as = [.d x] ∧ Dpt n x ∧ Q (.d (asT n x)) []
theorem asT_no {n : Nat} {x : D} (h : isS x = false) : asT n x = x := by
  cases n with
  | zero => cases x <;> rfl
  | succ n => cases x <;> first | rfl | cases h
theorem asT_seq {n : Nat} {x : D} (h : isS x = true) : asT (n + 1) x = .tup ((seqOf x).map (asT n)) := by
  cases x <;> first | rfl | cases h
theorem seq_row {x : D} {xs : List D} {j : Nat} {δ : DSt} {Q : List D → DSt → Prop} {E : XD} (e : δ[j]? = some (some (.d x))) (hx : RowOf x xs) (h : Q xs δ) : seqO (varD j) δ Q E := by
  rcases hx with rfl | rfl
  · exact .inl (DR.var e ⟨xs, .inl rfl, h⟩)
  · exact .inr (DR.var e ⟨xs, rfl, h⟩)
section
variable {P : Program} {w : World} {K : PySem.W.Frag} {mg : Str → Option Value} {base : Heap} {C OG BG BP BR CL : Addr}
theorem fn_no {k : Nat} {f : Addr} {fd : FuncData} {ps : List Str} : FnOk P w K mg base (L2.CX P w) k f fd ps (spOf K sdNo) :=
  ⟨fun vs H Q E h => by obtain ⟨_, _, _, _, _, _, _, h, _⟩ := h; exact h.elim, fun A outer s H args us vs Q E hr en bi rv h => by obtain ⟨_, _, _, _, _, _, _, h, _⟩ := h; exact h.elim⟩
abbrev s_as_tuples : Stmt := top 20
theorem sc_as_tuples : FnScope ["thing", "part"] ["thing"] (defScope s_as_tuples) := ⟨rfl, rfl, rfl, by decide +kernel, rfl, by decide +kernel, by decide +kernel⟩
theorem ok_ast0 (D_is_sequence : DefD P w K mg base "is_sequence" 1 ["thing"] sdSeqX) (D_as_tuples : DefD P w K mg base "as_tuples" 1 ["thing"] sdNo) {f : Addr} {fd : FuncData} (G : Fun K "as_tuples" "as_tuples" s_as_tuples f fd) (T : TxtN mg) : FnOk P w K mg base (L2.CX P w) 3 f fd ["thing"] (spOf K (sdAsT 0)) := by
  refine okD G sc_as_tuples [] (fun as Q E ⟨x, e, _⟩ => by subst e; exact ⟨rfl, rfl⟩) ⟨_, fun cdv A outer s H E ad F0 H0 hr => (pds_cons (psd_if (ptd_not (ptd_val (pd_call D_is_sequence.ok (hr.mono (by decide)) (by rfl) D_is_sequence.mg D_is_sequence.kp D_is_sequence.b (takes_of rfl rfl rfl rfl) (pda_cons (pd_var (pv 0)) pda_nil)) (fun h => pt_val h))) (pds_one (psd_ret (pd_var (pv 0)))) pds_nil)
      (pds_one (psd_ret (pd_builtB (fun h => pe_callTy call_tuple_of (by rfl) T.b_tuple (by decide +kernel) h) cn_tuple (pda_cons (pd_lc (own := [("part", 1)]) (by rfl) sc_as_tuples.nd (pid_seq (pd_var (pv 0))) (blkOk_by (own := [("part", 1)]) (N := ["thing", "part"]) (sc := defScope s_as_tuples) (by decide +kernel)) (fun _ _ _ _ _ => (pgd_name (i := 1) (vs := [1]) (pg_name (i := 1) sc_as_tuples.nd rfl (.inl rfl)) (by show ¬ (1 ∈ ([] : List Nat)); decide) (by decide))) (fun _ _ _ _ _ => ptsd_nil) (fun _ _ _ _ _ => (pd_call D_as_tuples.ok (hr.mono (by decide)) (by rfl) D_as_tuples.mg D_as_tuples.kp D_as_tuples.b takes0 (pda_cons (pd_var (pv 1)) pda_nil))) (by show ∀ i ∈ ([1] : List Nat), ¬ (i ∈ ([] : List Nat)); decide)) pda_nil))))), ?_⟩
  rintro as Qd Ed ⟨x, rfl, hx, k⟩
  refine DR.start (δ' := [some (.d x), none]) rfl ?_
  walk_at "dd"
  obtain ⟨hn, n, hp⟩ := hx
  refine ⟨x, n, rfl, hp, ?_⟩
  rw [hn]
  walk_at "dd"
  rw [asT_no hn] at k
  exact k
theorem ok_ast1 (D_is_sequence : DefD P w K mg base "is_sequence" 1 ["thing"] sdSeqX) (D_as_tuples : DefD P w K mg base "as_tuples" 3 ["thing"] (sdAsT 0)) {f : Addr} {fd : FuncData} (G : Fun K "as_tuples" "as_tuples" s_as_tuples f fd) (T : TxtN mg) : FnOk P w K mg base (L2.CX P w) 5 f fd ["thing"] (spOf K (sdAsT 1)) := by
  refine okD G sc_as_tuples [] (fun as Q E ⟨x, e, _⟩ => by subst e; exact ⟨rfl, rfl⟩) ⟨_, fun cdv A outer s H E ad F0 H0 hr => (pds_cons (psd_if (ptd_not (ptd_val (pd_call D_is_sequence.ok (hr.mono (by decide)) (by rfl) D_is_sequence.mg D_is_sequence.kp D_is_sequence.b (takes_of rfl rfl rfl rfl) (pda_cons (pd_var (pv 0)) pda_nil)) (fun h => pt_val h))) (pds_one (psd_ret (pd_var (pv 0)))) pds_nil)
      (pds_one (psd_ret (pd_builtB (fun h => pe_callTy call_tuple_of (by rfl) T.b_tuple (by decide +kernel) h) cn_tuple (pda_cons (pd_lc (own := [("part", 1)]) (by rfl) sc_as_tuples.nd (pid_seq (pd_var (pv 0))) (blkOk_by (own := [("part", 1)]) (N := ["thing", "part"]) (sc := defScope s_as_tuples) (by decide +kernel)) (fun _ _ _ _ _ => (pgd_name (i := 1) (vs := [1]) (pg_name (i := 1) sc_as_tuples.nd rfl (.inl rfl)) (by show ¬ (1 ∈ ([] : List Nat)); decide) (by decide))) (fun _ _ _ _ _ => ptsd_nil) (fun _ _ _ _ _ => (pd_call D_as_tuples.ok (hr.mono (by decide)) (by rfl) D_as_tuples.mg D_as_tuples.kp D_as_tuples.b takes0 (pda_cons (pd_var (pv 1)) pda_nil))) (by show ∀ i ∈ ([1] : List Nat), ¬ (i ∈ ([] : List Nat)); decide)) pda_nil))))), ?_⟩
  rintro as Qd Ed ⟨x, rfl, hx, k⟩
  refine DR.start (δ' := [some (.d x), none]) rfl ?_
  walk_at "dd"
  obtain ⟨⟨n, hp⟩, hl, ha⟩ := hx
  refine ⟨x, n, rfl, hp, ?_⟩
  cases hs : isS x with
  | false =>
    walk_at "dd"
    rw [asT_no hs] at k
    exact k
  | true =>
    rw [asT_seq hs] at k
    walk_at "dd"
    have hxr : RowOf x (seqOf x) := by cases x <;> first | exact .inl rfl | exact .inr rfl | cases hs
    refine seq_row rfl hxr ?_
    refine DR.lc_map (asT 0) (fun y acc N hy hl2 kN => ?_) ?_
    · walk_at "dd"
      refine ⟨y, rfl, ha y hy, ?_⟩
      walk_at "dd"
      exact ⟨Nat.lt_of_lt_of_le hl2 (Nat.le_trans hl (by decide)), kN⟩
    · walk_at "dd"
      refine ⟨_, _, rfl, .inl rfl, ?_⟩
      walk_at "dd"
      exact k
theorem ok_ast2 (D_is_sequence : DefD P w K mg base "is_sequence" 1 ["thing"] sdSeqX) (D_as_tuples : DefD P w K mg base "as_tuples" 5 ["thing"] (sdAsT 1)) {f : Addr} {fd : FuncData} (G : Fun K "as_tuples" "as_tuples" s_as_tuples f fd) (T : TxtN mg) : FnOk P w K mg base (L2.CX P w) 7 f fd ["thing"] (spOf K (sdAsT 2)) := by
  refine okD G sc_as_tuples [] (fun as Q E ⟨x, e, _⟩ => by subst e; exact ⟨rfl, rfl⟩) ⟨_, fun cdv A outer s H E ad F0 H0 hr => (pds_cons (psd_if (ptd_not (ptd_val (pd_call D_is_sequence.ok (hr.mono (by decide)) (by rfl) D_is_sequence.mg D_is_sequence.kp D_is_sequence.b (takes_of rfl rfl rfl rfl) (pda_cons (pd_var (pv 0)) pda_nil)) (fun h => pt_val h))) (pds_one (psd_ret (pd_var (pv 0)))) pds_nil)
      (pds_one (psd_ret (pd_builtB (fun h => pe_callTy call_tuple_of (by rfl) T.b_tuple (by decide +kernel) h) cn_tuple (pda_cons (pd_lc (own := [("part", 1)]) (by rfl) sc_as_tuples.nd (pid_seq (pd_var (pv 0))) (blkOk_by (own := [("part", 1)]) (N := ["thing", "part"]) (sc := defScope s_as_tuples) (by decide +kernel)) (fun _ _ _ _ _ => (pgd_name (i := 1) (vs := [1]) (pg_name (i := 1) sc_as_tuples.nd rfl (.inl rfl)) (by show ¬ (1 ∈ ([] : List Nat)); decide) (by decide))) (fun _ _ _ _ _ => ptsd_nil) (fun _ _ _ _ _ => (pd_call D_as_tuples.ok (hr.mono (by decide)) (by rfl) D_as_tuples.mg D_as_tuples.kp D_as_tuples.b takes0 (pda_cons (pd_var (pv 1)) pda_nil))) (by show ∀ i ∈ ([1] : List Nat), ¬ (i ∈ ([] : List Nat)); decide)) pda_nil))))), ?_⟩
  rintro as Qd Ed ⟨x, rfl, hx, k⟩
  refine DR.start (δ' := [some (.d x), none]) rfl ?_
  walk_at "dd"
  obtain ⟨⟨n, hp⟩, hl, ha⟩ := hx
  refine ⟨x, n, rfl, hp, ?_⟩
  cases hs : isS x with
  | false =>
    walk_at "dd"
    rw [asT_no hs] at k
    exact k
  | true =>
    rw [asT_seq hs] at k
    walk_at "dd"
    have hxr : RowOf x (seqOf x) := by cases x <;> first | exact .inl rfl | exact .inr rfl | cases hs
    refine seq_row rfl hxr ?_
    refine DR.lc_map (asT 1) (fun y acc N hy hl2 kN => ?_) ?_
    · walk_at "dd"
      refine ⟨y, rfl, ha y hy, ?_⟩
      walk_at "dd"
      exact ⟨Nat.lt_of_lt_of_le hl2 (Nat.le_trans hl (by decide)), kN⟩
    · walk_at "dd"
      refine ⟨_, _, rfl, .inl rfl, ?_⟩
      walk_at "dd"
      exact k
end
end KT

set_option Elab.async false
set_option linter.all false
set_option maxRecDepth 100000
set_option maxHeartbeats 0
set_option pp.deepTerms false
set_option pp.deepTerms.threshold 8


namespace KT
open PySem PySem.Spec PyProof.Rows L2 DL
/-! ### happenings -/
inductive Hap where
  | ent (o : Str) | mrk (o w : Str) | trd (b : Bool) (p q : Str) (n x : Int) | io (b : Bool) (o : Str) (a : Int) | cls (o : Str) (a n : Int) | pay (o : Str) (a : Int)
def wdT (b : Bool) : Str := if b then "filled" else "traded"
def wdI (b : Bool) : Str := if b then "paid_in" else "paid_out"
def hapL : Hap → List D
  | .ent o => [.str "entered", .str o]
  | .mrk o w => [.str "marked", .str o, .str w]
  | .trd b p q n x => [.str (wdT b), .str p, .str q, .str "oil", .int n, .int x]
  | .io b o a => [.str (wdI b), .str o, .int a]
  | .cls o a n => [.str "closed", .str o, .int a, .int n]
  | .pay o a => [.str "paid", .str o, .int a]
abbrev hapT (h : Hap) : D := .tup (hapL h)
def HapOk : Hap → Prop
  | .trd _ _ _ n _ => 1 ≤ n ∧ n ≤ 1000000
  | _ => True
def chg (m : Str) : Hap → Int
  | .trd _ p q n x => (if q = m then n * x else 0) - (if p = m then n * x else 0)
  | .io true o a => if o = m then a else 0
  | .io false o a => if o = m then -a else 0
  | .cls o a _ => if o = m then a else 0
  | .pay o a => if o = m then a else 0
  | _ => 0
theorem at_0 {a : D} {l : List D} : atI (a :: l) 0 = some a := by
  unfold atI
  rw [show ixN (a :: l).length 0 = some 0 by unfold ixN; simp]
  rfl
section
variable {P : Program} {w : World} {K : PySem.W.Frag} {mg : Str → Option Value} {base : Heap} {C OG BG BP BR CL : Addr}
def sdCC : SpD := fun as Q _ => ∃ (h : Hap) (m : Str), as = [.d (hapT h), .d (.str m)] ∧ HapOk h ∧ Q (.d (.int (chg m h))) []
abbrev s_cash_change : Stmt := top 25
theorem sc_cash_change : FnScope ["happening", "member", "_", "buyer", "seller", "count", "price", "sold", "bought"] ["happening", "member"] (defScope s_cash_change) := ⟨rfl, rfl, rfl, by decide +kernel, rfl, by decide +kernel, by decide +kernel⟩
theorem ok_cc {f : Addr} {fd : FuncData} (G : Fun K "_cash_change" "_cash_change" s_cash_change f fd) (T : TxtN mg) : FnOk P w K mg base (L2.CX P w) 1 f fd ["happening", "member"] (spOf K sdCC) := by
  refine okD G sc_cash_change [] (fun as Q E ⟨x, y, e, _⟩ => by subst e; exact ⟨rfl, rfl⟩) ⟨_, fun cdv A outer s H E ad F0 H0 hr => (pds_cons (psd_if (ptd_cmp op_in_seq (op2_in false).op (pd_ix ix_tup op2_ixT (pd_var (pv 0)) (pd_const pe_int (fun _ => .int _)) (fun _ _ => rfl)) (pd_tup (fun h => pe_tup h) (pda_cons (pd_const pe_str (fun _ => .str (by decide +kernel))) (pda_cons (pd_const pe_str (fun _ => .str (by decide +kernel))) pda_nil))) rfl) (pds_cons (psd_unpack (pd_var (pv 0)) (pgd_tup (is := [2, 3, 4, 2, 5, 6]) (vs := [2, 3, 4, 2, 5, 6]) (pg_tup rfl (pgs_cons (pg_name (i := 2) sc_cash_change.nd rfl (.inl rfl)) (pgs_cons (pg_name (i := 3) sc_cash_change.nd rfl (.inl rfl)) (pgs_cons (pg_name (i := 4) sc_cash_change.nd rfl (.inl rfl)) (pgs_cons (pg_name (i := 2) sc_cash_change.nd rfl (.inl rfl)) (pgs_cons (pg_name (i := 5) sc_cash_change.nd rfl (.inl rfl)) (pgs_cons (pg_name (i := 6) sc_cash_change.nd rfl (.inl rfl)) pgs_nil))))))) rfl (by show ∀ i ∈ ([2, 3, 4, 2, 5, 6] : List Nat), ¬ (i ∈ ([] : List Nat)) ∧ i ∈ ([2, 3, 4, 2, 5, 6] : List Nat); decide)) (fun h g => ps_asg h g))
      (pds_cons (psd_set (i := 7) (pd_ifExp (ptd_cmp op_eq op2_eq.op (pd_var (pv 4)) (pd_var (pv 1)) (nomark _)) (pd_op op_mul (op2_I fun _ _ _ => .int _) (pd_var (pv 5)) (pd_var (pv 6))) (pd_const pe_int (fun _ => .int _))) (by show ¬ (7 ∈ ([] : List Nat)); decide) sc_cash_change.nd rfl (.inl rfl))
      (pds_cons (psd_set (i := 8) (pd_ifExp (ptd_cmp op_eq op2_eq.op (pd_var (pv 3)) (pd_var (pv 1)) (nomark _)) (pd_op op_mul (op2_I fun _ _ _ => .int _) (pd_var (pv 5)) (pd_var (pv 6))) (pd_const pe_int (fun _ => .int _))) (by show ¬ (8 ∈ ([] : List Nat)); decide) sc_cash_change.nd rfl (.inl rfl))
      (pds_one (psd_ret (pd_op op_sub (op2_I0 fun _ _ _ => .int _) (pd_var (pv 7)) (pd_var (pv 8)))))))) pds_nil)
      (pds_cons (psd_if (PW.pt (pwd_and (ptd_cmp op_in_seq (op2_in false).op (pd_ix ix_tup op2_ixT (pd_var (pv 0)) (pd_const pe_int (fun _ => .int _)) (fun _ _ => rfl)) (pd_tup (fun h => pe_tup h) (pda_cons (pd_const pe_str (fun _ => .str (by decide +kernel))) (pda_cons (pd_const pe_str (fun _ => .str (by decide +kernel))) (pda_cons (pd_const pe_str (fun _ => .str (by decide +kernel))) (pda_cons (pd_const pe_str (fun _ => .str (by decide +kernel))) pda_nil))))) rfl) (pwd_and1 (ptd_cmp op_eq op2_eq.op (pd_ix ix_tup op2_ixT (pd_var (pv 0)) (pd_const pe_int (fun _ => .int _)) (fun _ _ => rfl)) (pd_var (pv 1)) (nomark _))))) (pds_one (psd_ret (pd_ifExp (ptd_cmp op_eq op2_eq.op (pd_ix ix_tup op2_ixT (pd_var (pv 0)) (pd_const pe_int (fun _ => .int _)) (fun _ _ => rfl)) (pd_const pe_str (fun _ => .str (by decide +kernel))) (nomark _)) (pd_neg (pd_ix ix_tup op2_ixT (pd_var (pv 0)) (pd_const pe_int (fun _ => .int _)) (fun _ _ => rfl))) (pd_ix ix_tup op2_ixT (pd_var (pv 0)) (pd_const pe_int (fun _ => .int _)) (fun _ _ => rfl))))) pds_nil)
      (pds_one (psd_ret (pd_const pe_int (fun _ => .int _)))))), ?_⟩
  rintro as Qd Ed ⟨h, m, rfl, ho, k⟩
  refine DR.start (δ' := [some (.d (hapT h)), some (.d (.str m)), none, none, none, none, none, none, none]) rfl ?_
  cases h with
  | ent o =>
    dsimp only [hapT, hapL]
    walk_at "dd"
    refine itF (by decide +kernel) ?_
    walk_at "dd"
    refine itF (by decide +kernel) ?_
    walk_at "dd"
    exact k
  | mrk o z =>
    dsimp only [hapT, hapL]
    walk_at "dd"
    refine itF (by decide +kernel) ?_
    walk_at "dd"
    refine itF (by decide +kernel) ?_
    walk_at "dd"
    exact k
  | trd b p q n x =>
    dsimp only [hapT, hapL]
    walk_at "dd"
    refine itT (by cases b <;> decide +kernel) ?_
    walk_at "dd"
    obtain ⟨n1, n2⟩ := ho
    have ek : chg m (.trd b p q n x) = (if q = m then n * x else 0) - (if p = m then n * x else 0) := rfl
    rw [ek] at k
    refine DR.split (fun c1 => ?_) (fun c1 => ?_)
    · rw [if_pos c1] at k
      walk_at "dd"
      refine DR.split (fun c2 => ?_) (fun c2 => ?_)
      · rw [if_pos c2] at k
        walk_at "dd"
        exact k
      · rw [if_neg c2] at k
        walk_at "dd"
        exact k
    · rw [if_neg c1] at k
      walk_at "dd"
      refine DR.split (fun c2 => ?_) (fun c2 => ?_)
      · rw [if_pos c2] at k
        walk_at "dd"
        exact k
      · rw [if_neg c2] at k
        walk_at "dd"
        exact k
  | io b o a =>
    dsimp only [hapT, hapL]
    walk_at "dd"
    refine itF (by cases b <;> decide +kernel) ?_
    walk_at "dd"
    refine itT (by cases b <;> decide +kernel) ?_
    walk_at "dd"
    refine DR.split (fun c1 => ?_) (fun c1 => ?_)
    · walk_at "dd"
      cases b with
      | true =>
        rw [show chg m (.io true o a) = if o = m then a else 0 from rfl, if_pos c1] at k
        refine itF (by decide +kernel) ?_
        walk_at "dd"
        exact k
      | false =>
        rw [show chg m (.io false o a) = if o = m then -a else 0 from rfl, if_pos c1] at k
        refine itT (by decide +kernel) ?_
        walk_at "dd"
        exact k
    · walk_at "dd"
      cases b with
      | true =>
        rw [show chg m (.io true o a) = if o = m then a else 0 from rfl, if_neg c1] at k
        exact k
      | false =>
        rw [show chg m (.io false o a) = if o = m then -a else 0 from rfl, if_neg c1] at k
        exact k
  | cls o a n =>
    dsimp only [hapT, hapL]
    walk_at "dd"
    refine itF (by decide +kernel) ?_
    walk_at "dd"
    refine itT (by decide +kernel) ?_
    walk_at "dd"
    rw [show chg m (.cls o a n) = if o = m then a else 0 from rfl] at k
    refine DR.split (fun c1 => ?_) (fun c1 => ?_)
    · rw [if_pos c1] at k
      walk_at "dd"
      refine itF (by decide +kernel) ?_
      walk_at "dd"
      exact k
    · rw [if_neg c1] at k
      walk_at "dd"
      exact k
  | pay o a =>
    dsimp only [hapT, hapL]
    walk_at "dd"
    refine itF (by decide +kernel) ?_
    walk_at "dd"
    refine itT (by decide +kernel) ?_
    walk_at "dd"
    rw [show chg m (.pay o a) = if o = m then a else 0 from rfl] at k
    refine DR.split (fun c1 => ?_) (fun c1 => ?_)
    · rw [if_pos c1] at k
      walk_at "dd"
      refine itF (by decide +kernel) ?_
      walk_at "dd"
      exact k
    · rw [if_neg c1] at k
      walk_at "dd"
      exact k
end
end KT

set_option Elab.async false
set_option linter.all false
set_option maxRecDepth 100000
set_option maxHeartbeats 0
set_option pp.deepTerms false
set_option pp.deepTerms.threshold 8


namespace KT
open PySem PySem.Spec PyProof.Rows L2 DL
/-! ### day books -/
def wd : Hap → Str
  | .ent _ => "entered"
  | .mrk _ _ => "marked"
  | .trd b _ _ _ _ => wdT b
  | .io b _ _ => wdI b
  | .cls _ _ _ => "closed"
  | .pay _ _ => "paid"
def hapR : Hap → List D
  | .ent o => [.str o]
  | .mrk o w => [.str o, .str w]
  | .trd b p q n x => [.str p, .str q, .str "oil", .int n, .int x]
  | .io b o a => [.str o, .int a]
  | .cls o a n => [.str o, .int a, .int n]
  | .pay o a => [.str o, .int a]
theorem hap_wd (h : Hap) : hapL h = .str (wd h) :: hapR h := by cases h <;> rfl
theorem dp_hap {h : Hap} : Dp_ 2 (hapT h) := dp_tup fun d hd => by
  cases h <;> simp only [hapL, List.mem_cons, List.not_mem_nil, or_false] at hd
  · rcases hd with rfl | rfl <;> exact dp_str
  · rcases hd with rfl | rfl | rfl <;> exact dp_str
  · rcases hd with rfl | rfl | rfl | rfl | rfl | rfl <;> first | exact dp_str | exact dp_int
  · rcases hd with rfl | rfl | rfl <;> first | exact dp_str | exact dp_int
  · rcases hd with rfl | rfl | rfl | rfl <;> first | exact dp_str | exact dp_int
  · rcases hd with rfl | rfl | rfl <;> first | exact dp_str | exact dp_int
theorem dp_haps {hs : List Hap} : Dp_ 3 (.tup (hs.map hapT)) := dp_tup (dp_map fun _ _ => dp_hap)
mutual
theorem eqv_self : ∀ d : PyData, d.hasDict = false → PyData.eqv d d = true
  | .none, _ => by simp [PyData.eqv]
  | .bool b, _ => by simp [PyData.eqv]
  | .int i, _ => by simp [PyData.eqv]
  | .str x, _ => by simp [PyData.eqv]
  | .list xs, h => by
    simp only [PyData.eqv]
    exact eqv_selfs xs (by simpa [PyData.hasDict] using h)
  | .tuple xs, h => by
    simp only [PyData.eqv]
    exact eqv_selfs xs (by simpa [PyData.hasDict] using h)
  | .dict _, h => by simp [PyData.hasDict] at h
theorem eqv_selfs : ∀ ds : List PyData, PyData.hasDictAll ds = false → PyData.eqvAll ds ds = true
  | [], _ => by simp [PyData.eqvAll]
  | d :: ds, h => by
    simp only [PyData.hasDictAll, Bool.or_eq_false_iff] at h
    simp only [PyData.eqvAll, eqv_self d h.1, eqv_selfs ds h.2, Bool.and_self]
end
theorem eqvAll_len : ∀ {xs ys : List PyData}, PyData.eqvAll xs ys = true → xs.length = ys.length
  | [], [], _ => rfl
  | [], _ :: _, h => by simp [PyData.eqvAll] at h
  | _ :: _, [], h => by simp [PyData.eqvAll] at h
  | x :: xs, y :: ys, h => by
    simp only [PyData.eqvAll, Bool.and_eq_true] at h
    rw [List.length_cons, List.length_cons, eqvAll_len h.2]
theorem pyL_len : ∀ {xs : List D}, (pyL xs).length = xs.length
  | [] => rfl
  | _ :: xs => by show (pyL xs).length + 1 = _; rw [pyL_len]; rfl
theorem eqv_len {xs ys : List D} (h : xs.length ≠ ys.length) : PyData.eqv (D.tup xs).py (D.tup ys).py = false := by
  cases q : PyData.eqv (D.tup xs).py (D.tup ys).py with
  | false => rfl
  | true =>
    have q : PyData.eqvAll (pyL xs) (pyL ys) = true := by simpa [D.py, PyData.eqv] using q
    have := eqvAll_len q
    rw [pyL_len, pyL_len] at this
    exact absurd this h
def dbFs (hs : List Hap) : List (Str × D) := [("_rows", .tup (hs.map hapT))]
abbrev dbD (DB : Addr) (hs : List Hap) : D := .obj DB (dbFs hs)
structure TxtD (K : PySem.W.Frag) (mg : Str → Option Value) (C BR OG CL DB : Addr) : Prop extends TxtC K mg C BR OG CL where
  cl_DayBook : Cls K DB
  na_DayBook : ∀ n : Str, (["_rows"] : List Str).contains n = true → NoAttr K DB n
  c_DayBook : mg "DayBook" = some (.ref DB)
  si_DayBook : SlX.SIsi K DB
  noD_lst : PySem.W.kitOne K (.type "list") (.ref DB) = some false
theorem filt_wd {z : Str} : ∀ {hs : List Hap}, (hs.filterMap fun h => if wd h = z then some (hapT h) else none) = (hs.filter fun h => decide (wd h = z)).map hapT
  | [] => rfl
  | h :: hs => by
    rw [List.filterMap_cons, List.filter_cons]
    by_cases c : wd h = z
    · rw [if_pos c, decide_eq_true c, if_pos rfl, List.map_cons, filt_wd]
    · rw [if_neg c, decide_eq_false c, if_neg Bool.false_ne_true, filt_wd]
section
variable {P : Program} {w : World} {K : PySem.W.Frag} {mg : Str → Option Value} {base : Heap} {C OG BG BP BR CL DB : Addr}
def sdDInit (DB : Addr) : SpD := fun as Q _ => ∃ (hs : List Hap) (y : D), as = [.own (.ins DB []), .d y] ∧ Dpt 2 y ∧ asT 2 y = .tup (hs.map hapT) ∧ Q (.d .non) [.ins DB (dbFs hs)]
abbrev s_DayBook___init : Stmt := inClass (top 26) 0
theorem sc_DayBook___init : FnScope ["self", "happenings"] ["self", "happenings"] (defScope s_DayBook___init) := ⟨rfl, rfl, rfl, by decide +kernel, rfl, by decide +kernel, by decide +kernel⟩
theorem ok_dinit (D_as_tuples : DefD P w K mg base "as_tuples" 7 ["thing"] (sdAsT 2)) {f : Addr} {fd : FuncData} (G : Fun K "__init__" "DayBook.__init__" s_DayBook___init f fd) (T : TxtD K mg C BR OG CL DB) : FnOk P w K mg base (L2.CX P w) 9 f fd ["self", "happenings"] (spOf K (sdDInit DB)) := by
  refine okD G sc_DayBook___init [0] (fun as Q E ⟨x, b, e, _⟩ => by subst e; exact ⟨rfl, rfl⟩) ⟨_, fun cdv A outer s H E ad F0 H0 hr => (pds_one (psd_fld (i := 0) (pv 0) (pd_call D_as_tuples.ok (hr.mono (by decide)) (by rfl) D_as_tuples.mg D_as_tuples.kp D_as_tuples.b (takes_of rfl rfl rfl rfl) (pda_cons (pd_var (pv 1)) pda_nil)) T.cl_DayBook (T.na_DayBook _ (by decide)) rfl)), ?_⟩
  rintro as Qd Ed ⟨hs, y, rfl, hy, he, k⟩
  refine DR.start (δ' := [some (.own (.ins DB [])), some (.d y)]) rfl ?_
  walk_at "dd"
  refine ⟨y, rfl, hy, ?_⟩
  rw [he]
  walk_at "dd"
  exact k
def sdDOf (DB : Addr) : SpD := fun as Q _ => ∃ (hs : List Hap) (z : Str), as = [.d (dbD DB hs), .d (.str z)] ∧ hs.length ≤ 1000 ∧ Q (.d (.tup ((hs.filter fun h => decide (wd h = z)).map hapT))) []
abbrev s_DayBook_of : Stmt := inClass (top 26) 1
theorem sc_DayBook_of : FnScope ["self", "word", "row"] ["self", "word"] (defScope s_DayBook_of) := ⟨rfl, rfl, rfl, by decide +kernel, rfl, by decide +kernel, by decide +kernel⟩
theorem ok_dof {f : Addr} {fd : FuncData} (G : Fun K "of" "DayBook.of" s_DayBook_of f fd) (T : TxtD K mg C BR OG CL DB) : FnOk P w K mg base (L2.CX P w) 1 f fd ["self", "word"] (spOf K (sdDOf DB)) := by
  refine okD G sc_DayBook_of [] (fun as Q E ⟨x, b, e, _⟩ => by subst e; exact ⟨rfl, rfl⟩) ⟨_, fun cdv A outer s H E ad F0 H0 hr => (pds_one (psd_ret (pd_builtB (fun h => pe_callTy call_tuple_of (by rfl) T.b_tuple (by decide +kernel) h) cn_tuple (pda_cons (pd_lc (own := [("row", 2)]) (by rfl) sc_DayBook_of.nd (pid_tup (pd_fld (pd_var (pv 0)) T.cl_DayBook (T.na_DayBook _ (by decide)) rfl)) (blkOk_by (own := [("row", 2)]) (N := ["self", "word", "row"]) (sc := defScope s_DayBook_of) (by decide +kernel)) (fun _ _ _ _ _ => (pgd_name (i := 2) (vs := [2]) (pg_name (i := 2) sc_DayBook_of.nd rfl (.inl rfl)) (by show ¬ (2 ∈ ([] : List Nat)); decide) (by decide))) (fun _ _ _ _ _ => (ptsd_one (ptd_cmp op_eq op2_eq.op (pd_ix ix_tup op2_ixT (pd_var (pv 2)) (pd_const pe_int (fun _ => .int _)) (fun _ _ => rfl)) (pd_var (pv 1)) (nomark _)))) (fun _ _ _ _ _ => (pd_var (pv 2))) (by show ∀ i ∈ ([2] : List Nat), ¬ (i ∈ ([] : List Nat)); decide)) pda_nil)))), ?_⟩
  rintro as Qd Ed ⟨hs, z, rfl, hl, k⟩
  refine DR.start (δ' := [some (.d (dbD DB hs)), some (.d (.str z)), none]) rfl ?_
  walk_at "dd"
  refine DR.lc_filterM (l := hs) (r := hapT) (fun h => if wd h = z then some (hapT h) else none) (fun h acc N hx hl2 kN => ?_) ?_
  · walk_at "dd"
    refine ⟨_, _, _, rfl, rfl, by rw [hap_wd]; exact at_0, ?_⟩
    walk_at "dd"
    refine DR.split (fun c => ?_) (fun c => ?_)
    · rw [if_pos c] at kN
      walk_at "dd"
      exact ⟨Nat.lt_of_lt_of_le hl2 (Nat.le_trans hl (by decide)), kN⟩
    · rw [if_neg c] at kN
      walk_at "dd"
      rw [Option.toList_none, List.append_nil] at kN
      exact kN
  · walk_at "dd"
    refine ⟨_, _, rfl, .inl rfl, ?_⟩
    walk_at "dd"
    rw [filt_wd]
    exact k
def sdDSince (DB : Addr) : SpD := fun as Q _ => ∃ (hs : List Hap) (n : Int), as = [.d (dbD DB hs), .d (.int n)] ∧ Q (.d (.tup (DL.cutD (hs.map hapT) (some n) none))) []
abbrev s_DayBook_since : Stmt := inClass (top 26) 2
theorem sc_DayBook_since : FnScope ["self", "count"] ["self", "count"] (defScope s_DayBook_since) := ⟨rfl, rfl, rfl, by decide +kernel, rfl, by decide +kernel, by decide +kernel⟩
theorem ok_dsince {f : Addr} {fd : FuncData} (G : Fun K "since" "DayBook.since" s_DayBook_since f fd) (T : TxtD K mg C BR OG CL DB) : FnOk P w K mg base (L2.CX P w) 1 f fd ["self", "count"] (spOf K (sdDSince DB)) := by
  refine okD G sc_DayBook_since [] (fun as Q E ⟨x, b, e, _⟩ => by subst e; exact ⟨rfl, rfl⟩) ⟨_, fun cdv A outer s H E ad F0 H0 hr => (pds_one (psd_ret (pd_sliceTA (pd_fld (pd_var (pv 0)) T.cl_DayBook (T.na_DayBook _ (by decide)) rfl) (pod_some (pd_var (pv 1))) pod_none))), ?_⟩
  rintro as Qd Ed ⟨hs, n, rfl, k⟩
  refine DR.start (δ' := [some (.d (dbD DB hs)), some (.d (.int n))]) rfl ?_
  walk_at "dd"
  exact k
def sdDCash (DB : Addr) : SpD := fun as Q _ => ∃ (hs : List Hap) (m : Str), as = [.d (dbD DB hs), .d (.str m)] ∧ hs.length ≤ 1000 ∧ (∀ h ∈ hs, HapOk h) ∧ Q (.d (.int (hs.map (chg m)).sum)) []
abbrev s_DayBook_cash_change : Stmt := inClass (top 26) 3
theorem sc_DayBook_cash_change : FnScope ["self", "member", "row"] ["self", "member"] (defScope s_DayBook_cash_change) := ⟨rfl, rfl, rfl, by decide +kernel, rfl, by decide +kernel, by decide +kernel⟩
theorem ok_dcash (D_cash_change : DefD P w K mg base "_cash_change" 1 ["happening", "member"] sdCC) {f : Addr} {fd : FuncData} (G : Fun K "cash_change" "DayBook.cash_change" s_DayBook_cash_change f fd) (T : TxtD K mg C BR OG CL DB) : FnOk P w K mg base (L2.CX P w) 3 f fd ["self", "member"] (spOf K (sdDCash DB)) := by
  refine okD G sc_DayBook_cash_change [] (fun as Q E ⟨x, b, e, _⟩ => by subst e; exact ⟨rfl, rfl⟩) ⟨_, fun cdv A outer s H E ad F0 H0 hr => (pds_one (psd_ret (pd_builtB (fun h => pe_callB (cr_sum rfl) (by rfl) T.b_sum (by decide +kernel) h) cn_sum.op (pda_cons (pd_lc (own := [("row", 2)]) (by rfl) sc_DayBook_cash_change.nd (pid_tup (pd_fld (pd_var (pv 0)) T.cl_DayBook (T.na_DayBook _ (by decide)) rfl)) (blkOk_by (own := [("row", 2)]) (N := ["self", "member", "row"]) (sc := defScope s_DayBook_cash_change) (by decide +kernel)) (fun _ _ _ _ _ => (pgd_name (i := 2) (vs := [2]) (pg_name (i := 2) sc_DayBook_cash_change.nd rfl (.inl rfl)) (by show ¬ (2 ∈ ([] : List Nat)); decide) (by decide))) (fun _ _ _ _ _ => ptsd_nil) (fun _ _ _ _ _ => (pd_call D_cash_change.ok (hr.mono (by decide)) (by rfl) D_cash_change.mg D_cash_change.kp D_cash_change.b takes0 (pda_cons (pd_var (pv 2)) (pda_cons (pd_var (pv 1)) pda_nil)))) (by show ∀ i ∈ ([2] : List Nat), ¬ (i ∈ ([] : List Nat)); decide)) pda_nil)))), ?_⟩
  rintro as Qd Ed ⟨hs, m, rfl, hl, ho, k⟩
  refine DR.start (δ' := [some (.d (dbD DB hs)), some (.d (.str m)), none]) rfl ?_
  walk_at "dd"
  refine DR.lc_mapM (l := hs) (r := hapT) (fun h => .int (chg m h)) (fun h acc N hx hl2 kN => ?_) ?_
  · walk_at "dd"
    refine ⟨h, m, rfl, ho h hx, ?_⟩
    walk_at "dd"
    exact ⟨Nat.lt_of_lt_of_le hl2 (Nat.le_trans hl (by decide)), kN⟩
  · walk_at "dd"
    refine ⟨hs.map (chg m), .inl (by rw [List.map_map]; rfl), ?_⟩
    walk_at "dd"
    exact k
abbrev s_DayBook___len : Stmt := inClass (top 26) 6
theorem sc_DayBook___len : FnScope ["self"] ["self"] (defScope s_DayBook___len) := ⟨rfl, rfl, rfl, by decide +kernel, rfl, by decide +kernel, by decide +kernel⟩
def sdDEq (DB : Addr) : SpD := fun as Q _ => ∃ (hs : List Hap) (y : D), as = [.d (dbD DB hs), .d y] ∧ ((y = dbD DB hs ∧ Q (.d (.bl true)) []) ∨ (∃ hs2, y = dbD DB hs2 ∧ hs2.length ≠ hs.length ∧ Q (.d (.bl false)) []) ∨ ∃ l, y = .lst l ∧ Q (.d (.bl false)) [])
abbrev s_DayBook___eq : Stmt := inClass (top 26) 4
theorem sc_DayBook___eq : FnScope ["self", "other"] ["self", "other"] (defScope s_DayBook___eq) := ⟨rfl, rfl, rfl, by decide +kernel, rfl, by decide +kernel, by decide +kernel⟩
theorem ok_deq {f : Addr} {fd : FuncData} (G : Fun K "__eq__" "DayBook.__eq__" s_DayBook___eq f fd) (T : TxtD K mg C BR OG CL DB) : FnOk P w K mg base (L2.CX P w) 1 f fd ["self", "other"] (spOf K (sdDEq DB)) := by
  refine okD G sc_DayBook___eq [] (fun as Q E ⟨x, y, e, _⟩ => by subst e; exact ⟨rfl, rfl⟩) ⟨_, fun cdv A outer s H E ad F0 H0 hr => (pds_one (psd_ret (pd_and (pd_builtB (fun h => pe_callB call_isi (by rfl) T.b_isinstance (by decide +kernel) h) (cn_isi (K := K)).op (pda_cons (pd_var (pv 1)) (pda_cons (pd_const (pe_glob (v := .ref DB) rfl T.c_DayBook rfl) (fun _ => .adr _)) pda_nil))) (pd_one (pd_cmp (op_eqD hr.units) op2_eqD.op (pd_fld (pd_var (pv 0)) T.cl_DayBook (T.na_DayBook _ (by decide)) rfl) (pd_fld (pd_var (pv 1)) T.cl_DayBook (T.na_DayBook _ (by decide)) rfl) (nomark _)))))), ?_⟩
  rintro as Qd Ed ⟨hs, y, rfl, h⟩
  refine DR.start (δ' := [some (.d (dbD DB hs)), some (.d y)]) rfl ?_
  walk_at "dd"
  rcases h with ⟨rfl, k⟩ | ⟨hs2, rfl, hl, k⟩ | ⟨l, rfl, k⟩
  · refine ⟨_, _, _, _, true, rfl, .own DB, .obj T.cl_DayBook T.si_DayBook, kit_own, ?_⟩
    walk_at "dd"
    refine eqd_t dp_haps.cmp dp_haps.cmp (eqv_self _ (noDict dp_haps.cmp.1)) ?_
    walk_at "dd"
    exact k
  · refine ⟨_, _, _, _, true, rfl, .own DB, .obj T.cl_DayBook T.si_DayBook, kit_own, ?_⟩
    walk_at "dd"
    refine eqd_t (b := false) dp_haps.cmp dp_haps.cmp (eqv_len (by rw [List.length_map, List.length_map]; exact fun e => hl e.symm)) ?_
    walk_at "dd"
    exact k
  · refine ⟨_, _, _, _, false, rfl, .own DB, .lst _, T.noD_lst, ?_⟩
    walk_at "dd"
    exact k
end
end KT

set_option Elab.async false
set_option linter.all false
set_option maxRecDepth 100000
set_option maxHeartbeats 0
set_option pp.deepTerms false
set_option pp.deepTerms.threshold 8


namespace KT
open PySem PySem.Spec PyProof.Rows L2 DL
/-! ### draws -/
structure Sta (ys : List D) : Prop where
  ex : ∃ (zs : List Int) (a : Nat) (b c e : Int), ys = [.lst (zs.map .int), .int a, .int b, .int c, .int e] ∧ 0 ≤ b ∧ 0 ≤ c ∧ c < 2147483587 ∧ 0 ≤ e
abbrev st5 (zs : List Int) (a : Nat) (b c e : Int) (r : List (Option DV)) : DSt := some (.own (.lst [.lst (zs.map .int), .int a, .int b, .int c, .int e])) :: r
theorem atI_map {α : Type} {f : α → D} {xs : List α} {i : Nat} {x : α} (h : xs[i]? = some x) : atI (xs.map f) (i : Int) = some (f x) := by
  unfold atI
  have hi := (List.getElem?_eq_some_iff.mp h).1
  rw [show ixN (xs.map f).length (i : Int) = some i by unfold ixN; simp; omega]
  show (xs.map f)[i]? = _
  rw [List.getElem?_map, h]
  rfl
theorem divw2 {i j : Int} (h1 : 0 < j) (h2 : j < 10 ^ 40) : CDivW i j := ⟨h1, by
  rcases Nat.eq_zero_or_pos j.natAbs with e | e
  · rw [e]; decide
  · exact Nat.lt_trans ((Nat.log2_lt (by omega)).mpr (show j.natAbs < 2 ^ 140 from Nat.lt_of_lt_of_le (show j.natAbs < 10 ^ 40 by omega) (by decide))) (by decide)⟩
section
variable {P : Program} {w : World} {K : PySem.W.Frag} {mg : Str → Option Value} {base : Heap}
def sdOpen : SpD := fun as Q _ => ∃ zs : List Int, as = [.d (.ro (zs.map .int))] ∧ ∀ ys, Sta ys → Q (.own (.lst ys)) []
abbrev s_law_open : Stmt := top 30
theorem sc_law_open : FnScope ["script"] ["script"] (defScope s_law_open) := ⟨rfl, rfl, rfl, by decide +kernel, rfl, by decide +kernel, by decide +kernel⟩
theorem ok_lopen {f : Addr} {fd : FuncData} (G : Fun K "_law_open" "_law_open" s_law_open f fd) (T : TxtN mg) : FnOk P w K mg base (L2.CX P w) 1 f fd ["script"] (spOf K sdOpen) := by
  refine okD G sc_law_open [] (fun as Q E ⟨x, e, _⟩ => by subst e; exact ⟨rfl, rfl⟩) ⟨_, fun cdv A outer s H E ad F0 H0 hr => (pds_one (psd_ret (pd_lst (fun h => pe_lst h) (pda_cons (pd_builtB (fun h => pe_callTy call_list_of (by rfl) T.b_list (by decide +kernel) h) cn_list (pda_cons (pd_var (pv 0)) pda_nil)) (pda_cons (pd_const pe_int (fun _ => .int _)) (pda_cons (pd_const pe_int (fun _ => .int _)) (pda_cons (pd_const pe_int (fun _ => .int _)) (pda_cons (pd_const pe_int (fun _ => .int _)) pda_nil)))))))), ?_⟩
  rintro as Qd Ed ⟨zs, rfl, k⟩
  refine DR.start (δ' := [some (.d (.ro (zs.map .int)))]) rfl ?_
  walk_at "dd"
  refine ⟨Nat.le_trans (show 5 ≤ 20 by decide) (by decide), ?_⟩
  walk_at "dd"
  exact k _ ⟨zs, 0, 0, 9176, 0, rfl, by decide, by decide, by decide, by decide⟩
def sdDraw : SpD := fun as Q _ => ∃ (ys : List D) (m : Int), as = [.own (.lst ys), .d (.int m)] ∧ Sta ys ∧ 0 < m ∧ m < 10 ^ 40 ∧ ∀ (r : Int) (ys : List D), 0 ≤ r → r < m → Sta ys → Q (.d (.int r)) [.lst ys]
theorem draw {ys : List D} {m : Int} {Q : DV → List OC → Prop} {E : Ex → List OC → Prop} (h : Sta ys) (m0 : 0 < m) (m1 : m < 10 ^ 40) (k : ∀ (r : Int) (ys : List D), 0 ≤ r → r < m → Sta ys → Q (.d (.int r)) [.lst ys]) : sdDraw [.own (.lst ys), .d (.int m)] Q E := ⟨ys, m, rfl, h, m0, m1, k⟩
abbrev s_law_draw : Stmt := top 31
theorem sc_law_draw : FnScope ["state", "many", "cell", "digit"] ["state", "many"] (defScope s_law_draw) := ⟨rfl, rfl, rfl, by decide +kernel, rfl, by decide +kernel, by decide +kernel⟩
theorem ok_ldraw {f : Addr} {fd : FuncData} (G : Fun K "_law_draw" "_law_draw" s_law_draw f fd) (T : TxtN mg) : FnOk P w K mg base (L2.CX P w) 1 f fd ["state", "many"] (spOf K sdDraw) := by
  refine okD G sc_law_draw [0] (fun as Q E ⟨x, m, e, _⟩ => by subst e; exact ⟨rfl, rfl⟩) ⟨_, fun cdv A outer s H E ad F0 H0 hr => (pds_cons (psd_setItem (j := 0) (fun h g => ps_asg h g) (fun ho hi hs => pg_sub ho hi hs) (pv 0) (pd_op op_add (op2_I0 fun _ _ _ => .int _) (pd_ixO (i := 0) (pv 0) (pd_const pe_int (fun _ => .int _)) (fun _ _ => rfl)) (pd_const pe_int (fun _ => .int _))) (pd_const pe_int (fun _ => .int _)))
      (pds_cons (psd_if (PW.pt (pwd_and (ptd_cmp op_eq op2_eq.op (pd_ixO (i := 0) (pv 0) (pd_const pe_int (fun _ => .int _)) (fun _ _ => rfl)) (pd_const pe_int (fun _ => .int _)) (nomark _)) (pwd_and1 (ptd_cmp op_lt (op2_I0 fun _ _ _ => .bl _) (pd_ixO (i := 0) (pv 0) (pd_const pe_int (fun _ => .int _)) (fun _ _ => rfl)) (pd_builtB (fun h => pe_callB call_len_seq (by rfl) T.b_len (by decide +kernel) h) cn_len.op (pda_cons (pd_ixO (i := 0) (pv 0) (pd_const pe_int (fun _ => .int _)) (fun _ _ => rfl)) pda_nil)) (nomark _))))) (pds_cons (psd_set (i := 2) (pd_ix ix_list op2_ixL (pd_ixO (i := 0) (pv 0) (pd_const pe_int (fun _ => .int _)) (fun _ _ => rfl)) (pd_ixO (i := 0) (pv 0) (pd_const pe_int (fun _ => .int _)) (fun _ _ => rfl)) (fun _ _ => rfl)) (by show ¬ (2 ∈ ([0] : List Nat)); decide) sc_law_draw.nd rfl (.inl rfl))
      (pds_cons (psd_setItem (j := 0) (fun h g => ps_asg h g) (fun ho hi hs => pg_sub ho hi hs) (pv 0) (pd_op op_add (op2_I0 fun _ _ _ => .int _) (pd_ixO (i := 0) (pv 0) (pd_const pe_int (fun _ => .int _)) (fun _ _ => rfl)) (pd_const pe_int (fun _ => .int _))) (pd_const pe_int (fun _ => .int _)))
      (pds_cons (psd_setItem (j := 0) (fun h g => ps_asg h g) (fun ho hi hs => pg_sub ho hi hs) (pv 0) (pd_op op_mod (op2_I fun _ _ _ => .int _) (pd_op op_add (op2_I0 fun _ _ _ => .int _) (pd_op op_add (op2_I0 fun _ _ _ => .int _) (pd_op op_mul (op2_I fun _ _ _ => .int _) (pd_ixO (i := 0) (pv 0) (pd_const pe_int (fun _ => .int _)) (fun _ _ => rfl)) (pd_const pe_int (fun _ => .int _))) (pd_op op_mod (op2_I fun _ _ _ => .int _) (pd_builtB (fun h => pe_callTy call_int1 (by rfl) T.b_int (by decide +kernel) h) cn_int.op (pda_cons (pd_var (pv 2)) pda_nil)) (pd_const pe_int (fun _ => .int _)))) (pd_ixO (i := 0) (pv 0) (pd_const pe_int (fun _ => .int _)) (fun _ _ => rfl))) (pd_const pe_int (fun _ => .int _))) (pd_const pe_int (fun _ => .int _)))
      (pds_one (psd_if (PW.pt (pwd_or (ptd_cmp op_ge (op2_I0 fun _ _ _ => .bl _) (pd_var (pv 2)) (pd_op op_pow (op2_I fun _ _ _ => .int _) (pd_const pe_int (fun _ => .int _)) (pd_const pe_int (fun _ => .int _))) (nomark _)) (pwd_or1 (ptd_cmp op_le (op2_I0 fun _ _ _ => .bl _) (pd_var (pv 2)) (pd_neg (pd_op op_pow (op2_I fun _ _ _ => .int _) (pd_const pe_int (fun _ => .int _)) (pd_const pe_int (fun _ => .int _)))) (nomark _))))) (pds_one (psd_setItem (j := 0) (fun h g => ps_asg h g) (fun ho hi hs => pg_sub ho hi hs) (pv 0) (pd_builtB (fun h => pe_callB call_abs (by rfl) T.b_abs (by decide +kernel) h) cn_abs.op (pda_cons (pd_var (pv 2)) pda_nil)) (pd_const pe_int (fun _ => .int _)))) pds_nil))))) pds_nil)
      (pds_cons (psd_if (ptd_cmp op_gt (op2_I0 fun _ _ _ => .bl _) (pd_ixO (i := 0) (pv 0) (pd_const pe_int (fun _ => .int _)) (fun _ _ => rfl)) (pd_const pe_int (fun _ => .int _)) (nomark _)) (pds_cons (psd_set (i := 3) (pd_op op_mod (op2_I fun _ _ _ => .int _) (pd_ixO (i := 0) (pv 0) (pd_const pe_int (fun _ => .int _)) (fun _ _ => rfl)) (pd_var (pv 1))) (by show ¬ (3 ∈ ([0] : List Nat)); decide) sc_law_draw.nd rfl (.inl rfl))
      (pds_cons (psd_setItem (j := 0) (fun h g => ps_asg h g) (fun ho hi hs => pg_sub ho hi hs) (pv 0) (pd_op op_fdivW (op2_I fun _ _ _ => .int _) (pd_ixO (i := 0) (pv 0) (pd_const pe_int (fun _ => .int _)) (fun _ _ => rfl)) (pd_var (pv 1))) (pd_const pe_int (fun _ => .int _)))
      (pds_one (psd_ret (pd_var (pv 3)))))) pds_nil)
      (pds_cons (psd_setItem (j := 0) (fun h g => ps_asg h g) (fun ho hi hs => pg_sub ho hi hs) (pv 0) (pd_op op_mod (op2_I fun _ _ _ => .int _) (pd_op op_add (op2_I0 fun _ _ _ => .int _) (pd_op op_add (op2_I0 fun _ _ _ => .int _) (pd_op op_mul (op2_I fun _ _ _ => .int _) (pd_ixO (i := 0) (pv 0) (pd_const pe_int (fun _ => .int _)) (fun _ _ => rfl)) (pd_const pe_int (fun _ => .int _))) (pd_op op_mul (op2_I fun _ _ _ => .int _) (pd_ixO (i := 0) (pv 0) (pd_const pe_int (fun _ => .int _)) (fun _ _ => rfl)) (pd_const pe_int (fun _ => .int _)))) (pd_const pe_int (fun _ => .int _))) (pd_const pe_int (fun _ => .int _))) (pd_const pe_int (fun _ => .int _)))
      (pds_one (psd_ret (pd_op op_mod (op2_I fun _ _ _ => .int _) (pd_op op_fdivW (op2_I fun _ _ _ => .int _) (pd_ixO (i := 0) (pv 0) (pd_const pe_int (fun _ => .int _)) (fun _ _ => rfl)) (pd_const pe_int (fun _ => .int _))) (pd_var (pv 1))))))))), ?_⟩
  rintro as Qd Ed ⟨ys, m, rfl, ⟨zs, a, b, c, e, rfl, hb, hc, hc2, he⟩, m0, m1, k⟩
  refine DR.start (δ' := st5 zs a b c e [some (.d (.int m)), none, none]) rfl ?_
  with_reducible refine DR.cut (fun δ => δ = st5 zs a b c (e + 1) [some (.d (.int m)), none, none]) (fun N kN => ?_) ?_
  · walk_at "dd"
    exact kN _ rfl
  rintro δ rfl
  with_reducible refine DR.cut (fun δ => ∃ (a : Nat) (b c : Int) (q2 : Option DV), 0 ≤ b ∧ 0 ≤ c ∧ c < 2147483587 ∧ δ = st5 zs a b c (e + 1) [some (.d (.int m)), q2, none]) (fun N kN => ?_) ?_
  · have skip_ := kN _ ⟨a, b, c, none, hb, hc, hc2, rfl⟩
    walk_at "dd"
    refine DR.split (fun c1 => ?_) (fun c1 => ?_)
    case refine_2 => walk_at "dd"; exact skip_
    walk_at "dd"
    refine DR.split (fun c2 => ?_) (fun c2 => ?_)
    case refine_2 => walk_at "dd"; exact skip_
    have hal : a < zs.length := by rw [List.length_map] at c2; omega
    with_reducible refine DR.cut (fun δ => δ = st5 zs a b c (e + 1) [some (.d (.int m)), some (.d (.int zs[a])), none]) (fun N kN => ?_) ?_
    · walk_at "dd"
      exact ⟨_, _, .inl rfl, atI_map (f := D.int) (List.getElem?_eq_getElem hal), kN _ rfl⟩
    rintro δ rfl
    generalize zs[a] = z
    with_reducible refine DR.cut (fun δ => δ = st5 zs (a + 1) b c (e + 1) [some (.d (.int m)), some (.d (.int z)), none]) (fun N kN => ?_) ?_
    · walk_at "dd"
      exact kN _ rfl
    rintro δ rfl
    with_reducible refine DR.cut (fun δ => ∃ c, 0 ≤ c ∧ c < 2147483587 ∧ δ = st5 zs (a + 1) b c (e + 1) [some (.d (.int m)), some (.d (.int z)), none]) (fun N kN => ?_) ?_
    · walk_at "dd"
      exact kN _ ⟨_, Int.emod_nonneg _ (by decide), Int.emod_lt_of_pos _ (by decide), rfl⟩
    rintro δ ⟨c, hc, hc2, rfl⟩
    have sk2 := kN _ ⟨a + 1, b, c, some (.d (.int z)), hb, hc, hc2, rfl⟩
    walk_at "dd"
    refine DR.split (fun c3 => ?_) (fun c3 => ?_)
    · walk_at "dd"
      refine kN _ ⟨a + 1, _, c, _, ?_, hc, hc2, rfl⟩
      omega
    · walk_at "dd"
      refine DR.split (fun c4 => ?_) (fun c4 => ?_)
      · walk_at "dd"
        refine kN _ ⟨a + 1, _, c, _, ?_, hc, hc2, rfl⟩
        omega
      · walk_at "dd"
        exact sk2
  rintro δ ⟨a, b, c, q2, hb, hc, hc2, rfl⟩
  with_reducible refine DR.cut (fun δ => δ = st5 zs a b c (e + 1) [some (.d (.int m)), q2, none]) (fun N kN => ?_) ?_
  · walk_at "dd"
    refine DR.split (fun c1 => ?_) (fun c1 => ?_)
    case refine_2 => walk_at "dd"; exact kN _ rfl
    walk_at "dd"
    refine ⟨divw2 m0 m1, ?_⟩
    walk_at "dd"
    exact k _ _ (Int.emod_nonneg _ (by omega)) (Int.emod_lt_of_pos _ m0) ⟨zs, a, _, c, _, rfl, Int.ediv_nonneg hb (by omega), hc, hc2, by omega⟩
  rintro δ rfl
  walk_at "dd"
  exact k _ _ (Int.emod_nonneg _ (by omega)) (Int.emod_lt_of_pos _ m0) ⟨zs, a, b, _, _, rfl, hb, Int.emod_nonneg _ (by decide), Int.lt_trans (Int.emod_lt_of_pos _ (by decide)) (by decide), by omega⟩
end
end KT

set_option Elab.async false
set_option linter.all false
set_option maxRecDepth 100000
set_option maxHeartbeats 0
set_option pp.deepTerms false
set_option pp.deepTerms.threshold 8


namespace KT
open PySem PySem.Spec PyProof.Rows L2 DL
/-! ### names and numbers -/
section
variable {P : Program} {w : World} {K : PySem.W.Frag} {mg : Str → Option Value} {base : Heap}
def sdWholeL : SpD := fun as Q _ => ∃ i : Int, as = [.d (.int i)] ∧ Q (.d (.bl true)) []
abbrev s_law_whole : Stmt := top 33
theorem sc_law_whole : FnScope ["thing"] ["thing"] (defScope s_law_whole) := ⟨rfl, rfl, rfl, by decide +kernel, rfl, by decide +kernel, by decide +kernel⟩
theorem ok_lwhole {f : Addr} {fd : FuncData} (G : Fun K "_law_whole" "_law_whole" s_law_whole f fd) (T : TxtN mg) : FnOk P w K mg base (L2.CX P w) 1 f fd ["thing"] (spOf K sdWholeL) := by
  refine okD G sc_law_whole [] (fun as Q E ⟨x, e, _⟩ => by subst e; exact ⟨rfl, rfl⟩) ⟨_, fun cdv A outer s H E ad F0 H0 hr => (pds_one (psd_ret (pd_and (pd_builtB (fun h => pe_callB call_isi (by rfl) T.b_isinstance (by decide +kernel) h) (cn_isi (K := K)).op (pda_cons (pd_var (pv 0)) (pda_cons (pd_const (pe_bltn (v := .ty "int") (by rfl) T.b_int (by decide +kernel) rfl) (fun _ => .ty _)) pda_nil))) (pd_one (pd_not (pd_builtB (fun h => pe_callB call_isi (by rfl) T.b_isinstance (by decide +kernel) h) (cn_isi (K := K)).op (pda_cons (pd_var (pv 0)) (pda_cons (pd_const (pe_bltn (v := .ty "bool") (by rfl) T.b_bool (by decide +kernel) rfl) (fun _ => .ty _)) pda_nil)))))))), ?_⟩
  rintro as Qd Ed ⟨i, rfl, k⟩
  refine DR.start (δ' := [some (.d (.int i))]) rfl ?_
  walk_at "dd"
  refine ⟨_, _, _, _, true, rfl, .ty _, .int _, kit_self, ?_⟩
  walk_at "dd"
  refine ⟨_, _, _, _, false, rfl, .ty _, .int _, by rfl, ?_⟩
  walk_at "dd"
  exact k
def sdNumber : SpD := fun as Q _ => ∃ (ys : List D) (g : Int), as = [.own (.lst ys), .d (.int g)] ∧ Sta ys ∧ 1000000 ≤ g ∧ g ≤ 10 ^ 30 ∧ ∀ (r : Int) (ys : List D), -g ≤ r → r ≤ g → Sta ys → Q (.d (.int r)) [.lst ys]
abbrev s_law_number : Stmt := top 34
theorem sc_law_number : FnScope ["state", "great", "size"] ["state", "great"] (defScope s_law_number) := ⟨rfl, rfl, rfl, by decide +kernel, rfl, by decide +kernel, by decide +kernel⟩
theorem ok_lnumber (D_law_draw : DefD P w K mg base "_law_draw" 1 ["state", "many"] sdDraw) {f : Addr} {fd : FuncData} (G : Fun K "_law_number" "_law_number" s_law_number f fd) (T : TxtN mg) : FnOk P w K mg base (L2.CX P w) 3 f fd ["state", "great"] (spOf K sdNumber) := by
  refine okD G sc_law_number [0] (fun as Q E ⟨x, m, e, _⟩ => by subst e; exact ⟨rfl, rfl⟩) ⟨_, fun cdv A outer s H E ad F0 H0 hr => (pds_cons (psd_set (i := 2) (pd_ix ix_tup op2_ixT (pd_tup (fun h => pe_tup h) (pda_cons (pd_const pe_int (fun _ => .int _)) (pda_cons (pd_const pe_int (fun _ => .int _)) (pda_cons (pd_op op_pow (op2_I fun _ _ _ => .int _) (pd_const pe_int (fun _ => .int _)) (pd_const pe_int (fun _ => .int _))) (pda_cons (pd_var (pv 1)) pda_nil))))) (pd_call D_law_draw.ok (hr.mono (by decide)) (by rfl) D_law_draw.mg D_law_draw.kp D_law_draw.b (takes_of rfl rfl rfl rfl) (pda_own (i := 0) (pv 0) (pda_cons (pd_const pe_int (fun _ => .int _)) pda_nil))) (fun _ _ => rfl)) (by show ¬ (2 ∈ ([0] : List Nat)); decide) sc_law_number.nd rfl (.inl rfl))
      (pds_one (psd_ret (pd_op op_sub (op2_I0 fun _ _ _ => .int _) (pd_call D_law_draw.ok (hr.mono (by decide)) (by rfl) D_law_draw.mg D_law_draw.kp D_law_draw.b (takes_of rfl rfl rfl rfl) (pda_own (i := 0) (pv 0) (pda_cons (pd_op op_add (op2_I0 fun _ _ _ => .int _) (pd_op op_mul (op2_I fun _ _ _ => .int _) (pd_const pe_int (fun _ => .int _)) (pd_var (pv 2))) (pd_const pe_int (fun _ => .int _))) pda_nil))) (pd_var (pv 2)))))), ?_⟩
  rintro as Qd Ed ⟨ys, g, rfl, hs, g0, g1, k⟩
  refine DR.start (δ' := [some (.own (.lst ys)), some (.d (.int g)), none]) rfl ?_
  with_reducible refine DR.cut (fun δ => ∃ (ys : List D) (z : Int), Sta ys ∧ 1 ≤ z ∧ z ≤ g ∧ δ = [some (.own (.lst ys)), some (.d (.int g)), some (.d (.int z))]) (fun N kN => ?_) ?_
  · walk_at "dd"
    refine ⟨⟨by decide, by decide, by decide⟩, ?_⟩
    walk_at "dd"
    refine draw hs (by decide) (by decide) fun r ys r0 r1 hs => ?_
    walk_at "dd"
    obtain rfl | rfl | rfl | rfl : r = 0 ∨ r = 1 ∨ r = 2 ∨ r = 3 := by omega
    · exact ⟨_, _, _, rfl, rfl, rfl, kN _ ⟨ys, 1, hs, by decide, by omega, rfl⟩⟩
    · exact ⟨_, _, _, rfl, rfl, rfl, kN _ ⟨ys, 3, hs, by decide, by omega, rfl⟩⟩
    · have : ((10 : Int) ^ Int.toNat 6) = 1000000 := by decide
      exact ⟨_, _, _, rfl, rfl, rfl, kN _ ⟨ys, 10 ^ Int.toNat 6, hs, by omega, by omega, rfl⟩⟩
    · exact ⟨_, _, _, rfl, rfl, rfl, kN _ ⟨ys, g, hs, by omega, by omega, rfl⟩⟩
  rintro δ ⟨ys, z, hs, z0, z1, rfl⟩
  walk_at "dd"
  refine draw hs (by omega) (by omega) fun r ys r0 r1 hs => ?_
  walk_at "dd"
  exact k _ _ (by omega) (by omega) hs
end
end KT

set_option Elab.async false
set_option linter.all false
set_option maxRecDepth 100000
set_option maxHeartbeats 0
set_option pp.deepTerms false
set_option pp.deepTerms.threshold 8


namespace KT
open PySem PySem.Spec PyProof.Rows L2 DL
/-! ### a name that is not taken -/
def Low (z : Str) : Prop := ∀ c ∈ z.cps.toList, 97 ≤ c ∧ c ≤ 122
def Wd (z : Str) : Prop := 1 ≤ z.length ∧ z.length ≤ 12 ∧ Low z
theorem upto_at {m i : Nat} {x : D} (h : (upto 0 m)[i]? = some x) : x = .int i ∧ i < m := by
  unfold upto at h
  rw [List.getElem?_map] at h
  rcases Nat.lt_or_ge i m with hi | hi
  · rw [List.getElem?_range hi] at h
    cases h
    exact ⟨by show D.int (0 + (i : Int)) = _; rw [Int.zero_add], hi⟩
  · rw [List.getElem?_eq_none (by rw [List.length_range]; exact hi)] at h
    cases h
theorem upto_len {m : Nat} : (upto 0 m).length = m := by
  unfold upto
  simp
theorem str_cps {a b : Str} : (a ++ b).cps.toList = a.cps.toList ++ b.cps.toList := Array.toList_append
theorem str_len {a b : Str} : (a ++ b).length = a.length + b.length := Array.size_append
theorem str_x {a b : Str} (h : a.cps.toList = b.cps.toList) : a = b := by
  cases a; cases b
  exact congrArg _ (Array.toList_inj.mp h)
theorem cmp_e2 : Cmp (.lst []) := ⟨rfl, by simp [D.py, pyL, PyData.depth, PyData.depthAll]⟩
theorem at_last {l : List D} {x : D} (e : l[l.length - 1]? = some x) : atI l (-1) = some x := by
  have hl := (List.getElem?_eq_some_iff.mp e).1
  unfold atI
  have e2 : ixN l.length (-1) = some (l.length - 1) := by
    unfold ixN
    simp
    omega
  rw [e2]
  exact e
theorem at_abcF : ∀ i : Fin 26, atI (Str.ofString "abcdefghijklmnopqrstuvwxyz").cps.toList (i.val : Int) = some (97 + i.val) := by decide +kernel
theorem at_abc {r : Nat} (h : r < 26) : atI (Str.ofString "abcdefghijklmnopqrstuvwxyz").cps.toList (r : Int) = some (97 + r) := at_abcF ⟨r, h⟩
theorem nodup_le {α : Type} [BEq α] [LawfulBEq α] : ∀ {l k : List α}, l.Nodup → l ⊆ k → l.length ≤ k.length
  | [], _, _, _ => Nat.zero_le _
  | a :: l, k, nd, h => by
    have hn := List.nodup_cons.mp nd
    have ha : a ∈ k := h List.mem_cons_self
    have := nodup_le (k := k.erase a) hn.2 fun x hx => (List.mem_erase_of_ne (fun e => hn.1 (by rw [← e]; exact hx))).mpr (h (List.mem_cons_of_mem _ hx))
    rw [List.length_erase_of_mem ha] at this
    have hk : 0 < k.length := List.length_pos_of_mem ha
    rw [List.length_cons]
    omega
/-- the word with the sign at p moved on -/
def wat (z : Str) (p j : Nat) : Str := ⟨(z.cps.toList.set p (97 + ((z.cps.toList[p]?).getD 97 - 97 + j) % 26)).toArray⟩
theorem wat_cps {z : Str} {p j : Nat} : (wat z p j).cps.toList = z.cps.toList.set p (97 + ((z.cps.toList[p]?).getD 97 - 97 + j) % 26) := rfl
theorem wat_length {z : Str} {p j : Nat} : (wat z p j).length = z.length := by
  show (wat z p j).cps.size = z.cps.size
  rw [← Array.length_toList, wat_cps, List.length_set, Array.length_toList]
theorem wat_0 {z : Str} {p : Nat} (hp : p < z.length) (hz : Low z) : wat z p 0 = z := by
  refine str_x ?_
  rw [wat_cps]
  have hp : p < z.cps.toList.length := by rw [Array.length_toList]; exact hp
  have hm := hz _ (List.getElem_mem hp)
  rw [List.getElem?_eq_getElem hp, Option.getD_some]
  rw [show 97 + (z.cps.toList[p] - 97 + 0) % 26 = z.cps.toList[p] by omega]
  exact List.set_getElem_self hp
theorem wat_wd {z : Str} {p j : Nat} (hp : p < z.length) (hz : Wd z) : Wd (wat z p j) := by
  refine ⟨by rw [wat_length]; exact hz.1, by rw [wat_length]; exact hz.2.1, fun c hc => ?_⟩
  rw [wat_cps] at hc
  rcases List.mem_or_eq_of_mem_set hc with hc | hc
  · exact hz.2.2 c hc
  · omega
theorem wat_inj {z : Str} {p i j : Nat} (hp : p < z.length) (hi : i < 26) (hj : j < 26) (h : wat z p i = wat z p j) : i = j := by
  have hp : p < z.cps.toList.length := by rw [Array.length_toList]; exact hp
  have e := congrArg (fun s : Str => s.cps.toList[p]?) h
  simp only [wat_cps, List.getElem?_set_self hp, Option.some.injEq] at e
  omega
theorem wat_len {z : Str} {p : Nat} {ts : List Str} (hp : p < z.length) (h : ∀ j, j < 26 → wat z p j ∈ ts) : 26 ≤ ts.length := by
  have nd : ((List.range 26).map (wat z p)).Nodup := by
    refine List.pairwise_map.mpr (List.Pairwise.imp_of_mem ?_ List.nodup_range)
    intro a b ha hb hne e
    exact hne (wat_inj hp (List.mem_range.mp ha) (List.mem_range.mp hb) e)
  have sub : (List.range 26).map (wat z p) ⊆ ts := fun x hx => by
    obtain ⟨j, hj, rfl⟩ := List.mem_map.mp hx
    exact h j (List.mem_range.mp hj)
  have := nodup_le nd sub
  rwa [List.length_map, List.length_range] at this
def lt26 (z : Str) (p j : Nat) : Nat := ((z.cps.toList[p]?).getD 97 - 97 + j) % 26
theorem lt26_lt {z : Str} {p j : Nat} : lt26 z p j < 26 := Nat.mod_lt _ (by decide)
theorem lt26_s {z : Str} {p j : Nat} : (lt26 z p j + 1) % 26 = lt26 z p (j + 1) := by unfold lt26; omega
theorem wat_at {z : Str} {p m : Nat} (hp : p < z.length) : atI (wat z p m).cps.toList (p : Int) = some (97 + lt26 z p m) := by
  have hp2 : p < z.cps.toList.length := by rw [Array.length_toList]; exact hp
  unfold atI
  have hl : (wat z p m).cps.toList.length = z.cps.toList.length := by rw [wat_cps, List.length_set]
  rw [show ixN (wat z p m).cps.toList.length (p : Int) = some p by unfold ixN; rw [hl]; simp; exact hp]
  show (wat z p m).cps.toList[p]? = _
  rw [wat_cps, List.getElem?_set_self hp2]
  rfl
theorem occ_at {z : Str} {p m : Nat} : Builtin.Str.occurrences (Str.ofString "abcdefghijklmnopqrstuvwxyz") ⟨#[97 + lt26 z p m]⟩ 0 (Str.ofString "abcdefghijklmnopqrstuvwxyz").length 1 = lt26 z p m :: [] := DR.occ_abc ⟨lt26 z p m, lt26_lt⟩
theorem wat_next {z : Str} {p m : Nat} (hp : p < z.length) : Txt.slice (wat z p m) none (some (p : Int)) ++ ⟨#[97 + (lt26 z p m + 1) % 26]⟩ ++ Txt.slice (wat z p m) (some ((p : Int) + 1)) none = wat z p (m + 1) := by
  have hp2 : p < z.cps.toList.length := by rw [Array.length_toList]; exact hp
  have hwl : (wat z p m).length = z.length := wat_length
  refine str_x ?_
  rw [str_cps, str_cps, slice_hi (by omega), show ((p : Int) + 1) = ((p + 1 : Nat) : Int) by omega, slice_lo (by omega), lt26_s, wat_cps, wat_cps, List.set_eq_take_append_cons_drop, if_pos hp2, List.set_eq_take_append_cons_drop, if_pos hp2]
  have htl : (z.cps.toList.take p).length = p := by rw [List.length_take]; omega
  rw [List.take_left' htl]
  rw [List.drop_append, htl, show p + 1 - p = 1 by omega, List.drop_of_length_le (by rw [htl]; omega)]
  simp [lt26]
theorem at_abc2 {r : Nat} : atI (Str.ofString "abcdefghijklmnopqrstuvwxyz").cps.toList ((((r : Nat) : Int) + 1) % 26) = some (97 + (r + 1) % 26) := by
  show atI _ (((r + 1 : Nat) : Int) % ((26 : Nat) : Int)) = _
  rw [← Int.natCast_emod]
  exact at_abc (Nat.mod_lt _ (by decide))
theorem slice_le {z : Str} {lo hi : Option Int} : (Txt.slice z lo hi).length ≤ z.length := by
  have e := congrArg List.length (slice_cps z lo hi)
  rw [List.length_take, List.length_drop, Array.length_toList, Array.length_toList] at e
  show (Txt.slice z lo hi).cps.size ≤ z.cps.size
  omega
abbrev stN (ys : List D) (ts : List Str) (z : Str) (few : Int) (r : List (Option DV)) : DSt := [some (.own (.lst ys)), some (.d (.lst (ts.map .str))), some (.d (.str "abcdefghijklmnopqrstuvwxyz")), some (.d (.str z)), some (.d (.int few))] ++ r
section
variable {P : Program} {w : World} {K : PySem.W.Frag} {mg : Str → Option Value} {base : Heap}
def sdName : SpD := fun as Q _ => ∃ (ys : List D) (ts : List Str), as = [.own (.lst ys), .d (.lst (ts.map .str))] ∧ Sta ys ∧ ts.length ≤ 20 ∧ (∀ t ∈ ts, Wd t) ∧ ∀ (g : Str) (ys : List D), Wd g → g ∉ ts → Sta ys → Q (.d (.str g)) [.lst ys]
abbrev s_law_name : Stmt := top 32
theorem sc_law_name : FnScope ["state", "taken", "letters", "word", "few", "k", "place", "sign"] ["state", "taken"] (defScope s_law_name) := ⟨rfl, rfl, rfl, by decide +kernel, rfl, by decide +kernel, by decide +kernel⟩
theorem ok_lname (D_law_draw : DefD P w K mg base "_law_draw" 1 ["state", "many"] sdDraw) {f : Addr} {fd : FuncData} (G : Fun K "_law_name" "_law_name" s_law_name f fd) (T : TxtN mg) : FnOk P w K mg base (L2.CX P w) 3 f fd ["state", "taken"] (spOf K sdName) := by
  refine okD G sc_law_name [0] (fun as Q E ⟨x, m, e, _⟩ => by subst e; exact ⟨rfl, rfl⟩) ⟨_, fun cdv A outer s H E ad F0 H0 hr => (pds_cons (psd_set (i := 2) (pd_const pe_str (fun _ => .str (by decide +kernel))) (by show ¬ (2 ∈ ([0] : List Nat)); decide) sc_law_name.nd rfl (.inl rfl))
      (pds_cons (psd_set (i := 3) (pd_const pe_str (fun _ => .str (by decide +kernel))) (by show ¬ (3 ∈ ([0] : List Nat)); decide) sc_law_name.nd rfl (.inl rfl))
      (pds_cons (psd_set (i := 4) (pd_ix ix_tup op2_ixT (pd_tup (fun h => pe_tup h) (pda_cons (pd_const pe_int (fun _ => .int _)) (pda_cons (pd_const pe_int (fun _ => .int _)) pda_nil))) (pd_call D_law_draw.ok (hr.mono (by decide)) (by rfl) D_law_draw.mg D_law_draw.kp D_law_draw.b (takes_of rfl rfl rfl rfl) (pda_own (i := 0) (pv 0) (pda_cons (pd_const pe_int (fun _ => .int _)) pda_nil))) (fun _ _ => rfl)) (by show ¬ (4 ∈ ([0] : List Nat)); decide) sc_law_name.nd rfl (.inl rfl))
      (pds_cons (psd_for (passes_of rfl) rfl (pid_range1 (by rfl) T.b_range (pda_cons (pd_ix ix_tup op2_ixT (pd_tup (fun h => pe_tup h) (pda_cons (pd_const pe_int (fun _ => .int _)) (pda_cons (pd_const pe_int (fun _ => .int _)) (pda_cons (pd_const pe_int (fun _ => .int _)) (pda_cons (pd_const pe_int (fun _ => .int _)) pda_nil))))) (pd_call D_law_draw.ok (hr.mono (by decide)) (by rfl) D_law_draw.mg D_law_draw.kp D_law_draw.b (takes_of rfl rfl rfl rfl) (pda_own (i := 0) (pv 0) (pda_cons (pd_const pe_int (fun _ => .int _)) pda_nil))) (fun _ _ => rfl)) pda_nil)) (pgd_name (i := 5) (vs := [5]) (pg_name (i := 5) sc_law_name.nd rfl (.inl rfl)) (by show ¬ (5 ∈ ([0] : List Nat)); decide) (by decide))
      (pds_one (psd_set (i := 3) (pd_op op_add_str op2_addS (pd_var (pv 3)) (pd_ix ix_str op2_ixS (pd_var (pv 2)) (pd_call D_law_draw.ok (hr.mono (by decide)) (by rfl) D_law_draw.mg D_law_draw.kp D_law_draw.b (takes_of rfl rfl rfl rfl) (pda_own (i := 0) (pv 0) (pda_cons (pd_var (pv 4)) pda_nil))) (fun _ _ => rfl))) (by show ¬ (3 ∈ ([0] : List Nat)); decide) sc_law_name.nd rfl (.inl rfl))))
      (pds_cons (psd_if (PW.pt (pwd_and (ptd_cmp (op_neX hr.units) op2_neX.op (pd_var (pv 1)) (pd_lst (fun h => pe_lst h) pda_nil) (nomark _)) (pwd_and1 (ptd_cmp op_eq op2_eq.op (pd_call D_law_draw.ok (hr.mono (by decide)) (by rfl) D_law_draw.mg D_law_draw.kp D_law_draw.b (takes_of rfl rfl rfl rfl) (pda_own (i := 0) (pv 0) (pda_cons (pd_const pe_int (fun _ => .int _)) pda_nil))) (pd_const pe_int (fun _ => .int _)) (nomark _))))) (pds_one (psd_set (i := 3) (pd_ix ix_list op2_ixL (pd_var (pv 1)) (pd_neg (pd_const pe_int (fun _ => .int _))) (fun _ _ => rfl)) (by show ¬ (3 ∈ ([0] : List Nat)); decide) sc_law_name.nd rfl (.inl rfl))) pds_nil)
      (pds_cons (psd_set (i := 6) (pd_call D_law_draw.ok (hr.mono (by decide)) (by rfl) D_law_draw.mg D_law_draw.kp D_law_draw.b (takes_of rfl rfl rfl rfl) (pda_own (i := 0) (pv 0) (pda_cons (pd_builtB (fun h => pe_callB call_len_str (by rfl) T.b_len (by decide +kernel) h) cn_lenS.op (pda_cons (pd_var (pv 3)) pda_nil)) pda_nil))) (by show ¬ (6 ∈ ([0] : List Nat)); decide) sc_law_name.nd rfl (.inl rfl))
      (pds_cons (psd_for (passes_of rfl) rfl (pid_range1 (by rfl) T.b_range (pda_cons (pd_const pe_int (fun _ => .int _)) pda_nil)) (pgd_name (i := 5) (vs := [5]) (pg_name (i := 5) sc_law_name.nd rfl (.inl rfl)) (by show ¬ (5 ∈ ([0] : List Nat)); decide) (by decide))
      (pds_one (psd_if (ptd_cmp op_in_seq (op2_in false).op (pd_var (pv 3)) (pd_var (pv 1)) rfl) (pds_cons (psd_set (i := 7) (pd_ix ix_str op2_ixS (pd_var (pv 2)) (pd_op op_mod (op2_I fun _ _ _ => .int _) (pd_op op_add (op2_I0 fun _ _ _ => .int _) (pd_sindex (pd_var (pv 2)) (pd_ix ix_str op2_ixS (pd_var (pv 3)) (pd_var (pv 6)) (fun _ _ => rfl))) (pd_const pe_int (fun _ => .int _))) (pd_const pe_int (fun _ => .int _))) (fun _ _ => rfl)) (by show ¬ (7 ∈ ([0] : List Nat)); decide) sc_law_name.nd rfl (.inl rfl))
      (pds_one (psd_set (i := 3) (pd_op op_add_str op2_addS (pd_op op_add_str op2_addS (pd_sliceS (pd_var (pv 3)) pod_none (pod_some (pd_var (pv 6)))) (pd_var (pv 7))) (pd_sliceS (pd_var (pv 3)) (pod_some (pd_op op_add (op2_I0 fun _ _ _ => .int _) (pd_var (pv 6)) (pd_const pe_int (fun _ => .int _)))) pod_none)) (by show ¬ (3 ∈ ([0] : List Nat)); decide) sc_law_name.nd rfl (.inl rfl)))) pds_nil)))
      (pds_one (psd_ret (pd_var (pv 3))))))))))), ?_⟩
  rintro as Qd Ed ⟨ys, ts, rfl, hs, hl, ht, k⟩
  refine DR.start (δ' := [some (.own (.lst ys)), some (.d (.lst (ts.map .str))), none, none, none, none, none, none]) rfl ?_
  with_reducible refine DR.cut (fun δ => δ = [some (.own (.lst ys)), some (.d (.lst (ts.map .str))), some (.d (.str "abcdefghijklmnopqrstuvwxyz")), none, none, none, none, none]) (fun N kN => ?_) ?_
  · walk_at "dd"
    exact kN _ rfl
  rintro δ rfl
  with_reducible refine DR.cut (fun δ => δ = [some (.own (.lst ys)), some (.d (.lst (ts.map .str))), some (.d (.str "abcdefghijklmnopqrstuvwxyz")), some (.d (.str "")), none, none, none, none]) (fun N kN => ?_) ?_
  · walk_at "dd"
    exact kN _ rfl
  rintro δ rfl
  with_reducible refine DR.cut (fun δ => ∃ (ys : List D) (few : Int), Sta ys ∧ 1 ≤ few ∧ few ≤ 26 ∧ δ = stN ys ts "" few [none, none, none]) (fun N kN => ?_) ?_
  · walk_at "dd"
    refine draw hs (by decide) (by decide) fun r ys r0 r1 hs => ?_
    walk_at "dd"
    obtain rfl | rfl : r = 0 ∨ r = 1 := by omega
    · exact ⟨_, _, _, rfl, rfl, rfl, kN _ ⟨ys, 3, hs, by decide, by decide, rfl⟩⟩
    · exact ⟨_, _, _, rfl, rfl, rfl, kN _ ⟨ys, 26, hs, by decide, by decide, rfl⟩⟩
  rintro δ ⟨ys, few, hs, f0, f1, rfl⟩
  with_reducible refine DR.cut (fun δ => ∃ (ys : List D) (z : Str) (q5 : Option DV), Sta ys ∧ Wd z ∧ δ = stN ys ts z few [q5, none, none]) (fun N kN => ?_) ?_
  · refine DR.for_ ?_
    with_reducible refine DR.icut (fun xs δ => ∃ (n : Nat) (ys : List D), Sta ys ∧ 1 ≤ n ∧ n ≤ 12 ∧ xs = upto 0 n ∧ δ = stN ys ts "" few [none, none, none]) (fun N kN => ?_) ?_
    · walk_at "dd"
      refine draw hs (by decide) (by decide) fun r ys r0 r1 hs => ?_
      walk_at "dd"
      obtain rfl | rfl | rfl | rfl : r = 0 ∨ r = 1 ∨ r = 2 ∨ r = 3 := by omega
      · exact ⟨_, _, _, rfl, rfl, rfl, _, rfl, by decide, by decide, kN _ _ ⟨1, ys, hs, by decide, by decide, rfl, rfl⟩⟩
      · exact ⟨_, _, _, rfl, rfl, rfl, _, rfl, by decide, by decide, kN _ _ ⟨2, ys, hs, by decide, by decide, rfl, rfl⟩⟩
      · exact ⟨_, _, _, rfl, rfl, rfl, _, rfl, by decide, by decide, kN _ _ ⟨4, ys, hs, by decide, by decide, rfl, rfl⟩⟩
      · exact ⟨_, _, _, rfl, rfl, rfl, _, rfl, by decide, by decide, kN _ _ ⟨12, ys, hs, by decide, by decide, rfl, rfl⟩⟩
    rintro xs δ ⟨n, ys, hs, n1, n12, rfl, rfl⟩
    refine DR.for_inv (fun i δ => ∃ (ys : List D) (z : Str) (q5 : Option DV), Sta ys ∧ z.length = i ∧ Low z ∧ δ = stN ys ts z few [q5, none, none]) ⟨ys, "", _, hs, rfl, (fun c hc => nomatch hc), rfl⟩ ?_ ?_
    · rintro i x δ N2 hx ⟨ys, z, q5, hs, hz, hlo, rfl⟩ kN2
      obtain ⟨rfl, hi⟩ := upto_at hx
      walk_at "dd"
      refine draw hs (by omega) (by omega) fun r ys r0 r1 hs => ?_
      obtain ⟨r, rfl⟩ := Int.eq_ofNat_of_zero_le r0
      have hr26 : r < 26 := by omega
      refine ⟨_, _, _, rfl, rfl, by decide, at_abc hr26, ?_⟩
      refine ⟨_, _, rfl, rfl, Nat.le_trans (show z.length + 1 ≤ 20 by omega) (by decide), ?_⟩
      walk_at "dd"
      refine kN2 _ ⟨ys, _, _, hs, ?_, ?_, rfl⟩
      · rw [str_len, hz]; rfl
      · intro c hc
        rw [str_cps] at hc
        rcases List.mem_append.mp hc with hc | hc
        · exact hlo c hc
        · rw [List.mem_singleton.mp hc]; omega
    · rintro δ ⟨ys, z, q5, hs, hz, hlo, rfl⟩
      rw [upto_len] at hz
      exact kN _ ⟨ys, z, q5, hs, ⟨by omega, by omega, hlo⟩, rfl⟩
  rintro δ ⟨ys, z, q5, hs, hz, rfl⟩
  with_reducible refine DR.cut (fun δ => ∃ (ys : List D) (z : Str), Sta ys ∧ Wd z ∧ δ = stN ys ts z few [q5, none, none]) (fun N kN => ?_) ?_
  · walk_at "dd"
    rcases ts with _ | ⟨t0, ts⟩
    · refine .inl (eqd_f (b := true) cmp_e2 cmp_e2 rfl ?_)
      walk_at "dd"
      exact kN _ ⟨ys, z, hs, hz, rfl⟩
    · refine .inr ⟨_, _, .inl rfl, .inl rfl, (by simp), ?_⟩
      walk_at "dd"
      refine draw hs (by decide) (by decide) fun r ys r0 r1 hs => ?_
      walk_at "dd"
      refine DR.split (fun c => ?_) (fun c => ?_)
      · walk_at "dd"
        have hlast : (t0 :: ts)[(t0 :: ts).length - 1]? = some ((t0 :: ts)[(t0 :: ts).length - 1]'(by simp)) := List.getElem?_eq_getElem _
        generalize (t0 :: ts)[(t0 :: ts).length - 1] = tl at hlast
        refine ⟨_, _, .inl rfl, at_last (by rw [List.length_map, List.getElem?_map, hlast]; rfl), ?_⟩
        walk_at "dd"
        exact kN _ ⟨ys, tl, hs, ht tl (List.mem_of_getElem? hlast), rfl⟩
      · walk_at "dd"
        exact kN _ ⟨ys, z, hs, hz, rfl⟩
  rintro δ ⟨ys, z, hs, hz, rfl⟩
  with_reducible refine DR.cut (fun δ => ∃ (ys : List D) (p : Nat), Sta ys ∧ p < z.length ∧ δ = stN ys ts z few [q5, some (.d (.int p)), none]) (fun N kN => ?_) ?_
  · walk_at "dd"
    have h1 := hz.1
    have h12 := hz.2.1
    refine ⟨Nat.le_trans h12 (by decide), ?_⟩
    walk_at "dd"
    refine draw hs (by omega) (by omega) fun r ys r0 r1 hs => ?_
    obtain ⟨r, rfl⟩ := Int.eq_ofNat_of_zero_le r0
    walk_at "dd"
    exact kN _ ⟨ys, r, hs, by omega, rfl⟩
  rintro δ ⟨ys, p, hs, hp, rfl⟩
  with_reducible refine DR.cut (fun δ => ∃ (z2 : Str) (q5 q7 : Option DV), Wd z2 ∧ z2 ∉ ts ∧ δ = stN ys ts z2 few [q5, some (.d (.int p)), q7]) (fun N kN => ?_) ?_
  · walk_at "dd"
    refine ⟨by decide, by decide, ?_⟩
    refine DR.for_inv (fun i δ => ∃ (m : Nat) (q5 q7 : Option DV), ((m = i ∧ ∀ j, j < m → wat z p j ∈ ts) ∨ wat z p m ∉ ts) ∧ δ = stN ys ts (wat z p m) few [q5, some (.d (.int p)), q7]) ⟨0, _, _, .inl ⟨rfl, fun j hj => absurd hj (Nat.not_lt_zero j)⟩, by rw [wat_0 hp hz.2.2]⟩ ?_ ?_
    · rintro i x δ N2 hx ⟨m, q5, q7, hm, rfl⟩ kN2
      obtain ⟨rfl, hi⟩ := upto_at hx
      have hp2 : p < z.cps.toList.length := by rw [Array.length_toList]; exact hp
      have hwl : (wat z p m).length = z.length := wat_length
      have h12 := hz.2.1
      walk_at "dd"
      refine ⟨_, _, _, rfl, rfl, scL_str, ?_⟩
      rw [if_neg Bool.false_ne_true, inV_str]
      refine ⟨DR.nost_b, _, rfl, ?_⟩
      refine DR.split (fun c => ?_) (fun c => ?_)
      case refine_2 => walk_at "dd"; exact kN2 _ ⟨m, _, _, .inr c, rfl⟩
      have hm2 : m = i ∧ ∀ j, j < m → wat z p j ∈ ts := hm.resolve_right (fun h => h c)
      walk_at "dd"
      refine DR.sindex ?_
      walk_at "dd"
      refine ⟨⟨_, rfl⟩, ?_⟩
      walk_at "dd"
      refine ⟨_, _, _, rfl, rfl, Nat.le_trans (show (wat z p m).length ≤ 12 by omega) (by decide), wat_at hp, ?_⟩
      refine ⟨_, _, lt26 z p m, [], rfl, rfl, occ_at, ?_⟩
      walk_at "dd"
      refine ⟨_, _, 97 + (lt26 z p m + 1) % 26, rfl, rfl, by decide, at_abc2, ?_⟩
      walk_at "dd"
      refine ⟨Nat.le_trans (show (wat z p m).length ≤ 12 by omega) (by decide), ?_⟩
      walk_at "dd"
      have l1 := @slice_le (wat z p m) none (some (p : Int))
      refine ⟨Nat.le_trans (show (Txt.slice (wat z p m) none (some (p : Int))).length + 1 ≤ 20 by omega) (by decide), ?_⟩
      walk_at "dd"
      refine ⟨Nat.le_trans (show (wat z p m).length ≤ 12 by omega) (by decide), ?_⟩
      walk_at "dd"
      have l2 := @slice_le (wat z p m) (some ((p : Int) + 1)) none
      refine ⟨Nat.le_trans (show (Txt.slice (wat z p m) none (some (p : Int)) ++ ⟨#[97 + (lt26 z p m + 1) % 26]⟩).length + (Txt.slice (wat z p m) (some ((p : Int) + 1)) none).length ≤ 40 by rw [str_len]; show _ + 1 + _ ≤ 40; omega) (by decide), ?_⟩
      rw [wat_next hp]
      refine kN2 _ ⟨m + 1, some (.d (.int i)), some (.d (.str ⟨#[97 + (lt26 z p m + 1) % 26]⟩)), ?_, rfl⟩
      refine .inl ⟨by rw [hm2.1], fun j hj => ?_⟩
      rcases Nat.lt_succ_iff_lt_or_eq.mp hj with h | h
      · exact hm2.2 j h
      · rw [h]; exact c
    · rintro δ ⟨m, q5, q7, hm, rfl⟩
      refine kN _ ⟨wat z p m, _, _, wat_wd hp hz, ?_, rfl⟩
      rcases hm with ⟨rfl, hm⟩ | hm
      · rw [upto_len] at hm
        exact absurd (wat_len hp hm) (by omega)
      · exact hm
  rintro δ ⟨z2, q5, q7, hz2, hn, rfl⟩
  walk_at "dd"
  exact k _ _ hz2 hn hs
end
end KT

set_option Elab.async false
set_option linter.all false
set_option maxRecDepth 100000
set_option maxHeartbeats 0
set_option pp.deepTerms false
set_option pp.deepTerms.threshold 8


namespace KT
open PySem PySem.Spec PyProof.Rows L2 DL
/-! ### happenings drawn, and what they change -/
abbrev stH (ys : List D) (ns : List Str) (a b : Str) (r : List (Option DV)) : DSt := [some (.own (.lst ys)), some (.d (.lst (ns.map .str))), some (.d (.str a)), some (.d (.str b))] ++ r
section
variable {P : Program} {w : World} {K : PySem.W.Frag} {mg : Str → Option Value} {base : Heap}
def sdHap : SpD := fun as Q _ => ∃ (ys : List D) (ns : List Str), as = [.own (.lst ys), .d (.lst (ns.map .str))] ∧ Sta ys ∧ 1 ≤ ns.length ∧ ns.length ≤ 20 ∧ ∀ (h : Hap) (ys : List D), HapOk h → Sta ys → Q (.d (hapT h)) [.lst ys]
abbrev s_law_happening : Stmt := top 37
theorem sc_law_happening : FnScope ["state", "names", "one", "other", "way", "amount"] ["state", "names"] (defScope s_law_happening) := ⟨rfl, rfl, rfl, by decide +kernel, rfl, by decide +kernel, by decide +kernel⟩
theorem ok_lhap (D_law_draw : DefD P w K mg base "_law_draw" 1 ["state", "many"] sdDraw) (D_law_number : DefD P w K mg base "_law_number" 3 ["state", "great"] sdNumber) {f : Addr} {fd : FuncData} (G : Fun K "_law_happening" "_law_happening" s_law_happening f fd) (T : TxtN mg) : FnOk P w K mg base (L2.CX P w) 5 f fd ["state", "names"] (spOf K sdHap) := by
  refine okD G sc_law_happening [0] (fun as Q E ⟨x, m, e, _⟩ => by subst e; exact ⟨rfl, rfl⟩) ⟨_, fun cdv A outer s H E ad F0 H0 hr => (pds_cons (psd_set (i := 2) (pd_ix ix_list op2_ixL (pd_var (pv 1)) (pd_call D_law_draw.ok (hr.mono (by decide)) (by rfl) D_law_draw.mg D_law_draw.kp D_law_draw.b (takes_of rfl rfl rfl rfl) (pda_own (i := 0) (pv 0) (pda_cons (pd_builtB (fun h => pe_callB call_len_seq (by rfl) T.b_len (by decide +kernel) h) cn_len.op (pda_cons (pd_var (pv 1)) pda_nil)) pda_nil))) (fun _ _ => rfl)) (by show ¬ (2 ∈ ([0] : List Nat)); decide) sc_law_happening.nd rfl (.inl rfl))
      (pds_cons (psd_set (i := 3) (pd_ix ix_list op2_ixL (pd_var (pv 1)) (pd_call D_law_draw.ok (hr.mono (by decide)) (by rfl) D_law_draw.mg D_law_draw.kp D_law_draw.b (takes_of rfl rfl rfl rfl) (pda_own (i := 0) (pv 0) (pda_cons (pd_builtB (fun h => pe_callB call_len_seq (by rfl) T.b_len (by decide +kernel) h) cn_len.op (pda_cons (pd_var (pv 1)) pda_nil)) pda_nil))) (fun _ _ => rfl)) (by show ¬ (3 ∈ ([0] : List Nat)); decide) sc_law_happening.nd rfl (.inl rfl))
      (pds_cons (psd_set (i := 4) (pd_call D_law_draw.ok (hr.mono (by decide)) (by rfl) D_law_draw.mg D_law_draw.kp D_law_draw.b (takes_of rfl rfl rfl rfl) (pda_own (i := 0) (pv 0) (pda_cons (pd_const pe_int (fun _ => .int _)) pda_nil))) (by show ¬ (4 ∈ ([0] : List Nat)); decide) sc_law_happening.nd rfl (.inl rfl))
      (pds_cons (psd_set (i := 5) (pd_call D_law_number.ok (hr.mono (by decide)) (by rfl) D_law_number.mg D_law_number.kp D_law_number.b (takes_of rfl rfl rfl rfl) (pda_own (i := 0) (pv 0) (pda_cons (pd_op op_pow (op2_I fun _ _ _ => .int _) (pd_const pe_int (fun _ => .int _)) (pd_const pe_int (fun _ => .int _))) pda_nil))) (by show ¬ (5 ∈ ([0] : List Nat)); decide) sc_law_happening.nd rfl (.inl rfl))
      (pds_cons (psd_if (ptd_cmp op_eq op2_eq.op (pd_var (pv 4)) (pd_const pe_int (fun _ => .int _)) (nomark _)) (pds_one (psd_ret (pd_tup (fun h => pe_tup h) (pda_cons (pd_const pe_str (fun _ => .str (by decide +kernel))) (pda_cons (pd_var (pv 3)) pda_nil))))) pds_nil)
      (pds_cons (psd_if (ptd_cmp op_eq op2_eq.op (pd_var (pv 4)) (pd_const pe_int (fun _ => .int _)) (nomark _)) (pds_one (psd_ret (pd_tup (fun h => pe_tup h) (pda_cons (pd_const pe_str (fun _ => .str (by decide +kernel))) (pda_cons (pd_var (pv 2)) (pda_cons (pd_ix ix_tup op2_ixT (pd_tup (fun h => pe_tup h) (pda_cons (pd_const pe_str (fun _ => .str (by decide +kernel))) (pda_cons (pd_const pe_str (fun _ => .str (by decide +kernel))) pda_nil))) (pd_call D_law_draw.ok (hr.mono (by decide)) (by rfl) D_law_draw.mg D_law_draw.kp D_law_draw.b (takes_of rfl rfl rfl rfl) (pda_own (i := 0) (pv 0) (pda_cons (pd_const pe_int (fun _ => .int _)) pda_nil))) (fun _ _ => rfl)) pda_nil)))))) pds_nil)
      (pds_cons (psd_if (ptd_cmp op_lt (op2_I0 fun _ _ _ => .bl _) (pd_var (pv 4)) (pd_const pe_int (fun _ => .int _)) (nomark _)) (pds_one (psd_ret (pd_tup (fun h => pe_tup h) (pda_cons (pd_ix ix_tup op2_ixT (pd_tup (fun h => pe_tup h) (pda_cons (pd_const pe_str (fun _ => .str (by decide +kernel))) (pda_cons (pd_const pe_str (fun _ => .str (by decide +kernel))) pda_nil))) (pd_op op_sub (op2_I0 fun _ _ _ => .int _) (pd_var (pv 4)) (pd_const pe_int (fun _ => .int _))) (fun _ _ => rfl)) (pda_cons (pd_var (pv 2)) (pda_cons (pd_var (pv 3)) (pda_cons (pd_const pe_str (fun _ => .str (by decide +kernel))) (pda_cons (pd_op op_add (op2_I0 fun _ _ _ => .int _) (pd_const pe_int (fun _ => .int _)) (pd_call D_law_draw.ok (hr.mono (by decide)) (by rfl) D_law_draw.mg D_law_draw.kp D_law_draw.b (takes_of rfl rfl rfl rfl) (pda_own (i := 0) (pv 0) (pda_cons (pd_op op_pow (op2_I fun _ _ _ => .int _) (pd_const pe_int (fun _ => .int _)) (pd_const pe_int (fun _ => .int _))) pda_nil)))) (pda_cons (pd_var (pv 5)) pda_nil))))))))) pds_nil)
      (pds_cons (psd_if (ptd_cmp op_lt (op2_I0 fun _ _ _ => .bl _) (pd_var (pv 4)) (pd_const pe_int (fun _ => .int _)) (nomark _)) (pds_one (psd_ret (pd_tup (fun h => pe_tup h) (pda_cons (pd_ix ix_tup op2_ixT (pd_tup (fun h => pe_tup h) (pda_cons (pd_const pe_str (fun _ => .str (by decide +kernel))) (pda_cons (pd_const pe_str (fun _ => .str (by decide +kernel))) pda_nil))) (pd_op op_sub (op2_I0 fun _ _ _ => .int _) (pd_var (pv 4)) (pd_const pe_int (fun _ => .int _))) (fun _ _ => rfl)) (pda_cons (pd_var (pv 2)) (pda_cons (pd_op op_add (op2_I0 fun _ _ _ => .int _) (pd_const pe_int (fun _ => .int _)) (pd_builtB (fun h => pe_callB call_abs (by rfl) T.b_abs (by decide +kernel) h) cn_abs.op (pda_cons (pd_var (pv 5)) pda_nil))) pda_nil)))))) pds_nil)
      (pds_cons (psd_if (ptd_cmp op_eq op2_eq.op (pd_var (pv 4)) (pd_const pe_int (fun _ => .int _)) (nomark _)) (pds_one (psd_ret (pd_tup (fun h => pe_tup h) (pda_cons (pd_const pe_str (fun _ => .str (by decide +kernel))) (pda_cons (pd_var (pv 2)) (pda_cons (pd_var (pv 5)) (pda_cons (pd_call D_law_number.ok (hr.mono (by decide)) (by rfl) D_law_number.mg D_law_number.kp D_law_number.b (takes_of rfl rfl rfl rfl) (pda_own (i := 0) (pv 0) (pda_cons (pd_op op_pow (op2_I fun _ _ _ => .int _) (pd_const pe_int (fun _ => .int _)) (pd_const pe_int (fun _ => .int _))) pda_nil))) pda_nil))))))) pds_nil)
      (pds_one (psd_ret (pd_tup (fun h => pe_tup h) (pda_cons (pd_const pe_str (fun _ => .str (by decide +kernel))) (pda_cons (pd_var (pv 2)) (pda_cons (pd_op op_add (op2_I0 fun _ _ _ => .int _) (pd_const pe_int (fun _ => .int _)) (pd_builtB (fun h => pe_callB call_abs (by rfl) T.b_abs (by decide +kernel) h) cn_abs.op (pda_cons (pd_var (pv 5)) pda_nil))) pda_nil))))))))))))))), ?_⟩
  rintro as Qd Ed ⟨ys, ns, rfl, hs, n1, n20, k⟩
  refine DR.start (δ' := [some (.own (.lst ys)), some (.d (.lst (ns.map .str))), none, none, none, none]) rfl ?_
  with_reducible refine DR.cut (fun δ => ∃ (ys : List D) (a : Str), Sta ys ∧ δ = [some (.own (.lst ys)), some (.d (.lst (ns.map .str))), some (.d (.str a)), none, none, none]) (fun N kN => ?_) ?_
  · walk_at "dd"
    refine draw hs (by rw [List.length_map]; omega) (by rw [List.length_map]; omega) fun r ys r0 r1 hs => ?_
    rw [List.length_map] at r1
    obtain ⟨r, rfl⟩ := Int.eq_ofNat_of_zero_le r0
    have hr : r < ns.length := by omega
    refine ⟨_, rfl, _, _, .inl rfl, atI_map (f := D.str) (List.getElem?_eq_getElem hr), ?_⟩
    walk_at "dd"
    exact kN _ ⟨ys, _, hs, rfl⟩
  rintro δ ⟨ys, a, hs, rfl⟩
  with_reducible refine DR.cut (fun δ => ∃ (ys : List D) (b : Str), Sta ys ∧ δ = stH ys ns a b [none, none]) (fun N kN => ?_) ?_
  · walk_at "dd"
    refine draw hs (by rw [List.length_map]; omega) (by rw [List.length_map]; omega) fun r ys r0 r1 hs => ?_
    rw [List.length_map] at r1
    obtain ⟨r, rfl⟩ := Int.eq_ofNat_of_zero_le r0
    have hr : r < ns.length := by omega
    refine ⟨_, rfl, _, _, .inl rfl, atI_map (f := D.str) (List.getElem?_eq_getElem hr), ?_⟩
    walk_at "dd"
    exact kN _ ⟨ys, _, hs, rfl⟩
  rintro δ ⟨ys, b, hs, rfl⟩
  with_reducible refine DR.cut (fun δ => ∃ (ys : List D) (wy : Int), Sta ys ∧ 0 ≤ wy ∧ wy < 8 ∧ δ = stH ys ns a b [some (.d (.int wy)), none]) (fun N kN => ?_) ?_
  · walk_at "dd"
    refine draw hs (by decide) (by decide) fun r ys r0 r1 hs => ?_
    walk_at "dd"
    exact kN _ ⟨ys, r, hs, r0, r1, rfl⟩
  rintro δ ⟨ys, wy, hs, w0, w8, rfl⟩
  with_reducible refine DR.cut (fun δ => ∃ (ys : List D) (am : Int), Sta ys ∧ δ = stH ys ns a b [some (.d (.int wy)), some (.d (.int am))]) (fun N kN => ?_) ?_
  · walk_at "dd"
    refine ⟨ys, _, rfl, hs, (by decide), (by decide), fun r ys _ _ hs => ?_⟩
    walk_at "dd"
    exact kN _ ⟨ys, r, hs, rfl⟩
  rintro δ ⟨ys, am, hs, rfl⟩
  have cut0 : True := True.intro
  with_reducible refine DR.cut (fun δ => wy ≠ 0 ∧ δ = stH ys ns a b [some (.d (.int wy)), some (.d (.int am))]) (fun N kN => ?_) ?_
  · walk_at "dd"
    refine DR.split (fun c => ?_) (fun c => ?_)
    case refine_2 => walk_at "dd"; exact kN _ ⟨c, rfl⟩
    walk_at "dd"
    exact k (.ent b) _ True.intro hs
  rintro δ ⟨hw0, rfl⟩
  with_reducible refine DR.cut (fun δ => wy ≠ 1 ∧ δ = stH ys ns a b [some (.d (.int wy)), some (.d (.int am))]) (fun N kN => ?_) ?_
  · walk_at "dd"
    refine DR.split (fun c => ?_) (fun c => ?_)
    case refine_2 => walk_at "dd"; exact kN _ ⟨c, rfl⟩
    walk_at "dd"
    refine draw hs (by decide) (by decide) fun r ys r0 r1 hs => ?_
    walk_at "dd"
    obtain rfl | rfl : r = 0 ∨ r = 1 := by omega
    · exact ⟨_, _, _, rfl, rfl, rfl, by walk_at "dd"; exact k (.mrk a "look") _ True.intro hs⟩
    · exact ⟨_, _, _, rfl, rfl, rfl, by walk_at "dd"; exact k (.mrk a "notice") _ True.intro hs⟩
  rintro δ ⟨hw1, rfl⟩
  with_reducible refine DR.cut (fun δ => 4 ≤ wy ∧ δ = stH ys ns a b [some (.d (.int wy)), some (.d (.int am))]) (fun N kN => ?_) ?_
  · walk_at "dd"
    refine DR.split (fun c => ?_) (fun c => ?_)
    case refine_2 => walk_at "dd"; exact kN _ ⟨by omega, rfl⟩
    walk_at "dd"
    obtain rfl | rfl : wy = 2 ∨ wy = 3 := by omega
    · refine ⟨_, _, _, rfl, rfl, rfl, ?_⟩
      walk_at "dd"
      refine ⟨⟨by decide, by decide, by decide⟩, ?_⟩
      walk_at "dd"
      refine draw hs (by decide) (by decide) fun r ys r0 r1 hs => ?_
      walk_at "dd"
      try (refine ⟨Nat.le_trans (show 6 ≤ 20 by decide) (by decide), ?_⟩; walk_at "dd")
      have e6 : ((10 : Int) ^ Int.toNat 6) = 1000000 := by decide
      exact k (.trd true a b (1 + r) am) _ ⟨by omega, by omega⟩ hs
    · refine ⟨_, _, _, rfl, rfl, rfl, ?_⟩
      walk_at "dd"
      refine ⟨⟨by decide, by decide, by decide⟩, ?_⟩
      walk_at "dd"
      refine draw hs (by decide) (by decide) fun r ys r0 r1 hs => ?_
      walk_at "dd"
      try (refine ⟨Nat.le_trans (show 6 ≤ 20 by decide) (by decide), ?_⟩; walk_at "dd")
      have e6 : ((10 : Int) ^ Int.toNat 6) = 1000000 := by decide
      exact k (.trd false a b (1 + r) am) _ ⟨by omega, by omega⟩ hs
  rintro δ ⟨hw4, rfl⟩
  with_reducible refine DR.cut (fun δ => 6 ≤ wy ∧ δ = stH ys ns a b [some (.d (.int wy)), some (.d (.int am))]) (fun N kN => ?_) ?_
  · walk_at "dd"
    refine DR.split (fun c => ?_) (fun c => ?_)
    case refine_2 => walk_at "dd"; exact kN _ ⟨by omega, rfl⟩
    walk_at "dd"
    obtain rfl | rfl : wy = 4 ∨ wy = 5 := by omega
    · refine ⟨_, _, _, rfl, rfl, rfl, ?_⟩
      walk_at "dd"
      exact k (.io true a _) _ True.intro hs
    · refine ⟨_, _, _, rfl, rfl, rfl, ?_⟩
      walk_at "dd"
      exact k (.io false a _) _ True.intro hs
  rintro δ ⟨hw6, rfl⟩
  with_reducible refine DR.cut (fun δ => wy = 7 ∧ δ = stH ys ns a b [some (.d (.int wy)), some (.d (.int am))]) (fun N kN => ?_) ?_
  · walk_at "dd"
    refine DR.split (fun c => ?_) (fun c => ?_)
    case refine_2 => walk_at "dd"; exact kN _ ⟨by omega, rfl⟩
    walk_at "dd"
    refine ⟨⟨by decide, by decide, by decide⟩, ?_⟩
    walk_at "dd"
    refine ⟨ys, _, rfl, hs, (by decide), (by decide), fun r ys _ _ hs => ?_⟩
    walk_at "dd"
    exact k (.cls a am r) _ True.intro hs
  rintro δ ⟨hw7, rfl⟩
  walk_at "dd"
  exact k (.pay a _) _ True.intro hs
def sdChange : SpD := fun as Q _ => ∃ (hs : List Hap) (m : Str), as = [.d (.lst (hs.map hapT)), .d (.str m)] ∧ (∀ h ∈ hs, HapOk h) ∧ Q (.d (.int (hs.map (chg m)).sum)) []
abbrev s_law_change : Stmt := top 38
theorem sc_law_change : FnScope ["rows", "name", "change", "row"] ["rows", "name"] (defScope s_law_change) := ⟨rfl, rfl, rfl, by decide +kernel, rfl, by decide +kernel, by decide +kernel⟩
theorem ok_lchange {f : Addr} {fd : FuncData} (G : Fun K "_law_change" "_law_change" s_law_change f fd) (T : TxtN mg) : FnOk P w K mg base (L2.CX P w) 1 f fd ["rows", "name"] (spOf K sdChange) := by
  refine okD G sc_law_change [] (fun as Q E ⟨x, m, e, _⟩ => by subst e; exact ⟨rfl, rfl⟩) ⟨_, fun cdv A outer s H E ad F0 H0 hr => (pds_cons (psd_set (i := 2) (pd_const pe_int (fun _ => .int _)) (by show ¬ (2 ∈ ([] : List Nat)); decide) sc_law_change.nd rfl (.inl rfl))
      (pds_cons (psd_for (passes_of rfl) rfl (pid_list (pd_var (pv 0))) (pgd_name (i := 3) (vs := [3]) (pg_name (i := 3) sc_law_change.nd rfl (.inl rfl)) (by show ¬ (3 ∈ ([] : List Nat)); decide) (by decide))
      (pds_one (psd_if (ptd_cmp op_in_seq (op2_in false).op (pd_ix ix_tup op2_ixT (pd_var (pv 3)) (pd_const pe_int (fun _ => .int _)) (fun _ _ => rfl)) (pd_tup (fun h => pe_tup h) (pda_cons (pd_const pe_str (fun _ => .str (by decide +kernel))) (pda_cons (pd_const pe_str (fun _ => .str (by decide +kernel))) pda_nil))) rfl) (pds_one (psd_set (i := 2) (pd_op op_add (op2_I0 fun _ _ _ => .int _) (pd_var (pv 2)) (pd_op op_mul (op2_I fun _ _ _ => .int _) (pd_op op_mul (op2_I fun _ _ _ => .int _) (pd_ix ix_tup op2_ixT (pd_var (pv 3)) (pd_const pe_int (fun _ => .int _)) (fun _ _ => rfl)) (pd_ix ix_tup op2_ixT (pd_var (pv 3)) (pd_const pe_int (fun _ => .int _)) (fun _ _ => rfl))) (pd_op op_sub (op2_I0 fun _ _ _ => .int _) (pd_builtB (fun h => pe_callTy call_int1 (by rfl) T.b_int (by decide +kernel) h) cn_intB.op (pda_cons (pd_cmp op_eq op2_eq.op (pd_ix ix_tup op2_ixT (pd_var (pv 3)) (pd_const pe_int (fun _ => .int _)) (fun _ _ => rfl)) (pd_var (pv 1)) (nomark _)) pda_nil)) (pd_builtB (fun h => pe_callTy call_int1 (by rfl) T.b_int (by decide +kernel) h) cn_intB.op (pda_cons (pd_cmp op_eq op2_eq.op (pd_ix ix_tup op2_ixT (pd_var (pv 3)) (pd_const pe_int (fun _ => .int _)) (fun _ _ => rfl)) (pd_var (pv 1)) (nomark _)) pda_nil))))) (by show ¬ (2 ∈ ([] : List Nat)); decide) sc_law_change.nd rfl (.inl rfl))) (pds_one (psd_if (PW.pt (pwd_and (ptd_cmp op_eq op2_eq.op (pd_ix ix_tup op2_ixT (pd_var (pv 3)) (pd_const pe_int (fun _ => .int _)) (fun _ _ => rfl)) (pd_var (pv 1)) (nomark _)) (pwd_and1 (ptd_cmp op_in_seq (op2_in false).op (pd_ix ix_tup op2_ixT (pd_var (pv 3)) (pd_const pe_int (fun _ => .int _)) (fun _ _ => rfl)) (pd_tup (fun h => pe_tup h) (pda_cons (pd_const pe_str (fun _ => .str (by decide +kernel))) (pda_cons (pd_const pe_str (fun _ => .str (by decide +kernel))) (pda_cons (pd_const pe_str (fun _ => .str (by decide +kernel))) pda_nil)))) rfl)))) (pds_one (psd_set (i := 2) (pd_op op_add (op2_I0 fun _ _ _ => .int _) (pd_var (pv 2)) (pd_ix ix_tup op2_ixT (pd_var (pv 3)) (pd_const pe_int (fun _ => .int _)) (fun _ _ => rfl))) (by show ¬ (2 ∈ ([] : List Nat)); decide) sc_law_change.nd rfl (.inl rfl))) (pds_one (psd_if (PW.pt (pwd_and (ptd_cmp op_eq op2_eq.op (pd_ix ix_tup op2_ixT (pd_var (pv 3)) (pd_const pe_int (fun _ => .int _)) (fun _ _ => rfl)) (pd_var (pv 1)) (nomark _)) (pwd_and1 (ptd_cmp op_eq op2_eq.op (pd_ix ix_tup op2_ixT (pd_var (pv 3)) (pd_const pe_int (fun _ => .int _)) (fun _ _ => rfl)) (pd_const pe_str (fun _ => .str (by decide +kernel))) (nomark _))))) (pds_one (psd_set (i := 2) (pd_op op_sub (op2_I0 fun _ _ _ => .int _) (pd_var (pv 2)) (pd_ix ix_tup op2_ixT (pd_var (pv 3)) (pd_const pe_int (fun _ => .int _)) (fun _ _ => rfl))) (by show ¬ (2 ∈ ([] : List Nat)); decide) sc_law_change.nd rfl (.inl rfl))) pds_nil)))))))
      (pds_one (psd_ret (pd_var (pv 2)))))), ?_⟩
  rintro as Qd Ed ⟨hs, m, rfl, ho, k⟩
  refine DR.start (δ' := [some (.d (.lst (hs.map hapT))), some (.d (.str m)), none, none]) rfl ?_
  with_reducible refine DR.cut (fun δ => δ = [some (.d (.lst (hs.map hapT))), some (.d (.str m)), some (.d (.int 0)), none]) (fun N kN => ?_) ?_
  · walk_at "dd"
    exact kN _ rfl
  rintro δ rfl
  with_reducible refine DR.cut (fun δ => ∃ q3 : Option DV, δ = [some (.d (.lst (hs.map hapT))), some (.d (.str m)), some (.d (.int (hs.map (chg m)).sum)), q3]) (fun N kN => ?_) ?_
  · walk_at "dd"
    refine DR.for_inv (fun i δ => ∃ q3 : Option DV, δ = [some (.d (.lst (hs.map hapT))), some (.d (.str m)), some (.d (.int ((hs.take i).map (chg m)).sum)), q3]) ⟨_, rfl⟩ ?_ ?_
    · rintro i x δ N2 hx ⟨q3, rfl⟩ kN2
      obtain ⟨h, hh, rfl⟩ := DR.map_at hx
      have hok := ho h (List.mem_of_getElem? hh)
      have nx : ∀ v : Int, v = chg m h → N2 [some (.d (.lst (hs.map hapT))), some (.d (.str m)), some (.d (.int (((hs.take i).map (chg m)).sum + v))), some (.d (hapT h))] := fun v e => by
        subst e
        refine kN2 _ ⟨some (.d (hapT h)), ?_⟩
        rw [List.take_succ, hh, List.map_append, List.sum_append]
        simp
      generalize ((hs.take i).map (chg m)).sum = t at nx
      have n0 : chg m h = 0 → N2 [some (.d (.lst (hs.map hapT))), some (.d (.str m)), some (.d (.int t)), some (.d (hapT h))] := fun e => by
        have := nx 0 e.symm
        rwa [Int.add_zero] at this
      cases h with
      | ent o =>
        dsimp only [hapT, hapL] at nx n0 ⊢
        walk_at "dd"
        refine itF (by decide +kernel) ?_
        walk_at "dd"
        refine DR.split (fun c1 => ?_) (fun c1 => ?_)
        · walk_at "dd"
          refine itF (by decide +kernel) ?_
          walk_at "dd"
          refine DR.split (fun c2 => ?_) (fun c2 => absurd c1 c2)
          walk_at "dd"
          refine itF (by decide +kernel) ?_
          walk_at "dd"
          exact n0 rfl
        · walk_at "dd"
          refine DR.split (fun c2 => absurd c2 c1) (fun c2 => ?_)
          walk_at "dd"
          exact n0 (rfl)
      | mrk o z =>
        dsimp only [hapT, hapL] at nx n0 ⊢
        walk_at "dd"
        refine itF (by decide +kernel) ?_
        walk_at "dd"
        refine DR.split (fun c1 => ?_) (fun c1 => ?_)
        · walk_at "dd"
          refine itF (by decide +kernel) ?_
          walk_at "dd"
          refine DR.split (fun c2 => ?_) (fun c2 => absurd c1 c2)
          walk_at "dd"
          refine itF (by decide +kernel) ?_
          walk_at "dd"
          exact n0 rfl
        · walk_at "dd"
          refine DR.split (fun c2 => absurd c2 c1) (fun c2 => ?_)
          walk_at "dd"
          exact n0 (rfl)
      | trd b p q n x =>
        dsimp only [hapT, hapL] at nx n0 ⊢
        walk_at "dd"
        refine itT (by cases b <;> decide +kernel) ?_
        obtain ⟨n1, n2⟩ := hok
        walk_at "dd"
        refine nx _ ?_
        show _ = (if q = m then n * x else 0) - (if p = m then n * x else 0)
        have e1 : ∀ s t : Str, (if (if false = true then !decide (V.str s = V.str t) else decide (V.str s = V.str t)) = true then (1 : Int) else 0) = if s = t then 1 else 0 := fun s t => by
          by_cases c : s = t
          · rw [if_pos c, c]; simp
          · rw [if_neg c, if_neg]; simp [c]
        rw [e1, e1]
        by_cases c1 : q = m <;> by_cases c2 : p = m
        · rw [if_pos c1, if_pos c2, if_pos c1, if_pos c2]; omega
        · rw [if_pos c1, if_neg c2, if_pos c1, if_neg c2]; omega
        · rw [if_neg c1, if_pos c2, if_neg c1, if_pos c2]; omega
        · rw [if_neg c1, if_neg c2, if_neg c1, if_neg c2]; omega
      | io b o a =>
        cases b with
        | true =>
          dsimp only [hapT, hapL] at nx n0 ⊢
          walk_at "dd"
          refine itF (by decide +kernel) ?_
          walk_at "dd"
          refine DR.split (fun c1 => ?_) (fun c1 => ?_)
          · walk_at "dd"
            refine itT (by decide +kernel) ?_
            walk_at "dd"
            exact nx _ (by show _ = (if o = m then a else 0); rw [if_pos c1])
          · walk_at "dd"
            refine DR.split (fun c2 => absurd c2 c1) (fun c2 => ?_)
            walk_at "dd"
            exact n0 (by show (if o = m then a else 0) = 0; rw [if_neg c1])
        | false =>
          dsimp only [hapT, hapL] at nx n0 ⊢
          walk_at "dd"
          refine itF (by decide +kernel) ?_
          walk_at "dd"
          refine DR.split (fun c1 => ?_) (fun c1 => ?_)
          · walk_at "dd"
            refine itF (by decide +kernel) ?_
            walk_at "dd"
            refine DR.split (fun c2 => ?_) (fun c2 => absurd c1 c2)
            walk_at "dd"
            refine itT (by decide +kernel) ?_
            walk_at "dd"
            exact nx (-a) (by show _ = (if o = m then -a else 0); rw [if_pos c1])
          · walk_at "dd"
            refine DR.split (fun c2 => absurd c2 c1) (fun c2 => ?_)
            walk_at "dd"
            exact n0 (by show (if o = m then -a else 0) = 0; rw [if_neg c1])
      | cls o a n =>
        dsimp only [hapT, hapL] at nx n0 ⊢
        walk_at "dd"
        refine itF (by decide +kernel) ?_
        walk_at "dd"
        refine DR.split (fun c1 => ?_) (fun c1 => ?_)
        · walk_at "dd"
          refine itT (by decide +kernel) ?_
          walk_at "dd"
          exact nx _ (by show _ = (if o = m then a else 0); rw [if_pos c1])
        · walk_at "dd"
          refine DR.split (fun c2 => absurd c2 c1) (fun c2 => ?_)
          walk_at "dd"
          exact n0 (by show (if o = m then a else 0) = 0; rw [if_neg c1])
      | pay o a =>
        dsimp only [hapT, hapL] at nx n0 ⊢
        walk_at "dd"
        refine itF (by decide +kernel) ?_
        walk_at "dd"
        refine DR.split (fun c1 => ?_) (fun c1 => ?_)
        · walk_at "dd"
          refine itT (by decide +kernel) ?_
          walk_at "dd"
          exact nx _ (by show _ = (if o = m then a else 0); rw [if_pos c1])
        · walk_at "dd"
          refine DR.split (fun c2 => absurd c2 c1) (fun c2 => ?_)
          walk_at "dd"
          exact n0 (by show (if o = m then a else 0) = 0; rw [if_neg c1])
    · rintro δ ⟨q3, rfl⟩
      rw [List.length_map, List.take_length]
      exact kN _ ⟨q3, rfl⟩
  rintro δ ⟨q3, rfl⟩
  walk_at "dd"
  exact k
end
end KT

set_option Elab.async false
set_option linter.all false
set_option maxRecDepth 100000
set_option maxHeartbeats 0
set_option pp.deepTerms false
set_option pp.deepTerms.threshold 8


namespace KT
open PySem PySem.Spec PyProof.Rows L2 DL
/-! ### closings held -/
structure TxtE (K : PySem.W.Frag) (mg : Str → Option Value) (C BR OG CL DB : Addr) : Prop extends TxtD K mg C BR OG CL DB where
  b_ValueError : mg "ValueError" = none
  exm_R : PySem.W.exmOne K (.ref BR) (.ref BR) = some true
  ec_R : ExcC K BR
  kv_R : PySem.W.kitOne K (.ref BR) (.type "ValueError") = some true
  nf_C : PySem.W.notFirst K C (.ref C) = true
  nf_CL : PySem.W.notFirst K CL (.ref CL) = true
  nf_tup : PySem.W.notFirst K CL (.type "tuple") = true
theorem dp_four {a b c d : Int} : Dp_ 2 (.tup [.int a, .int b, .int c, .int d]) := dp_ints [a, b, c, d]
theorem cut_mem {xs : List D} {lo hi : Option Int} {d : D} (h : d ∈ DL.cutD xs lo hi) : d ∈ xs := List.mem_of_mem_drop (List.mem_of_mem_take h)
theorem cut_len {xs : List D} {lo hi : Option Int} : (DL.cutD xs lo hi).length ≤ xs.length := by
  unfold DL.cutD
  rw [List.length_take, List.length_drop]
  omega
theorem ca_lst {xs : List D} (hl : xs.length ≤ 1000) (h : ∀ d ∈ xs, ∃ n, Pl d n) : CA (.lst xs) := ⟨⟨_, .lst _⟩, h, hl⟩
theorem pl_ints {ks : List Int} : ∀ d ∈ ks.map D.int, ∃ n, Pl d n := fun d hd => by
  obtain ⟨k, _, rfl⟩ := List.mem_map.mp hd
  exact ⟨_, .int _⟩
theorem odd_1 {gs : List Str} {ks : List Int} (hkl : ks.length = gs.length) (h5 : ks.length ≤ 5) : CA (.lst (ks.map D.int ++ [D.int 1])) := ca_lst (by rw [List.length_append, List.length_map, List.length_singleton]; omega) fun d hd => by
  rcases List.mem_append.mp hd with hd | hd
  · exact pl_ints d hd
  · exact ⟨"int", by rw [List.mem_singleton.mp hd]; exact Pl.int _⟩
theorem odd_2 {gs : List Str} {ks : List Int} (hkl : ks.length = gs.length) : isN gs.length (.lst (ks.map D.int ++ [D.int 1])) = false := by
  show ((true && decide ((ks.map D.int ++ [D.int 1]).length = gs.length)) && _) = false
  rw [decide_eq_false (by rw [List.length_append, List.length_map, List.length_singleton]; omega)]
  rfl
theorem odd_3 {ks : List Int} (h5 : ks.length ≤ 5) : CA (.lst (DL.cutD (ks.map D.int) (some 1) none)) := ca_lst (Nat.le_trans cut_len (by rw [List.length_map]; omega)) fun d hd => pl_ints d (cut_mem hd)
theorem odd_4 {gs : List Str} {ks : List Int} (hkl : ks.length = gs.length) (h1 : 1 ≤ ks.length) : isN gs.length (.lst (DL.cutD (ks.map D.int) (some 1) none)) = false := by
  show ((true && decide ((DL.cutD (ks.map D.int) (some ((1 : Nat) : Int)) none).length = gs.length)) && _) = false
  rw [decide_eq_false]
  · rfl
  · unfold DL.cutD
    rw [HT.sIx_nat, HT.sIx_none, List.length_take, List.length_drop, List.length_map]
    omega
theorem odd_5 : CA .non := ⟨⟨_, .non⟩, (fun d hd => nomatch hd), Nat.zero_le _⟩
theorem odd_8 : CA (.str "a") := ⟨⟨_, .str _⟩, (fun d hd => nomatch hd), Nat.zero_le _⟩
theorem odd_6 {ks : List Int} {v : D} {n : String} (hv : Pl v n) (h5 : ks.length ≤ 5) : CA (.lst (DL.cutD (ks.map D.int) none (some (-1)) ++ [v])) := ca_lst (by have := @cut_len (ks.map D.int) none (some (-1)); rw [List.length_map] at this; rw [List.length_append, List.length_singleton]; omega) fun d hd => by
  rcases List.mem_append.mp hd with hd | hd
  · exact pl_ints d (cut_mem hd)
  · exact ⟨_, by rw [List.mem_singleton.mp hd]; exact hv⟩
theorem odd_7 {m : Nat} {xs : List D} {v : D} (hv : isI v = false) : isN m (.lst (xs ++ [v])) = false := by
  show (_ && (xs ++ [v]).all isI) = false
  rw [List.all_append, List.all_cons, hv]
  simp
section
variable {P : Program} {w : World} {K : PySem.W.Frag} {mg : Str → Option Value} {base : Heap} {C OG BG BP BR CL DB : Addr}
def sdRefused (C : Addr) : SpD := fun as Q _ => ∃ (gs : List Str) (js : List Int) (y : D), as = [.d (posD C gs js), .d y] ∧ Po gs js ∧ CA y ∧ isN gs.length y = false ∧ Q (.d (.bl true)) []
abbrev s_law_refused : Stmt := top 35
theorem sc_law_refused : FnScope ["position", "prices", "e"] ["position", "prices"] (defScope s_law_refused) := ⟨rfl, rfl, rfl, by decide +kernel, rfl, by decide +kernel, by decide +kernel⟩
theorem ok_lrefused (D_close_out : DefD P w K mg base "close_out" 9 ["cash", "position", "prices"] (sdClose CL C BR)) {f : Addr} {fd : FuncData} (G : Fun K "_law_refused" "_law_refused" s_law_refused f fd) (T : TxtE K mg C BR OG CL DB) : FnOk P w K mg base (L2.CX P w) 11 f fd ["position", "prices"] (spOf K (sdRefused C)) := by
  refine okD G sc_law_refused [] (fun as Q E ⟨x, m, y, e, _⟩ => by subst e; exact ⟨rfl, rfl⟩) ⟨_, fun cdv A outer s H E ad F0 H0 hr => (pds_cons (psd_tryA K rfl (i := 2) (by show ¬ (2 ∈ ([] : List Nat)); decide) rfl rfl sc_law_refused.nd rfl rfl ⟨by rfl, by decide +kernel, .inl T.c_BadPrices⟩ (takes_of rfl rfl rfl rfl) (fun W pn xe tk po => (pds_one (psd_expr (pd_call D_close_out.ok (hr.mono (by decide)) (by rfl) D_close_out.mg D_close_out.kp D_close_out.b tk (pda_cons (pd_const pe_int (fun _ => .int _)) (pda_cons (pd_var (pv 0)) (pda_cons (pd_var (pv 1)) pda_nil))))))) (fun a oe cls d pn hz hf => (pds_one (psd_ret (pd_builtB (fun h => pe_callB (call_isXc hz hf) (by rfl) T.b_isinstance (by decide +kernel) h) (cn_isXcT (K := K)).op (pda_cons (pd_var (pv 2)) (pda_cons (pd_const (pe_bltn (v := .ty "ValueError") (by rfl) T.b_ValueError (by decide +kernel) rfl) (fun _ => .ty _)) pda_nil)))))))
      (pds_one (psd_ret (pd_const pe_bl (fun _ => .bl _))))), ?_⟩
  rintro as Qd Ed ⟨gs, js, y, rfl, hp, hy, hn, k⟩
  refine DR.start (δ' := [some (.d (posD C gs js)), some (.d y), none]) rfl ?_
  walk_at "dd"
  refine DR.trya ?_
  walk_at "dd"
  refine ⟨gs, js, y, 5, rfl, hp, hy, .inr ⟨hn, true, T.exm_R, fun _ a dd _ => ?_, fun e => nomatch e⟩⟩
  walk_at "dd"
  refine ⟨_, _, _, _, rfl, rfl, T.ec_R, T.kv_R, ?_⟩
  walk_at "dd"
  exact k
def sdClosing : SpD := fun as Q _ => ∃ (ys : List D) (gs : List Str), as = [.own (.lst ys), .d (.lst (gs.map .str))] ∧ Sta ys ∧ Goods gs ∧ ∀ ys, Sta ys → Q (.d (.bl true)) [.lst ys]
abbrev s_law_closing : Stmt := top 36
theorem sc_law_closing : FnScope ["state", "goods", "counts", "prices", "worth", "cash", "position", "told", "before", "paid", "odd", "good", "count", "price"] ["state", "goods"] (defScope s_law_closing) := ⟨rfl, rfl, rfl, by decide +kernel, rfl, by decide +kernel, by decide +kernel⟩
theorem ok_lclosing (D_law_draw : DefD P w K mg base "_law_draw" 1 ["state", "many"] sdDraw) (D_law_number : DefD P w K mg base "_law_number" 3 ["state", "great"] sdNumber) (D_law_whole : DefD P w K mg base "_law_whole" 1 ["thing"] sdWholeL) (D_law_refused : DefD P w K mg base "_law_refused" 11 ["position", "prices"] (sdRefused C)) (D_close_out : DefD P w K mg base "close_out" 9 ["cash", "position", "prices"] (sdClose CL C BR)) (K_Position : DefK P w K mg base C 7 3 ["self", "goods", "counts"] [] [] (sdPInit C BG BP)) (K_Closing : DefK P w K mg base CL 1 5 ["self", "worth", "before", "paid", "cash"] [] [] (sdCInit CL)) (D_Position___eq : DefE P w K mg base C 1 ["self", "other"] (sdPEq C)) (D_Closing___eq : DefE P w K mg base CL 1 ["self", "other"] (sdCEq CL)) {f : Addr} {fd : FuncData} (G : Fun K "_law_closing" "_law_closing" s_law_closing f fd) (T : TxtE K mg C BR OG CL DB) : FnOk P w K mg base (L2.CX P w) 13 f fd ["state", "goods"] (spOf K sdClosing) := by
  refine okD G sc_law_closing [0] (fun as Q E ⟨x, m, e, _⟩ => by subst e; exact ⟨rfl, rfl⟩) ⟨_, fun cdv A outer s H E ad F0 H0 hr => (pds_cons (psd_setLc (i := 2) (o := false) (own := [("good", 11)]) (by show ¬ (2 ∈ ([0] : List Nat)); decide) (by rfl) sc_law_closing.nd rfl rfl (sw_true rfl rfl rfl (by decide +kernel)) (pid_list (pd_var (pv 1))) (blkOk_by (own := [("good", 11)]) (N := ["state", "goods", "counts", "prices", "worth", "cash", "position", "told", "before", "paid", "odd", "good", "count", "price"]) (sc := defScope s_law_closing) (by decide +kernel)) (fun _ _ _ _ _ => (pgd_name (i := 11) (vs := [11]) (pg_name (i := 11) sc_law_closing.nd rfl (.inl rfl)) (by show ¬ (11 ∈ ([0] : List Nat)); decide) (by decide))) (fun _ _ _ _ _ => ptsd_nil) (fun _ _ _ _ _ => (pd_call D_law_number.ok (hr.mono (by decide)) (by rfl) D_law_number.mg D_law_number.kp D_law_number.b takes0 (pda_own (i := 0) (pv 0) (pda_cons (pd_op op_pow (op2_I fun _ _ _ => .int _) (pd_const pe_int (fun _ => .int _)) (pd_const pe_int (fun _ => .int _))) pda_nil)))) (by show ∀ i ∈ ([11] : List Nat), ¬ (i ∈ ([0] : List Nat)); decide))
      (pds_cons (psd_setLc (i := 3) (o := false) (own := [("good", 11)]) (by show ¬ (3 ∈ ([0] : List Nat)); decide) (by rfl) sc_law_closing.nd rfl rfl (sw_true rfl rfl rfl (by decide +kernel)) (pid_list (pd_var (pv 1))) (blkOk_by (own := [("good", 11)]) (N := ["state", "goods", "counts", "prices", "worth", "cash", "position", "told", "before", "paid", "odd", "good", "count", "price"]) (sc := defScope s_law_closing) (by decide +kernel)) (fun _ _ _ _ _ => (pgd_name (i := 11) (vs := [11]) (pg_name (i := 11) sc_law_closing.nd rfl (.inl rfl)) (by show ¬ (11 ∈ ([0] : List Nat)); decide) (by decide))) (fun _ _ _ _ _ => ptsd_nil) (fun _ _ _ _ _ => (pd_call D_law_number.ok (hr.mono (by decide)) (by rfl) D_law_number.mg D_law_number.kp D_law_number.b takes0 (pda_own (i := 0) (pv 0) (pda_cons (pd_op op_pow (op2_I fun _ _ _ => .int _) (pd_const pe_int (fun _ => .int _)) (pd_const pe_int (fun _ => .int _))) pda_nil)))) (by show ∀ i ∈ ([11] : List Nat), ¬ (i ∈ ([0] : List Nat)); decide))
      (pds_cons (psd_set (i := 4) (pd_builtB (fun h => pe_callB (cr_sum rfl) (by rfl) T.b_sum (by decide +kernel) h) cn_sum.op (pda_cons (pd_lc (own := [("count", 12), ("price", 13)]) (by rfl) sc_law_closing.nd (pid_zip (by rfl) T.b_zip (pda_cons (pd_var (pv 2)) (pda_cons (pd_var (pv 3)) pda_nil))) (blkOk_by (own := [("count", 12), ("price", 13)]) (N := ["state", "goods", "counts", "prices", "worth", "cash", "position", "told", "before", "paid", "odd", "good", "count", "price"]) (sc := defScope s_law_closing) (by decide +kernel)) (fun _ _ _ _ _ => (pgd_tup (is := [12, 13]) (vs := [12, 13]) (pg_tup rfl (pgs_cons (pg_name (i := 12) sc_law_closing.nd rfl (.inl rfl)) (pgs_cons (pg_name (i := 13) sc_law_closing.nd rfl (.inl rfl)) pgs_nil))) rfl (by show ∀ i ∈ ([12, 13] : List Nat), ¬ (i ∈ ([0] : List Nat)) ∧ i ∈ ([12, 13] : List Nat); decide))) (fun _ _ _ _ _ => ptsd_nil) (fun _ _ _ _ _ => (pd_op op_mul (op2_I fun _ _ _ => .int _) (pd_var (pv 12)) (pd_var (pv 13)))) (by show ∀ i ∈ ([12, 13] : List Nat), ¬ (i ∈ ([0] : List Nat)); decide)) pda_nil)) (by show ¬ (4 ∈ ([0] : List Nat)); decide) sc_law_closing.nd rfl (.inl rfl))
      (pds_cons (psd_set (i := 5) (pd_call D_law_number.ok (hr.mono (by decide)) (by rfl) D_law_number.mg D_law_number.kp D_law_number.b (takes_of rfl rfl rfl rfl) (pda_own (i := 0) (pv 0) (pda_cons (pd_op op_pow (op2_I fun _ _ _ => .int _) (pd_const pe_int (fun _ => .int _)) (pd_const pe_int (fun _ => .int _))) pda_nil))) (by show ¬ (5 ∈ ([0] : List Nat)); decide) sc_law_closing.nd rfl (.inl rfl))
      (pds_cons (psd_if (ptd_cmp op_eq op2_eq.op (pd_call D_law_draw.ok (hr.mono (by decide)) (by rfl) D_law_draw.mg D_law_draw.kp D_law_draw.b (takes_of rfl rfl rfl rfl) (pda_own (i := 0) (pv 0) (pda_cons (pd_const pe_int (fun _ => .int _)) pda_nil))) (pd_const pe_int (fun _ => .int _)) (nomark _)) (pds_one (psd_set (i := 5) (pd_op op_sub (op2_I0 fun _ _ _ => .int _) (pd_op op_sub (op2_I0 fun _ _ _ => .int _) (pd_call D_law_draw.ok (hr.mono (by decide)) (by rfl) D_law_draw.mg D_law_draw.kp D_law_draw.b (takes_of rfl rfl rfl rfl) (pda_own (i := 0) (pv 0) (pda_cons (pd_const pe_int (fun _ => .int _)) pda_nil))) (pd_const pe_int (fun _ => .int _))) (pd_var (pv 4))) (by show ¬ (5 ∈ ([0] : List Nat)); decide) sc_law_closing.nd rfl (.inl rfl))) pds_nil)
      (pds_cons (psd_set (i := 6) (pd_newK (n := 2) K_Position.mkc K_Position.ok (hr.mono (by decide)) (by rfl) T.c_Position K_Position.kb0 (fun _ => .nil) (fun _ _ _ => rfl) (takes_of rfl rfl rfl rfl) (pda_cons (pd_var (pv 1)) (pda_cons (pd_var (pv 2)) pda_nil)) pkd_nil) (by show ¬ (6 ∈ ([0] : List Nat)); decide) sc_law_closing.nd rfl (.inl rfl))
      (pds_cons (psd_set (i := 7) (pd_call D_close_out.ok (hr.mono (by decide)) (by rfl) D_close_out.mg D_close_out.kp D_close_out.b (takes_of rfl rfl rfl rfl) (pda_cons (pd_var (pv 5)) (pda_cons (pd_var (pv 6)) (pda_cons (pd_ifExp (ptd_cmp op_eq op2_eq.op (pd_call D_law_draw.ok (hr.mono (by decide)) (by rfl) D_law_draw.mg D_law_draw.kp D_law_draw.b (takes_of rfl rfl rfl rfl) (pda_own (i := 0) (pv 0) (pda_cons (pd_const pe_int (fun _ => .int _)) pda_nil))) (pd_const pe_int (fun _ => .int _)) (nomark _)) (pd_var (pv 3)) (pd_builtB (fun h => pe_callTy call_tuple_of (by rfl) T.b_tuple (by decide +kernel) h) cn_tuple (pda_cons (pd_var (pv 3)) pda_nil))) pda_nil)))) (by show ¬ (7 ∈ ([0] : List Nat)); decide) sc_law_closing.nd rfl (.inl rfl))
      (pds_cons (psd_set (i := 8) (pd_op op_add (op2_I0 fun _ _ _ => .int _) (pd_var (pv 5)) (pd_var (pv 4))) (by show ¬ (8 ∈ ([0] : List Nat)); decide) sc_law_closing.nd rfl (.inl rfl))
      (pds_cons (psd_set (i := 9) (pd_builtB (fun h => pe_callB (call_max2 rfl) (by rfl) T.b_max (by decide +kernel) h) cn_two.op (pda_cons (pd_const pe_int (fun _ => .int _)) (pda_cons (pd_op op_sub (op2_I0 fun _ _ _ => .int _) (pd_const pe_int (fun _ => .int _)) (pd_var (pv 8))) pda_nil))) (by show ¬ (9 ∈ ([0] : List Nat)); decide) sc_law_closing.nd rfl (.inl rfl))
      (pds_cons (psd_if (PW.pt (pwd_or (ptd_not (ptd_val (pd_builtB (fun h => pe_callB call_isi (by rfl) T.b_isinstance (by decide +kernel) h) (cn_isi (K := K)).op (pda_cons (pd_var (pv 7)) (pda_cons (pd_const (pe_glob (v := .ref CL) rfl T.c_Closing rfl) (fun _ => .adr _)) pda_nil))) (fun h => pt_val h))) (pwd_or1 (ptd_cmp (op_neD hr.units) op2_neD.op (pd_tup (fun h => pe_tup h) (pda_cons (pd_fld (pd_var (pv 7)) T.cl_Closing (T.na_Closing _ (by decide)) rfl) (pda_cons (pd_fld (pd_var (pv 7)) T.cl_Closing (T.na_Closing _ (by decide)) rfl) (pda_cons (pd_fld (pd_var (pv 7)) T.cl_Closing (T.na_Closing _ (by decide)) rfl) (pda_cons (pd_fld (pd_var (pv 7)) T.cl_Closing (T.na_Closing _ (by decide)) rfl) pda_nil))))) (pd_tup (fun h => pe_tup h) (pda_cons (pd_var (pv 4)) (pda_cons (pd_var (pv 8)) (pda_cons (pd_var (pv 9)) (pda_cons (pd_builtB (fun h => pe_callB (call_max2 rfl) (by rfl) T.b_max (by decide +kernel) h) cn_two.op (pda_cons (pd_const pe_int (fun _ => .int _)) (pda_cons (pd_var (pv 8)) pda_nil))) pda_nil))))) (nomark _))))) (pds_one (psd_ret (pd_const pe_bl (fun _ => .bl _)))) pds_nil)
      (pds_cons (psd_if (PW.pt (pwd_or (ptd_not (PW.pt (pwd_and (ptd_val (pd_call D_law_whole.ok (hr.mono (by decide)) (by rfl) D_law_whole.mg D_law_whole.kp D_law_whole.b (takes_of rfl rfl rfl rfl) (pda_cons (pd_fld (pd_var (pv 7)) T.cl_Closing (T.na_Closing _ (by decide)) rfl) pda_nil)) (fun h => pt_val h)) (pwd_and1 (ptd_val (pd_call D_law_whole.ok (hr.mono (by decide)) (by rfl) D_law_whole.mg D_law_whole.kp D_law_whole.b (takes_of rfl rfl rfl rfl) (pda_cons (pd_fld (pd_var (pv 7)) T.cl_Closing (T.na_Closing _ (by decide)) rfl) pda_nil)) (fun h => pt_val h)))))) (pwd_or1 (ptd_cmp (op_neC D_Position___eq.ne D_Position___eq.ok (hr.mono (by decide)) D_Position___eq.b) (op2_neC (K := K)) (pd_var (pv 6)) (pd_newK (n := 2) K_Position.mkc K_Position.ok (hr.mono (by decide)) (by rfl) T.c_Position K_Position.kb0 (fun _ => .nil) (fun _ _ _ => rfl) (takes_of rfl rfl rfl rfl) (pda_cons (pd_var (pv 1)) (pda_cons (pd_var (pv 2)) pda_nil)) pkd_nil) (nomark _))))) (pds_one (psd_ret (pd_const pe_bl (fun _ => .bl _)))) pds_nil)
      (pds_cons (psd_if (PW.pt (pwd_or (ptd_cmp (op_neC D_Closing___eq.ne D_Closing___eq.ok (hr.mono (by decide)) D_Closing___eq.b) (op2_neC (K := K)) (pd_var (pv 7)) (pd_newK (n := 4) K_Closing.mkc K_Closing.ok (hr.mono (by decide)) (by rfl) T.c_Closing K_Closing.kb0 (fun _ => .nil) (fun _ _ _ => rfl) (takes_of rfl rfl rfl rfl) (pda_cons (pd_var (pv 4)) (pda_cons (pd_var (pv 8)) (pda_cons (pd_var (pv 9)) (pda_cons (pd_op op_add (op2_I0 fun _ _ _ => .int _) (pd_var (pv 8)) (pd_var (pv 9))) pda_nil)))) pkd_nil) (nomark _)) (pwd_or1 (ptd_cmp (op_eqC D_Closing___eq.at_ D_Closing___eq.fn D_Closing___eq.ok (hr.mono (by decide)) D_Closing___eq.b) (op2_eqC (K := K)) (pd_var (pv 7)) (pd_newK (n := 4) K_Closing.mkc K_Closing.ok (hr.mono (by decide)) (by rfl) T.c_Closing K_Closing.kb0 (fun _ => .nil) (fun _ _ _ => rfl) (takes_of rfl rfl rfl rfl) (pda_cons (pd_var (pv 4)) (pda_cons (pd_var (pv 8)) (pda_cons (pd_op op_add (op2_I0 fun _ _ _ => .int _) (pd_var (pv 9)) (pd_const pe_int (fun _ => .int _))) (pda_cons (pd_op op_add (op2_I0 fun _ _ _ => .int _) (pd_var (pv 8)) (pd_var (pv 9))) pda_nil)))) pkd_nil) (nomark _))))) (pds_one (psd_ret (pd_const pe_bl (fun _ => .bl _)))) pds_nil)
      (pds_cons (psd_if (PW.pt (pwd_or (ptd_cmp (op_eqC D_Closing___eq.at_ D_Closing___eq.fn D_Closing___eq.ok (hr.mono (by decide)) D_Closing___eq.b) (op2_eqC (K := K)) (pd_var (pv 7)) (pd_newK (n := 4) K_Closing.mkc K_Closing.ok (hr.mono (by decide)) (by rfl) T.c_Closing K_Closing.kb0 (fun _ => .nil) (fun _ _ _ => rfl) (takes_of rfl rfl rfl rfl) (pda_cons (pd_op op_add (op2_I0 fun _ _ _ => .int _) (pd_var (pv 4)) (pd_const pe_int (fun _ => .int _))) (pda_cons (pd_var (pv 8)) (pda_cons (pd_var (pv 9)) (pda_cons (pd_fld (pd_var (pv 7)) T.cl_Closing (T.na_Closing _ (by decide)) rfl) pda_nil)))) pkd_nil) (nomark _)) (pwd_or1 (ptd_cmp (op_eqC D_Closing___eq.at_ D_Closing___eq.fn D_Closing___eq.ok (hr.mono (by decide)) D_Closing___eq.b) (op2_eqC (K := K)) (pd_var (pv 7)) (pd_tup (fun h => pe_tup h) (pda_cons (pd_var (pv 4)) (pda_cons (pd_var (pv 8)) (pda_cons (pd_var (pv 9)) (pda_cons (pd_fld (pd_var (pv 7)) T.cl_Closing (T.na_Closing _ (by decide)) rfl) pda_nil))))) (nomark _))))) (pds_one (psd_ret (pd_const pe_bl (fun _ => .bl _)))) pds_nil)
      (pds_cons (psd_set (i := 10) (pd_ix ix_tup op2_ixT (pd_tup (fun h => pe_tup h) (pda_cons (pd_op op_cat op2_cat (pd_var (pv 3)) (pd_lst (fun h => pe_lst h) (pda_cons (pd_const pe_int (fun _ => .int _)) pda_nil))) (pda_cons (pd_slice (pd_var (pv 3)) (pod_some (pd_const pe_int (fun _ => .int _))) pod_none) (pda_cons (pd_const pe_non (fun _ => .non)) (pda_cons (pd_op op_cat op2_cat (pd_slice (pd_var (pv 3)) pod_none (pod_some (pd_neg (pd_const pe_int (fun _ => .int _))))) (pd_lst (fun h => pe_lst h) (pda_cons (pd_const pe_bl (fun _ => .bl _)) pda_nil))) (pda_cons (pd_op op_cat op2_cat (pd_slice (pd_var (pv 3)) pod_none (pod_some (pd_neg (pd_const pe_int (fun _ => .int _))))) (pd_lst (fun h => pe_lst h) (pda_cons (pd_const pe_non (fun _ => .non)) pda_nil))) (pda_cons (pd_const pe_str (fun _ => .str (by decide +kernel))) pda_nil))))))) (pd_call D_law_draw.ok (hr.mono (by decide)) (by rfl) D_law_draw.mg D_law_draw.kp D_law_draw.b (takes_of rfl rfl rfl rfl) (pda_own (i := 0) (pv 0) (pda_cons (pd_const pe_int (fun _ => .int _)) pda_nil))) (fun _ _ => rfl)) (by show ¬ (10 ∈ ([0] : List Nat)); decide) sc_law_closing.nd rfl (.inl rfl))
      (pds_one (psd_ret (pd_call D_law_refused.ok (hr.mono (by decide)) (by rfl) D_law_refused.mg D_law_refused.kp D_law_refused.b (takes_of rfl rfl rfl rfl) (pda_cons (pd_var (pv 6)) (pda_cons (pd_var (pv 10)) pda_nil))))))))))))))))))), ?_⟩
  rintro as Qd Ed ⟨ys, gs, rfl, hs, hg, k⟩
  have hg5 := hg.2.2.1
  refine DR.start (δ' := [some (.own (.lst ys)), some (.d (.lst (gs.map .str))), none, none, none, none, none, none, none, none, none, none, none, none]) rfl ?_
  with_reducible refine DR.cut (fun δ => ∃ (ys : List D) (js : List Int), Sta ys ∧ js.length = gs.length ∧ (∀ j ∈ js, -(10 ^ 18) ≤ j ∧ j ≤ 10 ^ 18) ∧ δ = [some (.own (.lst ys)), some (.d (.lst (gs.map .str))), some (.d (.lst (js.map .int))), none, none, none, none, none, none, none, none, none, none, none]) (fun N kN => ?_) ?_
  · walk_at "dd"
    refine DR.lc_inv (fun i acc δ => ∃ (ys : List D) (js : List Int), Sta ys ∧ acc = js.map .int ∧ js.length = i ∧ (∀ j ∈ js, -(10 ^ 18) ≤ j ∧ j ≤ 10 ^ 18) ∧ δ = [some (.own (.lst ys)), some (.d (.lst (gs.map .str))), none, none, none, none, none, none, none, none, none, none, none, none]) ⟨ys, [], hs, rfl, rfl, (fun j hj => nomatch hj), rfl⟩ ?_ ?_
    · rintro i x acc δ N2 hx ⟨ys, js, hs, rfl, hjl, hj, rfl⟩ kN2
      have hi : i < 5 := Nat.lt_of_lt_of_le (List.getElem?_eq_some_iff.mp hx).1 (by rw [List.length_map]; exact hg5)
      walk_at "dd"
      refine ⟨ys, _, rfl, hs, (by decide), (by decide), fun r ys r0 r1 hs => ?_⟩
      refine ⟨Nat.lt_of_lt_of_le (show (js.map D.int).length < 5 by rw [List.length_map]; omega) (by decide), kN2 _ _ ⟨ys, js ++ [r], hs, by rw [List.map_append]; rfl, by rw [List.length_append, hjl]; rfl, fun j hm => ?_, rfl⟩⟩
      rcases List.mem_append.mp hm with hm | hm
      · exact hj j hm
      · rw [List.mem_singleton.mp hm]; exact ⟨r0, r1⟩
    · rintro acc δ ⟨ys, js, hs, rfl, hjl, hj, rfl⟩
      rw [List.length_map] at hjl
      exact kN _ ⟨ys, js, hs, hjl, hj, rfl⟩
  rintro δ ⟨ys, js, hs, hjl, hj, rfl⟩
  with_reducible refine DR.cut (fun δ => ∃ (ys : List D) (ks : List Int), Sta ys ∧ ks.length = gs.length ∧ δ = [some (.own (.lst ys)), some (.d (.lst (gs.map .str))), some (.d (.lst (js.map .int))), some (.d (.lst (ks.map .int))), none, none, none, none, none, none, none, none, none, none]) (fun N kN => ?_) ?_
  · walk_at "dd"
    refine DR.lc_inv (fun i acc δ => ∃ (ys : List D) (ks : List Int), Sta ys ∧ acc = ks.map .int ∧ ks.length = i ∧ δ = [some (.own (.lst ys)), some (.d (.lst (gs.map .str))), some (.d (.lst (js.map .int))), none, none, none, none, none, none, none, none, none, none, none]) ⟨ys, [], hs, rfl, rfl, rfl⟩ ?_ ?_
    · rintro i x acc δ N2 hx ⟨ys, ks, hs, rfl, hkl, rfl⟩ kN2
      have hi : i < 5 := Nat.lt_of_lt_of_le (List.getElem?_eq_some_iff.mp hx).1 (by rw [List.length_map]; exact hg5)
      walk_at "dd"
      refine ⟨⟨by decide, by decide, by decide⟩, ?_⟩
      walk_at "dd"
      refine ⟨ys, _, rfl, hs, (by decide), (by decide), fun r ys r0 r1 hs => ?_⟩
      refine ⟨Nat.lt_of_lt_of_le (show (ks.map D.int).length < 5 by rw [List.length_map]; omega) (by decide), kN2 _ _ ⟨ys, ks ++ [r], hs, by rw [List.map_append]; rfl, by rw [List.length_append, hkl]; rfl, rfl⟩⟩
    · rintro acc δ ⟨ys, ks, hs, rfl, hkl, rfl⟩
      rw [List.length_map] at hkl
      exact kN _ ⟨ys, ks, hs, hkl, rfl⟩
  rintro δ ⟨ys, ks, hs, hkl, rfl⟩
  have hmul : ∀ p ∈ js.zip ks, CMul p.1 p.2 := fun p hp => by
    have := hj p.1 (List.of_mem_zip hp).1
    exact RD9.mull (by omega) (by omega)
  have hpo : Po gs js := ⟨hg, hjl⟩
  with_reducible refine DR.cut (fun δ => δ = [some (.own (.lst ys)), some (.d (.lst (gs.map .str))), some (.d (.lst (js.map .int))), some (.d (.lst (ks.map .int))), some (.d (.int (dot js ks))), none, none, none, none, none, none, none, none, none]) (fun N kN => ?_) ?_
  · walk_at "dd"
    refine ⟨_, _, _, _, rfl, .inl ⟨.inl rfl, .inl rfl⟩, ?_⟩
    rw [zip_ints]
    refine DR.lc_mapM (l := js.zip ks) (r := fun p : Int × Int => D.tup [.int p.1, .int p.2]) (fun p => D.int (p.1 * p.2)) (fun p acc N hpm hl3 kN => ?_) ?_
    · walk_at "dd"
      refine ⟨hmul p hpm, ?_⟩
      walk_at "dd"
      exact ⟨Nat.lt_of_lt_of_le hl3 (Nat.le_trans (by rw [List.length_zip]; exact Nat.le_trans (Nat.min_le_left ..) (by omega : js.length ≤ 5)) (show 5 ≤ sizeLine by decide)), kN⟩
    walk_at "dd"
    refine ⟨(js.zip ks).map fun p => p.1 * p.2, .inl (by rw [List.map_map]; rfl), ?_⟩
    walk_at "dd"
    rw [show ((js.zip ks).map fun p => p.1 * p.2) = js.zipWith (fun x y => x * y) ks from List.map_uncurry_zip_eq_zipWith]
    exact kN _ rfl
  rintro δ rfl
  with_reducible refine DR.cut (fun δ => ∃ (ys : List D) (c : Int), Sta ys ∧ δ = [some (.own (.lst ys)), some (.d (.lst (gs.map .str))), some (.d (.lst (js.map .int))), some (.d (.lst (ks.map .int))), some (.d (.int (dot js ks))), some (.d (.int c)), none, none, none, none, none, none, none, none]) (fun N kN => ?_) ?_
  · walk_at "dd"
    refine ⟨ys, _, rfl, hs, (by decide), (by decide), fun r ys r0 r1 hs => ?_⟩
    walk_at "dd"
    exact kN _ ⟨ys, r, hs, rfl⟩
  rintro δ ⟨ys, c, hs, rfl⟩
  with_reducible refine DR.cut (fun δ => ∃ (ys : List D) (c : Int), Sta ys ∧ δ = [some (.own (.lst ys)), some (.d (.lst (gs.map .str))), some (.d (.lst (js.map .int))), some (.d (.lst (ks.map .int))), some (.d (.int (dot js ks))), some (.d (.int c)), none, none, none, none, none, none, none, none]) (fun N kN => ?_) ?_
  · walk_at "dd"
    refine draw hs (by decide) (by decide) fun r ys r0 r1 hs => ?_
    walk_at "dd"
    refine DR.split (fun c1 => ?_) (fun c1 => ?_)
    · walk_at "dd"
      refine draw hs (by decide) (by decide) fun r ys r0 r1 hs => ?_
      walk_at "dd"
      exact kN _ ⟨ys, _, hs, rfl⟩
    · walk_at "dd"
      exact kN _ ⟨ys, c, hs, rfl⟩
  rintro δ ⟨ys, c, hs, rfl⟩
  with_reducible refine DR.cut (fun δ => δ = [some (.own (.lst ys)), some (.d (.lst (gs.map .str))), some (.d (.lst (js.map .int))), some (.d (.lst (ks.map .int))), some (.d (.int (dot js ks))), some (.d (.int c)), some (.d (posD C gs js)), none, none, none, none, none, none, none]) (fun N kN => ?_) ?_
  · walk_at "dd"
    refine ⟨rfl, ?_⟩
    walk_at "dd"
    refine ⟨rfl, ?_⟩
    refine init_ok (gs := gs) (js := js) (.inl rfl) (.inl rfl) hpo ?_
    refine ⟨rfl, _, _, rfl, ?_⟩
    walk_at "dd"
    exact kN _ rfl
  rintro δ rfl
  with_reducible refine DR.cut (fun δ => ∃ (ys : List D), Sta ys ∧ δ = [some (.own (.lst ys)), some (.d (.lst (gs.map .str))), some (.d (.lst (js.map .int))), some (.d (.lst (ks.map .int))), some (.d (.int (dot js ks))), some (.d (.int c)), some (.d (posD C gs js)), some (.d (cloD CL (dot js ks) (c + dot js ks) (max 0 (-(c + dot js ks))) (c + dot js ks + max 0 (-(c + dot js ks))))), none, none, none, none, none, none]) (fun N kN => ?_) ?_
  · walk_at "dd"
    refine draw hs (by decide) (by decide) fun r ys r0 r1 hs => ?_
    walk_at "dd"
    have hk5 : ks.length ≤ 1000 := by omega
    refine DR.split (fun c1 => ?_) (fun c1 => ?_)
    · walk_at "dd"
      refine ⟨gs, js, .lst (ks.map .int), c, rfl, hpo, ca_row (.inl rfl) hk5, .inl ⟨ks, .inl rfl, hkl, hmul, ?_⟩⟩
      walk_at "dd"
      exact kN _ ⟨ys, hs, rfl⟩
    · walk_at "dd"
      refine ⟨_, _, rfl, .inl rfl, ?_⟩
      walk_at "dd"
      refine ⟨gs, js, .tup (ks.map .int), c, rfl, hpo, ca_row (.inr rfl) hk5, .inl ⟨ks, .inr rfl, hkl, hmul, ?_⟩⟩
      walk_at "dd"
      exact kN _ ⟨ys, hs, rfl⟩
  rintro δ ⟨ys, hs, rfl⟩
  generalize hww : dot js ks = ww
  with_reducible refine DR.cut (fun δ => δ = [some (.own (.lst ys)), some (.d (.lst (gs.map .str))), some (.d (.lst (js.map .int))), some (.d (.lst (ks.map .int))), some (.d (.int (ww))), some (.d (.int c)), some (.d (posD C gs js)), some (.d (cloD CL (ww) (c + ww) (max 0 (-(c + ww))) (c + ww + max 0 (-(c + ww))))), some (.d (.int (c + ww))), none, none, none, none, none]) (fun N kN => ?_) ?_
  · walk_at "dd"
    exact kN _ rfl
  rintro δ rfl
  generalize hbb : c + ww = bb
  with_reducible refine DR.cut (fun δ => δ = [some (.own (.lst ys)), some (.d (.lst (gs.map .str))), some (.d (.lst (js.map .int))), some (.d (.lst (ks.map .int))), some (.d (.int (ww))), some (.d (.int c)), some (.d (posD C gs js)), some (.d (cloD CL (ww) (bb) (max 0 (-(bb))) (bb + max 0 (-(bb))))), some (.d (.int (bb))), some (.d (.int (max 0 (-(bb))))), none, none, none, none]) (fun N kN => ?_) ?_
  · walk_at "dd"
    rw [show (fun i j : Int => if j > i then j else i) 0 (0 - bb) = max 0 (-bb) by dsimp only; split <;> omega]
    exact kN _ rfl
  rintro δ rfl
  generalize hpp : max 0 (-bb) = pp
  with_reducible refine DR.cut (fun δ => δ = [some (.own (.lst ys)), some (.d (.lst (gs.map .str))), some (.d (.lst (js.map .int))), some (.d (.lst (ks.map .int))), some (.d (.int ww)), some (.d (.int c)), some (.d (posD C gs js)), some (.d (cloD CL ww bb pp (bb + pp))), some (.d (.int bb)), some (.d (.int pp)), none, none, none, none]) (fun N kN => ?_) ?_
  · walk_at "dd"
    refine ⟨_, _, _, _, true, rfl, .own CL, .obj T.cl_Closing T.si_Closing, kit_own, DR.nost_b, ?_⟩
    walk_at "dd"
    rw [show (fun i j : Int => if j > i then j else i) 0 bb = bb + pp by subst hpp; dsimp only; split <;> omega]
    refine eqd_f (b := true) dp_four.cmp dp_four.cmp (eqv_self _ (noDict dp_four.cmp.1)) ?_
    walk_at "dd"
    exact kN _ rfl
  rintro δ rfl
  with_reducible refine DR.cut (fun δ => δ = [some (.own (.lst ys)), some (.d (.lst (gs.map .str))), some (.d (.lst (js.map .int))), some (.d (.lst (ks.map .int))), some (.d (.int ww)), some (.d (.int c)), some (.d (posD C gs js)), some (.d (cloD CL ww bb pp (bb + pp))), some (.d (.int bb)), some (.d (.int pp)), none, none, none, none]) (fun N kN => ?_) ?_
  · walk_at "dd"
    refine ⟨pp, rfl, ?_⟩
    walk_at "dd"
    refine ⟨bb + pp, rfl, ?_⟩
    walk_at "dd"
    refine ⟨rfl, ?_⟩
    walk_at "dd"
    refine ⟨rfl, ?_⟩
    refine init_ok (gs := gs) (js := js) (.inl rfl) (.inl rfl) hpo ?_
    refine ⟨rfl, _, _, rfl, ?_⟩
    walk_at "dd"
    refine ⟨gs, js, _, rfl, .inl ⟨gs, js, rfl, ?_⟩⟩
    rw [decide_eq_true ⟨rfl, rfl⟩]
    refine ⟨true, rfl, ?_⟩
    walk_at "dd"
    exact kN _ rfl
  rintro δ rfl
  with_reducible refine DR.cut (fun δ => δ = [some (.own (.lst ys)), some (.d (.lst (gs.map .str))), some (.d (.lst (js.map .int))), some (.d (.lst (ks.map .int))), some (.d (.int ww)), some (.d (.int c)), some (.d (posD C gs js)), some (.d (cloD CL ww bb pp (bb + pp))), some (.d (.int bb)), some (.d (.int pp)), none, none, none, none]) (fun N kN => ?_) ?_
  · walk_at "dd"
    refine ⟨rfl, ?_⟩
    walk_at "dd"
    refine ⟨rfl, ?_⟩
    refine ⟨ww, bb, pp, bb + pp, rfl, ?_⟩
    refine ⟨rfl, _, _, rfl, ?_⟩
    walk_at "dd"
    refine ⟨ww, bb, pp, bb + pp, _, rfl, .inl ⟨ww, bb, pp, bb + pp, rfl, ?_⟩⟩
    rw [decide_eq_true ⟨rfl, rfl, rfl, rfl⟩]
    refine ⟨true, rfl, ?_⟩
    walk_at "dd"
    refine ⟨rfl, ?_⟩
    walk_at "dd"
    refine ⟨rfl, ?_⟩
    refine ⟨ww, bb, pp + 1, bb + pp, rfl, ?_⟩
    refine ⟨rfl, _, _, rfl, ?_⟩
    walk_at "dd"
    refine ⟨.inl ⟨_, rfl, T.nf_CL⟩, ?_⟩
    refine ⟨ww, bb, pp, bb + pp, _, rfl, .inl ⟨ww, bb, pp + 1, bb + pp, rfl, ?_⟩⟩
    rw [decide_eq_false (fun e => by have := e.2.2.1; omega)]
    refine ⟨false, rfl, ?_⟩
    walk_at "dd"
    exact kN _ rfl
  rintro δ rfl
  with_reducible refine DR.cut (fun δ => δ = [some (.own (.lst ys)), some (.d (.lst (gs.map .str))), some (.d (.lst (js.map .int))), some (.d (.lst (ks.map .int))), some (.d (.int ww)), some (.d (.int c)), some (.d (posD C gs js)), some (.d (cloD CL ww bb pp (bb + pp))), some (.d (.int bb)), some (.d (.int pp)), none, none, none, none]) (fun N kN => ?_) ?_
  · walk_at "dd"
    refine ⟨rfl, ?_⟩
    walk_at "dd"
    refine ⟨rfl, ?_⟩
    refine ⟨ww + 1, bb, pp, bb + pp, rfl, ?_⟩
    refine ⟨rfl, _, _, rfl, ?_⟩
    walk_at "dd"
    refine ⟨.inl ⟨_, rfl, T.nf_CL⟩, ?_⟩
    refine ⟨ww, bb, pp, bb + pp, _, rfl, .inl ⟨ww + 1, bb, pp, bb + pp, rfl, ?_⟩⟩
    rw [decide_eq_false (fun e => by have := e.1; omega)]
    refine ⟨false, rfl, ?_⟩
    walk_at "dd"
    refine ⟨.inr ⟨_, .tup _, T.nf_tup⟩, ?_⟩
    refine ⟨ww, bb, pp, bb + pp, _, rfl, .inr ⟨_, rfl, ?_⟩⟩
    refine ⟨false, rfl, ?_⟩
    walk_at "dd"
    exact kN _ rfl
  rintro δ rfl
  with_reducible refine DR.cut (fun δ => ∃ (ys : List D) (od : D), Sta ys ∧ CA od ∧ isN gs.length od = false ∧ δ = [some (.own (.lst ys)), some (.d (.lst (gs.map .str))), some (.d (.lst (js.map .int))), some (.d (.lst (ks.map .int))), some (.d (.int ww)), some (.d (.int c)), some (.d (posD C gs js)), some (.d (cloD CL ww bb pp (bb + pp))), some (.d (.int bb)), some (.d (.int pp)), some (.d od), none, none, none]) (fun N kN => ?_) ?_
  · walk_at "dd"
    have hk5 : ks.length ≤ 5 := by omega
    have hk1 : 1 ≤ ks.length := by rw [hkl]; exact hg.2.1
    have cl := @cut_len (ks.map D.int) none (some (-1))
    rw [List.length_map] at cl
    refine ⟨Nat.le_trans (show (ks.map D.int).length + 1 ≤ 20 by rw [List.length_map]; omega) (by decide), ?_⟩
    walk_at "dd"
    refine ⟨Nat.le_trans (show (DL.cutD (ks.map D.int) none (some (-1))).length + 1 ≤ 20 by omega) (by decide), ?_⟩
    walk_at "dd"
    refine ⟨Nat.le_trans (show (DL.cutD (ks.map D.int) none (some (-1))).length + 1 ≤ 20 by omega) (by decide), ?_⟩
    walk_at "dd"
    refine ⟨Nat.le_trans (show 6 ≤ 20 by decide) (by decide), ?_⟩
    walk_at "dd"
    refine draw hs (by decide) (by decide) fun r ys r0 r1 hs => ?_
    walk_at "dd"
    obtain rfl | rfl | rfl | rfl | rfl | rfl : r = 0 ∨ r = 1 ∨ r = 2 ∨ r = 3 ∨ r = 4 ∨ r = 5 := by omega
    · exact ⟨_, _, _, rfl, rfl, rfl, kN _ ⟨ys, _, hs, odd_1 hkl hk5, odd_2 hkl, rfl⟩⟩
    · exact ⟨_, _, _, rfl, rfl, rfl, kN _ ⟨ys, _, hs, odd_3 hk5, odd_4 hkl hk1, rfl⟩⟩
    · exact ⟨_, _, _, rfl, rfl, rfl, kN _ ⟨ys, _, hs, odd_5, rfl, rfl⟩⟩
    · exact ⟨_, _, _, rfl, rfl, rfl, kN _ ⟨ys, _, hs, odd_6 (.bl _) hk5, odd_7 rfl, rfl⟩⟩
    · exact ⟨_, _, _, rfl, rfl, rfl, kN _ ⟨ys, _, hs, odd_6 .non hk5, odd_7 rfl, rfl⟩⟩
    · exact ⟨_, _, _, rfl, rfl, rfl, kN _ ⟨ys, _, hs, odd_8, rfl, rfl⟩⟩
  rintro δ ⟨ys, od, hs, ho, hn, rfl⟩
  walk_at "dd"
  refine ⟨gs, js, od, rfl, hpo, ho, hn, ?_⟩
  walk_at "dd"
  exact k _ hs
end
end KT

set_option Elab.async false
set_option linter.all false
set_option maxRecDepth 100000
set_option maxHeartbeats 0
set_option pp.deepTerms false
set_option pp.deepTerms.threshold 8


namespace KT
open PySem PySem.Spec PyProof.Rows L2 DL
/-! ### lists of rows, the rows cells or not -/
inductive All2 {α β : Type} (R : α → β → Prop) : List α → List β → Prop
  | nil : All2 R [] []
  | cons {a : α} {b : β} {l : List α} {k : List β} : R a b → All2 R l k → All2 R (a :: l) (b :: k)
theorem All2.imp {α β : Type} {R S : α → β → Prop} (h : ∀ a b, R a b → S a b) : ∀ {l : List α} {k : List β}, All2 R l k → All2 S l k
  | _, _, .nil => .nil
  | _, _, .cons q t => .cons (h _ _ q) (All2.imp h t)
theorem All2.app {α β : Type} {R : α → β → Prop} : ∀ {l m : List α} {k n : List β}, All2 R l k → All2 R m n → All2 R (l ++ m) (k ++ n)
  | _, _, _, _, .nil, h => h
  | _, _, _, _, .cons q t, h => .cons q (All2.app t h)
theorem All2.len {α β : Type} {R : α → β → Prop} : ∀ {l : List α} {k : List β}, All2 R l k → l.length = k.length
  | _, _, .nil => rfl
  | _, _, .cons _ t => congrArg (· + 1) t.len
theorem all2_map {α β : Type} {R : β → α → Prop} {f : α → β} : ∀ {l : List α}, (∀ a ∈ l, R (f a) a) → All2 R (l.map f) l
  | [], _ => .nil
  | a :: l, h => .cons (h a List.mem_cons_self) (all2_map fun b hb => h b (List.mem_cons_of_mem _ hb))
def AllL (cs : Cells) : Prop := ∀ a o, (a, o) ∈ cs → IsLst o
theorem AllL.cons {cs : Cells} (h : AllL cs) {a : Addr} {ds : List D} : AllL ((a, .lst ds) :: cs) := fun b o hm => by
  rcases List.mem_cons.mp hm with hm | hm
  · cases hm; exact ⟨_, rfl⟩
  · exact h b o hm
theorem allL_set {cs : Cells} (h : AllL cs) {n : Nat} {a : Addr} {ds : List D} : AllL (cs.set n (a, .lst ds)) := fun b o hm => by
  rcases List.mem_or_eq_of_mem_set hm with hm | hm
  · exact h b o hm
  · cases hm; exact ⟨_, rfl⟩
/-- a row as it was passed -/
def hapV (b : Bool) (h : Hap) : D := if b = true then .lst (hapL h) else hapT h
def ItB (b : Bool) (a0 : Addr) (cs : Cells) (x : D) (h : Hap) : Prop := (b = true ∧ ∃ a, x = .adr a ∧ a ≠ a0 ∧ (a, OC.lst (hapL h)) ∈ cs) ∨ (b = false ∧ x = hapT h)
theorem fill_its {K : PySem.W.Frag} {b : Bool} {a0 : Addr} {cs : Cells} : ∀ {its : List D} {hs : List Hap}, All2 (ItB b a0 cs) its hs → FillL K cs its (hs.map (hapV b))
  | _, _, .nil => .nil
  | _, _, .cons h t => by
    refine .cons ?_ (fill_its t)
    rcases h with ⟨rfl, a, rfl, _, hm⟩ | ⟨rfl, rfl⟩
    · exact Fill.adr hm
    · exact .refl
theorem fill_itsA {K : PySem.W.Frag} {b : Bool} {a0 : Addr} {cs : Cells} {z : D} : ∀ {its : List D} {hs : List Hap}, All2 (ItB b a0 cs) its hs → FillL K cs (its ++ [z]) (hs.map (hapV b) ++ [z])
  | _, _, .nil => .cons .refl .nil
  | _, _, .cons h t => by
    refine .cons ?_ (fill_itsA t)
    rcases h with ⟨rfl, a, rfl, _, hm⟩ | ⟨rfl, rfl⟩
    · exact Fill.adr hm
    · exact .refl
theorem Fill.trans_ {K : PySem.W.Frag} {cs : Cells} {x y z : D} (h1 : Fill K cs x y) (h2 : Fill K cs y z) : Fill K cs x z := fun F v hc r => h2 F v hc (h1 F v hc r)
theorem dpt_str {x : Str} : Dpt 0 (.str x) := ⟨rfl, _, .str _⟩
theorem dpt_int {x : Int} : Dpt 0 (.int x) := ⟨rfl, _, .int _⟩
theorem dpt_hl {h : Hap} : ∀ d ∈ hapL h, Dpt 0 d := fun d hd => by
  cases h <;> simp only [hapL, List.mem_cons, List.not_mem_nil, or_false] at hd
  · rcases hd with rfl | rfl <;> exact dpt_str
  · rcases hd with rfl | rfl | rfl <;> exact dpt_str
  · rcases hd with rfl | rfl | rfl | rfl | rfl | rfl <;> first | exact dpt_str | exact dpt_int
  · rcases hd with rfl | rfl | rfl <;> first | exact dpt_str | exact dpt_int
  · rcases hd with rfl | rfl | rfl | rfl <;> first | exact dpt_str | exact dpt_int
  · rcases hd with rfl | rfl | rfl <;> first | exact dpt_str | exact dpt_int
theorem hl_len {h : Hap} : (hapL h).length ≤ 6 := by
  cases h <;> simp [hapL]
theorem dpt_hv {b : Bool} {h : Hap} : Dpt 1 (hapV b h) := by
  cases b
  · exact ⟨⟨_, .tup _⟩, Nat.le_trans hl_len (by decide), dpt_hl⟩
  · exact ⟨⟨_, .lst _⟩, Nat.le_trans hl_len (by decide), dpt_hl⟩
theorem as_hl {h : Hap} : (hapL h).map (asT 0) = hapL h := by cases h <;> rfl
theorem as_hv {b : Bool} {h : Hap} : asT 1 (hapV b h) = hapT h := by
  cases b
  · show D.tup ((hapL h).map (asT 0)) = _; rw [as_hl]
  · show D.tup ((hapL h).map (asT 0)) = _; rw [as_hl]
theorem dpt_hs {b : Bool} {y : D} {hs : List Hap} (h : RowOf y (hs.map (hapV b))) (hl : hs.length ≤ 1000) : Dpt 2 y ∧ asT 2 y = .tup (hs.map hapT) := by
  have e : (hs.map (hapV b)).map (asT 1) = hs.map hapT := by rw [List.map_map]; exact List.map_congr_left fun _ _ => as_hv
  have hm : ∀ x ∈ hs.map (hapV b), Dpt 1 x := fun x hx => by
    obtain ⟨h, _, rfl⟩ := List.mem_map.mp hx
    exact dpt_hv
  rcases h with rfl | rfl
  · exact ⟨⟨⟨_, .lst _⟩, by show (hs.map (hapV b)).length ≤ _; rw [List.length_map]; exact hl, hm⟩, by show D.tup _ = _; rw [e]⟩
  · exact ⟨⟨⟨_, .tup _⟩, by show (hs.map (hapV b)).length ≤ _; rw [List.length_map]; exact hl, hm⟩, by show D.tup _ = _; rw [e]⟩
theorem noL_hl {h : Hap} : noLL (hapL h) = true := by cases h <;> rfl
theorem noL_hs : ∀ {hs : List Hap}, noLL (hs.map hapT) = true
  | [] => rfl
  | h :: hs => by
    show (noLL (hapL h) && noLL (hs.map hapT)) = true
    rw [noL_hl, noL_hs]
    rfl
theorem noL_db {DB : Addr} {hs : List Hap} : (dbD DB hs).noL = true := by
  show (noLL (hs.map hapT) && true) = true
  rw [noL_hs]
  rfl
theorem its_adr {a0 : Addr} {cs cs' : Cells} : ∀ {as : List Addr} {hs : List Hap}, All2 (fun a h => (a, OC.lst (hapL h)) ∈ cs) as hs → a0 ∉ cs.map (·.1) → (∀ z ∈ cs, z ∈ cs') → All2 (ItB true a0 cs') (as.map .adr) hs
  | _, _, .nil, _, _ => .nil
  | _, _, .cons h t, n, hs => .cons (.inl ⟨rfl, _, rfl, fun e => n (by rw [← e]; exact List.mem_map.mpr ⟨_, h, rfl⟩), hs _ h⟩) (its_adr t n hs)
theorem itB_set {b : Bool} {a0 : Addr} {cs : Cells} {n : Nat} {o o' : OC} {x : D} {h : Hap} (hn : cs[n]? = some (a0, o)) (q : ItB b a0 cs x h) : ItB b a0 (cs.set n (a0, o')) x h := by
  rcases q with ⟨e, a, rfl, ne, hm⟩ | q
  · refine .inl ⟨e, a, rfl, ne, ?_⟩
    obtain ⟨l, r, e1, e2⟩ := cells_at hn
    rw [e2]
    rw [e1] at hm
    rcases List.mem_append.mp hm with hm | hm
    · exact List.mem_append_left _ hm
    · rcases List.mem_cons.mp hm with hm | hm
      · cases hm; exact absurd rfl ne
      · exact List.mem_append_right _ (List.mem_cons_of_mem _ hm)
  · exact .inr q
theorem cmp_hl {hs : List Hap} : Cmp (.lst (hs.map hapT)) := (dp_lst (n := 2) (dp_map fun _ _ => dp_hap)).cmp
theorem cmp_ht {hs : List Hap} : Cmp (.tup (hs.map hapT)) := dp_haps.cmp
theorem eqv_hl {hs : List Hap} : PyData.eqv (D.lst (hs.map hapT)).py (D.lst (hs.map hapT)).py = true := eqv_self _ (noDict cmp_hl.1)
theorem eqv_ht {hs : List Hap} : PyData.eqv (D.tup (hs.map hapT)).py (D.tup (hs.map hapT)).py = true := eqv_self _ (noDict cmp_ht.1)
theorem eqv_ne0 {h : Hap} {hs : List Hap} : PyData.eqv (D.lst ((h :: hs).map hapT)).py (D.lst []).py = false := by simp [D.py, pyL, PyData.eqv, PyData.eqvAll]
theorem cut_map {hs : List Hap} {a b : Option Int} : ∃ hs2 : List Hap, DL.cutD (hs.map hapT) a b = hs2.map hapT := ⟨_, by unfold DL.cutD; rw [← List.map_drop, ← List.map_take]⟩
abbrev stB (ys : List D) (ns : List Str) (r : List (Option DV)) : DSt := some (.own (.lst ys)) :: some (.d (.lst (ns.map .str))) :: r
section
variable {P : Program} {w : World} {K : PySem.W.Frag} {mg : Str → Option Value} {base : Heap} {C OG BG BP BR CL DB : Addr}
abbrev s_DayBook___iter : Stmt := inClass (top 26) 5
theorem sc_DayBook___iter : FnScope ["self"] ["self"] (defScope s_DayBook___iter) := ⟨rfl, rfl, rfl, by decide +kernel, rfl, by decide +kernel, by decide +kernel⟩
abbrev s_law_book : Stmt := top 39
theorem sc_law_book : FnScope ["state", "names", "rows", "k", "passed", "book", "word", "count", "name", "told", "row"] ["state", "names"] (defScope s_law_book) := ⟨rfl, rfl, rfl, by decide +kernel, rfl, by decide +kernel, by decide +kernel⟩
structure TxtK (K : PySem.W.Frag) (mg : Str → Option Value) (C BR OG CL DB : Addr) : Prop extends TxtE K mg C BR OG CL DB where
  nf_DB : PySem.W.notFirst K DB (.ref DB) = true
  nf_DBl : PySem.W.notFirst K DB (.type "list") = true
def sdBook : SpD := fun as Q _ => ∃ (ys : List D) (ns : List Str), as = [.own (.lst ys), .d (.lst (ns.map .str))] ∧ Sta ys ∧ 1 ≤ ns.length ∧ ns.length ≤ 20 ∧ (∀ x ∈ ns, x.length ≤ 12) ∧ ∀ ys : List D, Sta ys → Q (.d (.bl true)) [.lst ys]
theorem ok_lbook (D_law_draw : DefD P w K mg base "_law_draw" 1 ["state", "many"] sdDraw) (D_law_happening : DefD P w K mg base "_law_happening" 5 ["state", "names"] sdHap) (D_law_change : DefD P w K mg base "_law_change" 1 ["rows", "name"] sdChange) (D_law_whole : DefD P w K mg base "_law_whole" 1 ["thing"] sdWholeL)
    (K_DayBook : DefK P w K mg base DB 9 2 ["self", "happenings"] [] [] (sdDInit DB)) {fi fl : Addr} {fdi fdl : FuncData} (I_DayBook : IterOf K DB fi "DayBook.__iter__" "_rows" s_DayBook___iter fdi) (L_DayBook : LenT K DB fl "DayBook.__len__" "_rows" s_DayBook___len fdl)
    (D_DayBook_of : DefM P w K mg base DB "of" 1 ["self", "word"] (sdDOf DB)) (D_DayBook_since : DefM P w K mg base DB "since" 1 ["self", "count"] (sdDSince DB)) (D_DayBook_cash_change : DefM P w K mg base DB "cash_change" 3 ["self", "member"] (sdDCash DB)) (D_DayBook___eq : DefE P w K mg base DB 1 ["self", "other"] (sdDEq DB))
    {f : Addr} {fd : FuncData} (G : Fun K "_law_book" "_law_book" s_law_book f fd) (T : TxtK K mg C BR OG CL DB) : FnOk P w K mg base (L2.CX P w) 11 f fd ["state", "names"] (spOf K sdBook) := by
  refine okD G sc_law_book [0] (fun as Q E ⟨x, m, e, _⟩ => by subst e; exact ⟨rfl, rfl⟩) ⟨_, fun cdv A outer s H E ad F0 H0 hr => (pss_exit (pdsc_cons (psc_up (psd_setO (i := 2) (pd_lst (fun h => pe_lst h) pda_nil) (by show ¬ (2 ∈ ([0] : List Nat)); decide) sc_law_book.nd rfl (.inl rfl)))
      (pdsc_cons (psc_up (psd_for (passes_of rfl) rfl (pid_range1 (by rfl) T.b_range (pda_cons (pd_ix ix_tup op2_ixT (pd_tup (fun h => pe_tup h) (pda_cons (pd_const pe_int (fun _ => .int _)) (pda_cons (pd_const pe_int (fun _ => .int _)) (pda_cons (pd_const pe_int (fun _ => .int _)) (pda_cons (pd_const pe_int (fun _ => .int _)) pda_nil))))) (pd_call D_law_draw.ok (hr.mono (by decide)) (by rfl) D_law_draw.mg D_law_draw.kp D_law_draw.b (takes_of rfl rfl rfl rfl) (pda_own (i := 0) (pv 0) (pda_cons (pd_const pe_int (fun _ => .int _)) pda_nil))) (fun _ _ => rfl)) pda_nil)) (pgd_name (i := 3) (vs := [3]) (pg_name (i := 3) sc_law_book.nd rfl (.inl rfl)) (by show ¬ (3 ∈ ([0] : List Nat)); decide) (by decide))
      (pds_one (psd_expr (pd_methO (j := 2) (fun ho h => pe_bm PySem.F.plainAttrs_list PySem.F.slot_list_append PySem.F.type_list_append mt_append ho h) mo_append (pv 2) (pda_cons (pd_call D_law_happening.ok (hr.mono (by decide)) (by rfl) D_law_happening.mg D_law_happening.kp D_law_happening.b (takes_of rfl rfl rfl rfl) (pda_own (i := 0) (pv 0) (pda_cons (pd_var (pv 1)) pda_nil))) pda_nil))))))
      (pdsc_cons (psc_set (i := 4) (o := false) (pec_ifExp (ptc_up (ptd_cmp op_eq op2_eq.op (pd_call D_law_draw.ok (hr.mono (by decide)) (by rfl) D_law_draw.mg D_law_draw.kp D_law_draw.b (takes_of rfl rfl rfl rfl) (pda_own (i := 0) (pv 0) (pda_cons (pd_const pe_int (fun _ => .int _)) pda_nil))) (pd_const pe_int (fun _ => .int _)) (nomark _))) (pec_cellC (pec_lc (own := [("row", 10)]) (by rfl) sc_law_book.nd (pid_list (pd_fvar (i := 2) (pv 2) (by show ¬ (2 ∈ ([0] : List Nat)); decide))) (blkOk_by (own := [("row", 10)]) (N := ["state", "names", "rows", "k", "passed", "book", "word", "count", "name", "told", "row"]) (sc := defScope s_law_book) (by decide +kernel)) (fun _ _ _ _ _ => (pgd_name (i := 10) (vs := [10]) (pg_name (i := 10) sc_law_book.nd rfl (.inl rfl)) (by show ¬ (10 ∈ ([0] : List Nat)); decide) (by decide))) (fun _ _ _ _ _ => ptsc_up ptsd_nil) (fun _ _ _ _ _ => (pec_cell (pd_builtB (fun h => pe_callTy call_list_of (by rfl) T.b_list (by decide +kernel) h) cn_list (pda_cons (pd_var (pv 10)) pda_nil)))) (by show ∀ i ∈ ([10] : List Nat), ¬ (i ∈ ([0] : List Nat)); decide))) (pec_cell (pd_builtB (fun h => pe_callTy call_list_of (by rfl) T.b_list (by decide +kernel) h) cn_list (pda_cons (pd_fvar (i := 2) (pv 2) (by show ¬ (2 ∈ ([0] : List Nat)); decide)) pda_nil)))) (by show ¬ (4 ∈ ([0] : List Nat)); decide) sc_law_book.nd rfl (.inl rfl))
      (pdsc_cons (psc_set (i := 5) (o := false) (pec_newV K_DayBook.mkc K_DayBook.ok (hr.mono (by decide)) (by rfl) T.c_DayBook K_DayBook.kb0 (fun _ => .nil) (fun _ _ _ => rfl) (takes_of rfl rfl rfl rfl) (pec_ifExp (ptc_up (ptd_cmp op_eq op2_eq.op (pd_call D_law_draw.ok (hr.mono (by decide)) (by rfl) D_law_draw.mg D_law_draw.kp D_law_draw.b (takes_of rfl rfl rfl rfl) (pda_own (i := 0) (pv 0) (pda_cons (pd_const pe_int (fun _ => .int _)) pda_nil))) (pd_const pe_int (fun _ => .int _)) (nomark _))) (pec_up (pd_var (pv 4))) (pec_tupA (i := 4) (fun h => pe_callTy call_tuple_of (by rfl) T.b_tuple (by decide +kernel) h) (pv 4)))) (by show ¬ (5 ∈ ([0] : List Nat)); decide) sc_law_book.nd rfl (.inl rfl))
      (pdsc_cons (psc_with (i := 4) (fun _ => (psd_expr (pd_methO (j := 4) (fun ho h => pe_bm PySem.F.plainAttrs_list PySem.F.slot_list_append PySem.F.type_list_append mt_append ho h) mo_append (pv 4) (pda_cons (pd_tup (fun h => pe_tup h) (pda_cons (pd_const pe_str (fun _ => .str (by decide +kernel))) (pda_cons (pd_ix ix_list op2_ixL (pd_var (pv 1)) (pd_const pe_int (fun _ => .int _)) (fun _ _ => rfl)) (pda_cons (pd_const pe_int (fun _ => .int _)) pda_nil)))) pda_nil)))) (by show ¬ (4 ∈ ([0] : List Nat)); decide))
      (pdsc_cons (psc_if (ptc_viewA (fun F0 H0 => (PW.pt (pwd_and (ptd_cmp (op_neX hr.units) op2_neX.op (pd_fvar (i := 2) (pv 2) (by show ¬ (2 ∈ ([] : List Nat)); decide)) (pd_lst (fun h => pe_lst h) pda_nil) (nomark _)) (pwd_and1 (ptd_val (pd_builtB (fun h => pe_callB call_isi (by rfl) T.b_isinstance (by decide +kernel) h) (cn_isi (K := K)).op (pda_cons (pd_ix ix_list op2_ixL (pd_var (pv 4)) (pd_const pe_int (fun _ => .int _)) (fun _ _ => rfl)) (pda_cons (pd_const (pe_bltn (v := .ty "list") (by rfl) T.b_list (by decide +kernel) rfl) (fun _ => .ty _)) pda_nil))) (fun h => pt_val h))))))) (pdsc_one (psc_putLc (fun h g => ps_asg h g) (fun ho hi hs => pg_sub ho hi hs) (pec_ixA (pv 4) (pd_const pe_int (fun _ => .int _)) (fun _ _ => rfl)) (pec_up (pd_const pe_str (fun _ => .str (by decide +kernel)))) (pd_const pe_int (fun _ => .int _)))) pdsc_nil)
      (pdsc_cons (psc_up (psd_if (PW.pt (pwd_or (ptd_cmp (op_neD hr.units) op2_neD.op (pd_builtB (fun h => pe_callTy (call_listT (n := 1) I_DayBook L_DayBook T.b_iter T.b_len (by rfl) (hr.mono (by decide))) (by rfl) T.b_list (by decide +kernel) h) cn_listT (pda_cons (pd_var (pv 5)) pda_nil)) (pd_fvar (i := 2) (pv 2) (by show ¬ (2 ∈ ([0] : List Nat)); decide)) (nomark _)) (pwd_or (ptd_cmp op_ne op2_ne.op (pd_builtB (fun h => pe_callB (call_lenT (n := 1) L_DayBook T.b_len (hr.mono (by decide))) (by rfl) T.b_len (by decide +kernel) h) cn_lenT (pda_cons (pd_var (pv 5)) pda_nil)) (pd_builtB (fun h => pe_callB call_len_seq (by rfl) T.b_len (by decide +kernel) h) cn_len.op (pda_cons (pd_fvar (i := 2) (pv 2) (by show ¬ (2 ∈ ([0] : List Nat)); decide)) pda_nil)) (nomark _)) (pwd_or1 (ptd_cmp (op_neD hr.units) op2_neD.op (pd_lc (own := [("row", 10)]) (by rfl) sc_law_book.nd (pid_own (k := 1) I_DayBook T.b_iter (hr.mono (by decide)) (pd_var (pv 5))) (blkOk_by (own := [("row", 10)]) (N := ["state", "names", "rows", "k", "passed", "book", "word", "count", "name", "told", "row"]) (sc := defScope s_law_book) (by decide +kernel)) (fun _ _ _ _ _ => (pgd_name (i := 10) (vs := [10]) (pg_name (i := 10) sc_law_book.nd rfl (.inl rfl)) (by show ¬ (10 ∈ ([0] : List Nat)); decide) (by decide))) (fun _ _ _ _ _ => ptsd_nil) (fun _ _ _ _ _ => (pd_var (pv 10))) (by show ∀ i ∈ ([10] : List Nat), ¬ (i ∈ ([0] : List Nat)); decide)) (pd_fvar (i := 2) (pv 2) (by show ¬ (2 ∈ ([0] : List Nat)); decide)) (nomark _)))))) (pds_one (psd_ret (pd_const pe_bl (fun _ => .bl _)))) pds_nil))
      (pdsc_cons (psc_up (psd_for (passes_of rfl) rfl (pid_tup (pd_tup (fun h => pe_tup h) (pda_cons (pd_const pe_str (fun _ => .str (by decide +kernel))) (pda_cons (pd_const pe_str (fun _ => .str (by decide +kernel))) (pda_cons (pd_const pe_str (fun _ => .str (by decide +kernel))) (pda_cons (pd_const pe_str (fun _ => .str (by decide +kernel))) (pda_cons (pd_const pe_str (fun _ => .str (by decide +kernel))) (pda_cons (pd_const pe_str (fun _ => .str (by decide +kernel))) (pda_cons (pd_const pe_str (fun _ => .str (by decide +kernel))) (pda_cons (pd_const pe_str (fun _ => .str (by decide +kernel))) (pda_cons (pd_const pe_str (fun _ => .str (by decide +kernel))) pda_nil))))))))))) (pgd_name (i := 6) (vs := [6]) (pg_name (i := 6) sc_law_book.nd rfl (.inr rfl)) (by show ¬ (6 ∈ ([0] : List Nat)); decide) (by decide))
      (pds_one (psd_if (ptd_cmp (op_neD hr.units) op2_neD.op (pd_meth (pd_var (pv 5)) T.cl_DayBook D_DayBook_of.me D_DayBook_of.ok (hr.mono (by decide)) D_DayBook_of.b (takes_of rfl rfl rfl rfl) (pda_cons (pd_var (pv 6)) pda_nil)) (pd_builtB (fun h => pe_callTy call_tuple_of (by rfl) T.b_tuple (by decide +kernel) h) cn_tuple (pda_cons (pd_lc (own := [("row", 10)]) (by rfl) sc_law_book.nd (pid_list (pd_fvar (i := 2) (pv 2) (by show ¬ (2 ∈ ([0] : List Nat)); decide))) (blkOk_by (own := [("row", 10)]) (N := ["state", "names", "rows", "k", "passed", "book", "word", "count", "name", "told", "row"]) (sc := defScope s_law_book) (by decide +kernel)) (fun _ _ _ _ _ => (pgd_name (i := 10) (vs := [10]) (pg_name (i := 10) sc_law_book.nd rfl (.inl rfl)) (by show ¬ (10 ∈ ([0] : List Nat)); decide) (by decide))) (fun _ _ _ _ _ => (ptsd_one (ptd_cmp op_eq op2_eq.op (pd_ix ix_tup op2_ixT (pd_var (pv 10)) (pd_const pe_int (fun _ => .int _)) (fun _ _ => rfl)) (pd_var (pv 6)) (nomark _)))) (fun _ _ _ _ _ => (pd_var (pv 10))) (by show ∀ i ∈ ([10] : List Nat), ¬ (i ∈ ([0] : List Nat)); decide)) pda_nil)) (nomark _)) (pds_one (psd_ret (pd_const pe_bl (fun _ => .bl _)))) pds_nil))))
      (pdsc_cons (psc_up (psd_for (passes_of rfl) rfl (pid_tup (pd_tup (fun h => pe_tup h) (pda_cons (pd_const pe_int (fun _ => .int _)) (pda_cons (pd_const pe_int (fun _ => .int _)) (pda_cons (pd_call D_law_draw.ok (hr.mono (by decide)) (by rfl) D_law_draw.mg D_law_draw.kp D_law_draw.b (takes_of rfl rfl rfl rfl) (pda_own (i := 0) (pv 0) (pda_cons (pd_op op_add (op2_I0 fun _ _ _ => .int _) (pd_builtB (fun h => pe_callB call_len_seq (by rfl) T.b_len (by decide +kernel) h) cn_len.op (pda_cons (pd_fvar (i := 2) (pv 2) (by show ¬ (2 ∈ ([0] : List Nat)); decide)) pda_nil)) (pd_const pe_int (fun _ => .int _))) pda_nil))) (pda_cons (pd_builtB (fun h => pe_callB call_len_seq (by rfl) T.b_len (by decide +kernel) h) cn_len.op (pda_cons (pd_fvar (i := 2) (pv 2) (by show ¬ (2 ∈ ([0] : List Nat)); decide)) pda_nil)) (pda_cons (pd_op op_add (op2_I0 fun _ _ _ => .int _) (pd_builtB (fun h => pe_callB call_len_seq (by rfl) T.b_len (by decide +kernel) h) cn_len.op (pda_cons (pd_fvar (i := 2) (pv 2) (by show ¬ (2 ∈ ([0] : List Nat)); decide)) pda_nil)) (pd_const pe_int (fun _ => .int _))) pda_nil))))))) (pgd_name (i := 7) (vs := [7]) (pg_name (i := 7) sc_law_book.nd rfl (.inl rfl)) (by show ¬ (7 ∈ ([0] : List Nat)); decide) (by decide))
      (pds_one (psd_if (ptd_cmp (op_neD hr.units) op2_neD.op (pd_meth (pd_var (pv 5)) T.cl_DayBook D_DayBook_since.me D_DayBook_since.ok (hr.mono (by decide)) D_DayBook_since.b (takes_of rfl rfl rfl rfl) (pda_cons (pd_var (pv 7)) pda_nil)) (pd_builtB (fun h => pe_callTy call_tuple_of (by rfl) T.b_tuple (by decide +kernel) h) cn_tuple (pda_cons (pd_slice (pd_fvar (i := 2) (pv 2) (by show ¬ (2 ∈ ([0] : List Nat)); decide)) (pod_some (pd_var (pv 7))) pod_none) pda_nil)) (nomark _)) (pds_one (psd_ret (pd_const pe_bl (fun _ => .bl _)))) pds_nil))))
      (pdsc_cons (psc_up (psd_for (passes_of rfl) rfl (pid_list (pd_op op_cat op2_cat (pd_var (pv 1)) (pd_lst (fun h => pe_lst h) (pda_cons (pd_op op_add_str op2_addS (pd_ix ix_list op2_ixL (pd_var (pv 1)) (pd_const pe_int (fun _ => .int _)) (fun _ _ => rfl)) (pd_const pe_str (fun _ => .str (by decide +kernel)))) pda_nil)))) (pgd_name (i := 8) (vs := [8]) (pg_name (i := 8) sc_law_book.nd rfl (.inl rfl)) (by show ¬ (8 ∈ ([0] : List Nat)); decide) (by decide))
      (pds_cons (psd_set (i := 9) (pd_meth (pd_var (pv 5)) T.cl_DayBook D_DayBook_cash_change.me D_DayBook_cash_change.ok (hr.mono (by decide)) D_DayBook_cash_change.b (takes_of rfl rfl rfl rfl) (pda_cons (pd_var (pv 8)) pda_nil)) (by show ¬ (9 ∈ ([0] : List Nat)); decide) sc_law_book.nd rfl (.inl rfl))
      (pds_one (psd_if (PW.pt (pwd_or (ptd_cmp op_ne op2_ne.op (pd_var (pv 9)) (pd_call D_law_change.ok (hr.mono (by decide)) (by rfl) D_law_change.mg D_law_change.kp D_law_change.b (takes_of rfl rfl rfl rfl) (pda_cons (pd_fvar (i := 2) (pv 2) (by show ¬ (2 ∈ ([0] : List Nat)); decide)) (pda_cons (pd_var (pv 8)) pda_nil))) (nomark _)) (pwd_or1 (ptd_not (ptd_val (pd_call D_law_whole.ok (hr.mono (by decide)) (by rfl) D_law_whole.mg D_law_whole.kp D_law_whole.b (takes_of rfl rfl rfl rfl) (pda_cons (pd_var (pv 9)) pda_nil)) (fun h => pt_val h)))))) (pds_one (psd_ret (pd_const pe_bl (fun _ => .bl _)))) pds_nil)))))
      (pdsc_cons (psc_up (psd_if (PW.pt (pwd_or (ptd_cmp (op_neC D_DayBook___eq.ne D_DayBook___eq.ok (hr.mono (by decide)) D_DayBook___eq.b) (op2_neC (K := K)) (pd_var (pv 5)) (pd_newK (n := 1) K_DayBook.mkc K_DayBook.ok (hr.mono (by decide)) (by rfl) T.c_DayBook K_DayBook.kb0 (fun _ => .nil) (fun _ _ _ => rfl) (takes_of rfl rfl rfl rfl) (pda_cons (pd_fvar (i := 2) (pv 2) (by show ¬ (2 ∈ ([0] : List Nat)); decide)) pda_nil) pkd_nil) (nomark _)) (pwd_or (ptd_cmp (op_eqC D_DayBook___eq.at_ D_DayBook___eq.fn D_DayBook___eq.ok (hr.mono (by decide)) D_DayBook___eq.b) (op2_eqC (K := K)) (pd_var (pv 5)) (pd_fvar (i := 2) (pv 2) (by show ¬ (2 ∈ ([0] : List Nat)); decide)) (nomark _)) (pwd_or1 (ptd_cmp (op_eqC D_DayBook___eq.at_ D_DayBook___eq.fn D_DayBook___eq.ok (hr.mono (by decide)) D_DayBook___eq.b) (op2_eqC (K := K)) (pd_var (pv 5)) (pd_newK (n := 1) K_DayBook.mkc K_DayBook.ok (hr.mono (by decide)) (by rfl) T.c_DayBook K_DayBook.kb0 (fun _ => .nil) (fun _ _ _ => rfl) (takes_of rfl rfl rfl rfl) (pda_cons (pd_op op_cat op2_cat (pd_fvar (i := 2) (pv 2) (by show ¬ (2 ∈ ([0] : List Nat)); decide)) (pd_lst (fun h => pe_lst h) (pda_cons (pd_tup (fun h => pe_tup h) (pda_cons (pd_const pe_str (fun _ => .str (by decide +kernel))) (pda_cons (pd_ix ix_list op2_ixL (pd_var (pv 1)) (pd_const pe_int (fun _ => .int _)) (fun _ _ => rfl)) (pda_cons (pd_const pe_int (fun _ => .int _)) pda_nil)))) pda_nil))) pda_nil) pkd_nil) (nomark _)))))) (pds_one (psd_ret (pd_const pe_bl (fun _ => .bl _)))) pds_nil))
      (pdsc_one (psc_up (psd_ret (pd_or (pd_cmp (op_eqD hr.units) op2_eqD.op (pd_fvar (i := 2) (pv 2) (by show ¬ (2 ∈ ([0] : List Nat)); decide)) (pd_lst (fun h => pe_lst h) pda_nil) (nomark _)) (pd_one (pd_cmp (op_neC D_DayBook___eq.ne D_DayBook___eq.ok (hr.mono (by decide)) D_DayBook___eq.b) (op2_neC (K := K)) (pd_var (pv 5)) (pd_newK (n := 1) K_DayBook.mkc K_DayBook.ok (hr.mono (by decide)) (by rfl) T.c_DayBook K_DayBook.kb0 (fun _ => .nil) (fun _ _ _ => rfl) (takes_of rfl rfl rfl rfl) (pda_cons (pd_slice (pd_fvar (i := 2) (pv 2) (by show ¬ (2 ∈ ([0] : List Nat)); decide)) (pod_some (pd_const pe_int (fun _ => .int _))) pod_none) pda_nil) pkd_nil) (nomark _))))))))))))))))))), ?_⟩
  rintro as Qd Ed ⟨ys, ns, rfl, hs, n1, n20, n12, k⟩
  refine DR.exitC ?_
  show seqC _ _ _ (stB ys ns [none, none, none, none, none, none, none, none, none]) _
  with_reducible refine DR.cutC (fun δ cs => cs = [] ∧ δ = stB ys ns [some (.own (.lst [])), none, none, none, none, none, none, none, none]) (fun N kN => ?_) ?_
  · refine DR.upC ?_
    walk_at "dd"
    exact kN _ _ ⟨rfl, rfl⟩
  rintro δ cs ⟨rfl, rfl⟩
  with_reducible refine DR.cutC (fun δ cs => cs = [] ∧ ∃ (ys : List D) (hs : List Hap) (p3 : Option DV), Sta ys ∧ hs.length ≤ 24 ∧ (∀ h ∈ hs, HapOk h) ∧ δ = stB ys ns [some (.own (.lst (hs.map hapT))), p3, none, none, none, none, none, none, none]) (fun N kN => ?_) ?_
  · refine DR.upC ?_
    walk_at "dd"
    refine draw hs (by decide) (by decide) fun r ys r0 r1 hs => ?_
    walk_at "dd"
    obtain ⟨m, hm, m0, m24⟩ : ∃ m : Int, atI [D.int 0, D.int 1, D.int 6, D.int 24] r = some (.int m) ∧ 0 ≤ m ∧ m ≤ 24 := by
      obtain rfl | rfl | rfl | rfl : r = 0 ∨ r = 1 ∨ r = 2 ∨ r = 3 := by omega
      · exact ⟨0, rfl, by decide, by decide⟩
      · exact ⟨1, rfl, by decide, by decide⟩
      · exact ⟨6, rfl, by decide, by decide⟩
      · exact ⟨24, rfl, by decide, by decide⟩
    refine ⟨_, _, _, rfl, rfl, hm, ?_⟩
    walk_at "dd"
    refine ⟨by omega, by omega, ?_⟩
    refine DR.for_inv (fun i δ => ∃ (ys : List D) (hs : List Hap) (p3 : Option DV), Sta ys ∧ hs.length = i ∧ (∀ h ∈ hs, HapOk h) ∧ δ = stB ys ns [some (.own (.lst (hs.map hapT))), p3, none, none, none, none, none, none, none]) ⟨ys, [], _, hs, rfl, (fun _ h => nomatch h), rfl⟩ ?stp ?fn
    case fn =>
      rintro δ ⟨ys, hs, p3, hst, hl, hok, rfl⟩
      refine kN _ _ ⟨rfl, ys, hs, p3, hst, ?_, hok, rfl⟩
      rw [upto_len] at hl
      omega
    case stp =>
    rintro i x δ N2 hx ⟨ys, hs, p3, hst, hl, hok, rfl⟩ kN2
    walk_at "dd"
    refine ⟨ys, ns, rfl, hst, n1, n20, fun h ys ho hst => ?_⟩
    walk_at "dd"
    have hi : i < 24 := by
      have := (List.getElem?_eq_some_iff.mp hx).1
      rw [upto_len] at this
      omega
    refine ⟨[_], _, rfl, rfl, _, rfl, Nat.lt_of_le_of_lt (show (hs.map hapT).length ≤ 24 by rw [List.length_map]; omega) (by decide), kN2 _ ⟨ys, hs ++ [h], _, hst, by rw [List.length_append, hl]; rfl, fun z hz => ?_, by rw [List.map_append]; rfl⟩⟩
    rcases List.mem_append.mp hz with hz | hz
    · exact hok z hz
    · rw [List.mem_singleton.mp hz]; exact ho
  rintro δ cs ⟨rfl, ys, hs, p3, hst, hl, hok, rfl⟩
  with_reducible refine DR.cutC (fun δ cs => AllL cs ∧ ∃ (ys : List D) (b : Bool) (n : Nat) (a0 : Addr) (its : List D), Sta ys ∧ cs[n]? = some (a0, OC.lst its) ∧ All2 (ItB b a0 cs) its hs ∧ δ = stB ys ns [some (.d (.lst (hs.map hapT))), p3, some (.d (.adr a0)), none, none, none, none, none, none]) (fun N kN => ?_) ?_
  · refine DR.setC (DR.ifExpC (DR.upT ?_))
    walk_at "dd"
    refine draw hst (by decide) (by decide) fun r ys r0 r1 hst => ?_
    walk_at "dd"
    refine DR.split (fun c => ?_) (fun c => ?_)
    · refine DR.cellC (DR.compC ?_)
      walk_at "dd"
      refine DR.lcC_inv (fun j acc δ cs => AllL cs ∧ (∃ as : List Addr, acc = as.map .adr ∧ All2 (fun a h => (a, OC.lst (hapL h)) ∈ cs) as (hs.take j)) ∧ δ = stB ys ns [some (.d (.lst (hs.map hapT))), p3, none, none, none, none, none, none, none]) ⟨(fun _ _ h => nomatch h), ⟨[], rfl, by rw [List.take_zero]; exact .nil⟩, rfl⟩ ?st2 ?fn2
      case fn2 =>
        rintro acc δ cs ⟨hal, ⟨as, rfl, h2⟩, rfl⟩
        rw [List.length_map, List.take_length] at h2
        refine ⟨_, rfl, fun a0 hfr => ?_⟩
        exact kN _ _ ⟨hal.cons, ys, true, 0, a0, as.map .adr, hst, rfl, its_adr h2 hfr fun z hz => List.mem_cons_of_mem _ hz, rfl⟩
      case st2 =>
      rintro j x acc δ cs N2 hx ⟨hal, ⟨as, rfl, h2⟩, rfl⟩ kN2
      obtain ⟨h, hh, rfl⟩ := DR.map_at hx
      walk_at "dd"
      refine DR.upT ?_
      walk_at "dd"
      refine DR.cellE ?_
      walk_at "dd"
      intro a _
      refine ⟨?_, kN2 _ _ _ ⟨hal.cons, ⟨as ++ [a], by rw [List.map_append]; rfl, ?_⟩, rfl⟩⟩
      · have := h2.len
        rw [List.length_take] at this
        rw [List.length_map]
        exact Nat.lt_of_le_of_lt (show as.length ≤ 24 by omega) (by decide)
      · rw [List.take_succ, hh]
        exact (h2.imp fun _ _ h => List.mem_cons_of_mem _ h).app (.cons List.mem_cons_self .nil)
    · refine DR.cellE ?_
      walk_at "dd"
      intro a0 _
      exact kN _ _ ⟨(show AllL [] from fun _ _ h => nomatch h).cons, ys, false, 0, a0, hs.map hapT, hst, rfl, all2_map fun _ _ => .inr ⟨rfl, rfl⟩, rfl⟩
  rintro δ cs ⟨hal, ys, b, n, a0, its, hst, hn, hit, rfl⟩
  with_reducible refine DR.cutC (fun δ cs => AllL cs ∧ ∃ (ys : List D), Sta ys ∧ cs[n]? = some (a0, OC.lst its) ∧ All2 (ItB b a0 cs) its hs ∧ δ = stB ys ns [some (.d (.lst (hs.map hapT))), p3, some (.d (.adr a0)), some (.d (dbD DB hs)), none, none, none, none, none]) (fun N kN => ?_) ?_
  · refine DR.setC (DR.newV (DR.ifExpC (DR.upT ?_)))
    walk_at "dd"
    refine draw hst (by decide) (by decide) fun r ys r0 r1 hst => ?_
    walk_at "dd"
    have hla : hs.length ≤ 1000 := by omega
    refine DR.split (fun c => ?_) (fun c => ?_)
    · refine DR.upE2 ?_
      walk_at "dd"
      refine ⟨_, _, rfl, hal, Fill.trans_ (Fill.adr (List.mem_of_getElem? hn)) (Fill.lst (fill_its hit)), hs, _, rfl, (dpt_hs (.inl rfl) hla).1, (dpt_hs (.inl rfl) hla).2, rfl, _, _, rfl, noL_db, kN _ _ ⟨hal, ys, hst, hn, hit, rfl⟩⟩
    · refine DR.tupA rfl hn ?_
      refine ⟨_, _, rfl, hal, Fill.tup (fill_its hit), hs, _, rfl, (dpt_hs (.inr rfl) hla).1, (dpt_hs (.inr rfl) hla).2, rfl, _, _, rfl, noL_db, kN _ _ ⟨hal, ys, hst, hn, hit, rfl⟩⟩
  rintro δ cs ⟨hal, ys, hst, hn, hit, rfl⟩
  with_reducible refine DR.cutC (fun δ cs => AllL cs ∧ ∃ x0 : Str, cs[n]? = some (a0, OC.lst (its ++ [hapT (.pay x0 7)])) ∧ All2 (ItB b a0 cs) its hs ∧ δ = stB ys ns [some (.d (.lst (hs.map hapT))), p3, some (.d (.adr a0)), some (.d (dbD DB hs)), none, none, none, none, none]) (fun N kN => ?_) ?_
  · refine DR.withC rfl hn ?_
    walk_at "dd"
    have hx0 : ns[0]? = some (ns[0]'(by omega)) := List.getElem?_eq_getElem _
    refine ⟨_, _, .inl rfl, atI_map (f := D.str) hx0, ?_⟩
    walk_at "dd"
    refine ⟨[_], _, rfl, rfl, _, rfl, Nat.lt_of_le_of_lt (show its.length ≤ 24 by rw [hit.len]; exact hl) (by decide), ?_⟩
    refine ⟨_, rfl, kN _ _ ⟨allL_set hal, _, List.getElem?_set_self (set_lt hn), hit.imp fun _ _ => itB_set hn, rfl⟩⟩
  rintro δ cs ⟨hal, x0, hn, hit, rfl⟩
  with_reducible refine DR.cutC (fun δ cs => δ = stB ys ns [some (.d (.lst (hs.map hapT))), p3, some (.d (.adr a0)), some (.d (dbD DB hs)), none, none, none, none, none]) (fun N kN => ?_) ?_
  · refine DR.ifCC (DR.viewTA hal (FillS.set FillS.hid (i := 4) rfl (Fill.trans_ (Fill.adr (List.mem_of_getElem? hn)) (Fill.lst (fill_itsA hit)))) ?_)
    walk_at "dd"
    cases hs with
    | nil =>
      refine .inl (eqd_f (b := true) cmp_e2 cmp_e2 rfl ?_)
      walk_at "dd"
      exact kN _ _ rfl
    | cons h0 ht =>
      refine .inr ⟨_, _, .inl rfl, .inl rfl, (by simp), ?_⟩
      walk_at "dd"
      refine ⟨_, _, .inl rfl, at_0, ?_⟩
      walk_at "dd"
      cases b with
      | false =>
        refine ⟨_, _, _, _, false, rfl, .ty _, .tup _, rfl, ?_⟩
        walk_at "dd"
        exact kN _ _ rfl
      | true =>
        refine ⟨_, _, _, _, true, rfl, .ty _, .lst _, rfl, ?_⟩
        walk_at "dd"
        obtain ⟨a1, its, rfl, hm⟩ : ∃ a its', its = D.adr a :: its' ∧ (a, OC.lst (hapL h0)) ∈ cs := by
          cases hit with
          | cons h t =>
            rcases h with ⟨_, a, rfl, _, hm⟩ | ⟨e, _⟩
            · exact ⟨a, _, rfl, hm⟩
            · cases e
        refine DR.putLc (DR.upE2 ?_)
        walk_at "dd"
        refine DR.ixA rfl ?_
        walk_at "dd"
        refine ⟨_, _, n, 0, _, rfl, hn, rfl, at_0, ?_⟩
        walk_at "dd"
        obtain ⟨n1, hn1⟩ := List.getElem?_of_mem hm
        exact ⟨n1, a1, _, 0, 0, rfl, hn1, rfl, by unfold ixN; rw [hap_wd]; simp, kN _ _ rfl⟩
  rintro δ cs rfl
  with_reducible refine DR.cutC (fun δ cs => δ = stB ys ns [some (.d (.lst (hs.map hapT))), p3, some (.d (.adr a0)), some (.d (dbD DB hs)), none, none, none, none, none]) (fun N kN => ?_) ?_
  · have h24 : ∀ {j : Nat}, j ≤ hs.length → j < sizeLine := fun h => Nat.lt_of_le_of_lt (Nat.le_trans h hl) (by decide)
    refine DR.upC ?_
    walk_at "dd"
    have hml : (hs.map hapT).length < sizeLine := h24 (by rw [List.length_map]; exact Nat.le_refl _)
    refine ⟨hml, ?_⟩
    walk_at "dd"
    refine eqd_f cmp_hl cmp_hl eqv_hl ?_
    walk_at "dd"
    refine ⟨Nat.le_of_lt hml, ?_⟩
    walk_at "dd"
    refine itF (by simp) ?_
    walk_at "dd"
    refine DR.lc_mapM (l := hs) (r := hapT) (fun h => hapT h) (fun h acc N hx hl2 kN => ?_) ?_
    · walk_at "dd"
      exact ⟨Nat.lt_of_lt_of_le hl2 (Nat.le_of_lt (h24 (Nat.le_refl _))), kN⟩
    walk_at "dd"
    refine eqd_f cmp_hl cmp_hl eqv_hl ?_
    walk_at "dd"
    exact kN _ _ rfl
  rintro δ cs rfl
  have h24 : ∀ {j : Nat}, j ≤ hs.length → j < sizeLine := fun h => Nat.lt_of_le_of_lt (Nat.le_trans h hl) (by decide)
  have hml : (hs.map hapT).length ≤ sizeLine := Nat.le_of_lt (h24 (by rw [List.length_map]; exact Nat.le_refl _))
  have hla : hs.length ≤ 1000 := by omega
  with_reducible refine DR.cutC (fun δ cs => ∃ p6 p10 : Option DV, δ = stB ys ns [some (.d (.lst (hs.map hapT))), p3, some (.d (.adr a0)), some (.d (dbD DB hs)), p6, none, none, none, p10]) (fun N kN => ?_) ?_
  · refine DR.upC ?_
    walk_at "dd"
    refine ⟨[.str "entered", .str "marked", .str "filled", .str "traded", .str "paid_in", .str "paid_out", .str "closed", .str "paid", .str "none"], rfl, (by decide), _, rfl, ?_⟩
    refine DR.for_inv (fun i δ => ∃ p6 p10 : Option DV, δ = stB ys ns [some (.d (.lst (hs.map hapT))), p3, some (.d (.adr a0)), some (.d (dbD DB hs)), p6, none, none, none, p10]) ⟨_, _, rfl⟩ ?_ ?_
    · rintro i x δ N2 hx ⟨p6, p10, rfl⟩ kN2
      obtain ⟨z, rfl⟩ : ∃ z : Str, x = .str z := by
        have := List.mem_of_getElem? hx
        simp only [List.mem_cons, List.not_mem_nil, or_false] at this
        rcases this with rfl | rfl | rfl | rfl | rfl | rfl | rfl | rfl | rfl <;> exact ⟨_, rfl⟩
      walk_at "dd"
      refine ⟨hs, z, rfl, hla, ?_⟩
      walk_at "dd"
      refine DR.lc_filterM (l := hs) (r := hapT) (fun h => if wd h = z then some (hapT h) else none) (fun h acc N hx hl2 kN => ?_) ?_
      · walk_at "dd"
        refine ⟨_, _, _, rfl, rfl, by rw [hap_wd]; exact at_0, ?_⟩
        walk_at "dd"
        refine DR.split (fun c => ?_) (fun c => ?_)
        · rw [if_pos c] at kN
          walk_at "dd"
          exact ⟨Nat.lt_of_lt_of_le hl2 (Nat.le_of_lt (h24 (Nat.le_refl _))), kN⟩
        · rw [if_neg c] at kN
          walk_at "dd"
          rw [Option.toList_none, List.append_nil] at kN
          exact kN
      walk_at "dd"
      refine ⟨_, _, rfl, .inl rfl, ?_⟩
      walk_at "dd"
      rw [filt_wd]
      refine eqd_f cmp_ht cmp_ht eqv_ht ?_
      walk_at "dd"
      exact kN2 _ ⟨_, _, rfl⟩
    · rintro δ ⟨p6, p10, rfl⟩
      exact kN _ _ ⟨_, _, rfl⟩
  rintro δ cs ⟨p6, p10, rfl⟩
  with_reducible refine DR.cutC (fun δ cs => ∃ (ys : List D) (p7 p10 : Option DV), Sta ys ∧ δ = stB ys ns [some (.d (.lst (hs.map hapT))), p3, some (.d (.adr a0)), some (.d (dbD DB hs)), p6, p7, none, none, p10]) (fun N kN => ?_) ?_
  · refine DR.upC ?_
    walk_at "dd"
    try (refine ⟨hml, ?_⟩; walk_at "dd")
    refine draw hst (by rw [List.length_map]; omega) (by rw [List.length_map]; omega) fun r ys r0 r1 hst => ?_
    walk_at "dd"
    try (refine ⟨hml, ?_⟩; walk_at "dd")
    try (refine ⟨hml, ?_⟩; walk_at "dd")
    refine ⟨Nat.le_trans (show 5 ≤ 20 by decide) (by decide), ?_⟩
    walk_at "dd"
    refine DR.for_inv (fun i δ => ∃ p7 p10 : Option DV, δ = stB ys ns [some (.d (.lst (hs.map hapT))), p3, some (.d (.adr a0)), some (.d (dbD DB hs)), p6, p7, none, none, p10]) ⟨_, _, rfl⟩ ?_ ?_
    · rintro i x δ N2 hx ⟨p7, p10, rfl⟩ kN2
      obtain ⟨z, rfl⟩ : ∃ z : Int, x = .int z := by
        have := List.mem_of_getElem? hx
        simp only [List.mem_cons, List.not_mem_nil, or_false] at this
        rcases this with rfl | rfl | rfl | rfl | rfl <;> exact ⟨_, rfl⟩
      walk_at "dd"
      refine ⟨hs, z, rfl, ?_⟩
      walk_at "dd"
      obtain ⟨hs2, e2⟩ := cut_map (hs := hs) (a := some z) (b := none)
      rw [e2]
      refine ⟨_, _, rfl, .inl rfl, ?_⟩
      refine eqd_f cmp_ht cmp_ht eqv_ht ?_
      walk_at "dd"
      exact kN2 _ ⟨_, _, rfl⟩
    · rintro δ ⟨p7, p10, rfl⟩
      exact kN _ _ ⟨ys, _, _, hst, rfl⟩
  rintro δ cs ⟨ys, p7, p10, hst, rfl⟩
  with_reducible refine DR.cutC (fun δ cs => ∃ (p8 p9 : Option DV), δ = stB ys ns [some (.d (.lst (hs.map hapT))), p3, some (.d (.adr a0)), some (.d (dbD DB hs)), p6, p7, p8, p9, p10]) (fun N kN => ?_) ?_
  · refine DR.upC ?_
    walk_at "dd"
    have hx0 : ns[0]? = some (ns[0]'(by omega)) := List.getElem?_eq_getElem _
    refine ⟨_, _, .inl rfl, atI_map (f := D.str) hx0, ?_⟩
    walk_at "dd"
    refine ⟨Nat.le_trans (Nat.add_le_add_right (n12 _ (List.mem_of_getElem? hx0)) _) (by decide), ?_⟩
    walk_at "dd"
    refine ⟨Nat.le_trans (show (ns.map D.str).length + 1 ≤ 21 by rw [List.length_map]; omega) (by decide), ?_⟩
    walk_at "dd"
    refine DR.for_inv (fun i δ => ∃ (p8 p9 : Option DV), δ = stB ys ns [some (.d (.lst (hs.map hapT))), p3, some (.d (.adr a0)), some (.d (dbD DB hs)), p6, p7, p8, p9, p10]) ⟨_, _, rfl⟩ ?_ ?_
    · rintro i x δ N2 hx ⟨p8, p9, rfl⟩ kN2
      obtain ⟨z, rfl⟩ : ∃ z : Str, x = .str z := by
        rcases List.mem_append.mp (List.mem_of_getElem? hx) with hx | hx
        · obtain ⟨z, _, rfl⟩ := List.mem_map.mp hx
          exact ⟨z, rfl⟩
        · rw [List.mem_singleton.mp hx]
          exact ⟨_, rfl⟩
      walk_at "dd"
      refine ⟨hs, z, rfl, hla, hok, ?_⟩
      walk_at "dd"
      refine ⟨hs, z, rfl, hok, ?_⟩
      walk_at "dd"
      refine itF (by simp) ?_
      walk_at "dd"
      refine ⟨_, rfl, ?_⟩
      walk_at "dd"
      exact kN2 _ ⟨_, _, rfl⟩
    · rintro δ ⟨p8, p9, rfl⟩
      exact kN _ _ ⟨_, _, rfl⟩
  rintro δ cs ⟨p8, p9, rfl⟩
  with_reducible refine DR.cutC (fun δ cs => δ = stB ys ns [some (.d (.lst (hs.map hapT))), p3, some (.d (.adr a0)), some (.d (dbD DB hs)), p6, p7, p8, p9, p10]) (fun N kN => ?_) ?_
  · refine DR.upC ?_
    walk_at "dd"
    have hD := fun (hs2 : List Hap) (h : hs2.length ≤ 1000) => dpt_hs (b := false) (y := .lst (hs2.map hapT)) (hs := hs2) (.inl rfl) h
    refine ⟨rfl, ?_⟩
    walk_at "dd"
    refine ⟨rfl, hs, _, rfl, (hD hs hla).1, (hD hs hla).2, rfl, _, _, rfl, ?_⟩
    walk_at "dd"
    refine ⟨hs, _, rfl, .inl ⟨rfl, true, rfl, ?_⟩⟩
    walk_at "dd"
    refine ⟨.inr ⟨_, .lst _, T.nf_DBl⟩, ?_⟩
    refine ⟨hs, _, rfl, .inr (.inr ⟨_, rfl, false, rfl, ?_⟩)⟩
    walk_at "dd"
    have hx0 : ns[0]? = some (ns[0]'(by omega)) := List.getElem?_eq_getElem _
    refine ⟨_, _, .inl rfl, atI_map (f := D.str) hx0, ?_⟩
    walk_at "dd"
    have el : hs.map hapT ++ [hapT (.pay (ns[0]'(by omega)) 7)] = (hs ++ [Hap.pay (ns[0]'(by omega)) 7]).map hapT := by rw [List.map_append]; rfl
    have h25 : (hs ++ [Hap.pay (ns[0]'(by omega)) 7]).length ≤ 1000 := by rw [List.length_append]; simp; omega
    refine ⟨Nat.le_trans (show (hs.map hapT).length + 1 ≤ 25 by rw [List.length_map]; omega) (by decide), ?_⟩
    walk_at "dd"
    refine ⟨rfl, ?_⟩
    walk_at "dd"
    have d1 : Dpt 2 (D.lst (hs.map hapT ++ [hapT (.pay (ns[0]'(by omega)) 7)])) := by rw [el]; exact (hD _ h25).1
    have d2 : asT 2 (D.lst (hs.map hapT ++ [hapT (.pay (ns[0]'(by omega)) 7)])) = .tup ((hs ++ [Hap.pay (ns[0]'(by omega)) 7]).map hapT) := by rw [el]; exact (hD _ h25).2
    refine ⟨rfl, _, _, rfl, d1, d2, rfl, _, _, rfl, ?_⟩
    walk_at "dd"
    refine ⟨.inl ⟨_, rfl, T.nf_DB⟩, ?_⟩
    refine ⟨hs, _, rfl, .inr (.inl ⟨_, rfl, (by simp), false, rfl, ?_⟩)⟩
    walk_at "dd"
    exact kN _ _ rfl
  rintro δ cs rfl
  refine DR.upC ?_
  walk_at "dd"
  cases hs with
  | nil =>
    refine eqd_t (b := true) cmp_e2 cmp_e2 rfl ?_
    walk_at "dd"
    refine ⟨_, _, rfl, .refl, ?_⟩
    walk_at "dd"
    exact k _ hst
  | cons h0 ht =>
    refine eqd_t (b := false) (cmp_hl (hs := h0 :: ht)) cmp_e2 eqv_ne0 ?_
    walk_at "dd"
    refine ⟨rfl, ?_⟩
    walk_at "dd"
    have e1 : DL.cutD ((h0 :: ht).map hapT) (some 1) none = ht.map hapT := by
      unfold DL.cutD
      have a1 : HT.sIx ((h0 :: ht).map hapT).length ((h0 :: ht).map hapT).length none = ((h0 :: ht).map hapT).length := rfl
      have a2 : HT.sIx ((h0 :: ht).map hapT).length 0 (some 1) = 1 := by unfold HT.sIx; rw [List.length_map, List.length_cons]; simp
      rw [a1, a2]
      exact List.take_of_length_le (by simp)
    rw [e1]
    refine ⟨rfl, ht, _, rfl, (dpt_hs (b := false) (y := .lst (ht.map hapT)) (hs := ht) (.inl rfl) (by simp at hla; omega)).1, (dpt_hs (b := false) (y := .lst (ht.map hapT)) (hs := ht) (.inl rfl) (by simp at hla; omega)).2, rfl, _, _, rfl, ?_⟩
    walk_at "dd"
    refine ⟨_, _, rfl, .inr (.inl ⟨ht, rfl, (by simp), false, rfl, ?_⟩)⟩
    walk_at "dd"
    refine ⟨_, _, rfl, .refl, ?_⟩
    walk_at "dd"
    exact k _ hst
end
end KT

set_option Elab.async false
set_option linter.all false
set_option maxRecDepth 100000
set_option maxHeartbeats 0
set_option pp.deepTerms false
set_option pp.deepTerms.threshold 8


namespace KT
open PySem PySem.Spec PyProof.Rows L2 DL
theorem wd_cash : Wd "cash" := ⟨by decide, by decide, by unfold Low; decide +kernel⟩
theorem goods_of {gs : List Str} (hn : gs.Nodup) (h1 : 1 ≤ gs.length) (h5 : gs.length ≤ 5) (hw : ∀ g ∈ gs, Wd g ∧ g ≠ "cash") : Goods gs := ⟨hn, h1, h5, fun g hg => ⟨(hw g hg).2, (hw g hg).1.1, (hw g hg).1.2.1, (hw g hg).1.2.2⟩⟩
abbrev stW (zs : List Int) (ys : List D) (r : List (Option DV)) : DSt := some (.d (.ro (zs.map .int))) :: some (.own (.lst ys)) :: r
section
variable {P : Program} {w : World} {K : PySem.W.Frag} {mg : Str → Option Value} {base : Heap} {C OG BG BP BR CL DB : Addr}
def sdLaw : SpD := fun as Q _ => ∃ zs : List Int, as = [.d (.ro (zs.map .int))] ∧ Q (.d (.bl true)) []
abbrev s_law : Stmt := top 40
theorem sc_law : FnScope ["script", "state", "goods", "k", "names", "turn"] ["script"] (defScope s_law) := ⟨rfl, rfl, rfl, by decide +kernel, rfl, by decide +kernel, by decide +kernel⟩
theorem ok_law (D_law_open : DefD P w K mg base "_law_open" 1 ["script"] sdOpen) (D_law_draw : DefD P w K mg base "_law_draw" 1 ["state", "many"] sdDraw) (D_law_name : DefD P w K mg base "_law_name" 3 ["state", "taken"] sdName) (D_law_closing : DefD P w K mg base "_law_closing" 13 ["state", "goods"] sdClosing) (D_law_book : DefD P w K mg base "_law_book" 11 ["state", "names"] sdBook)
    {f : Addr} {fd : FuncData} (G : Fun K "law" "law" s_law f fd) (T : TxtN mg) : FnOk P w K mg base (L2.CX P w) 15 f fd ["script"] (spOf K sdLaw) := by
  refine okD G sc_law [] (fun as Q E ⟨zs, e, _⟩ => by subst e; exact ⟨rfl, rfl⟩) ⟨_, fun cdv A outer s H E ad F0 H0 hr => (pds_cons (psd_setO (i := 1) (pd_call D_law_open.ok (hr.mono (by decide)) (by rfl) D_law_open.mg D_law_open.kp D_law_open.b (takes_of rfl rfl rfl rfl) (pda_cons (pd_var (pv 0)) pda_nil)) (by show ¬ (1 ∈ ([] : List Nat)); decide) sc_law.nd rfl (.inl rfl))
      (pds_cons (psd_setO (i := 2) (pd_lst (fun h => pe_lst h) pda_nil) (by show ¬ (2 ∈ ([] : List Nat)); decide) sc_law.nd rfl (.inl rfl))
      (pds_cons (psd_for (passes_of rfl) rfl (pid_range1 (by rfl) T.b_range (pda_cons (pd_op op_add (op2_I0 fun _ _ _ => .int _) (pd_const pe_int (fun _ => .int _)) (pd_call D_law_draw.ok (hr.mono (by decide)) (by rfl) D_law_draw.mg D_law_draw.kp D_law_draw.b (takes_of rfl rfl rfl rfl) (pda_own (i := 1) (pv 1) (pda_cons (pd_const pe_int (fun _ => .int _)) pda_nil)))) pda_nil)) (pgd_name (i := 3) (vs := [3]) (pg_name (i := 3) sc_law.nd rfl (.inl rfl)) (by show ¬ (3 ∈ ([] : List Nat)); decide) (by decide))
      (pds_one (psd_expr (pd_methO (j := 2) (fun ho h => pe_bm PySem.F.plainAttrs_list PySem.F.slot_list_append PySem.F.type_list_append mt_append ho h) mo_append (pv 2) (pda_cons (pd_call D_law_name.ok (hr.mono (by decide)) (by rfl) D_law_name.mg D_law_name.kp D_law_name.b (takes_of rfl rfl rfl rfl) (pda_own (i := 1) (pv 1) (pda_cons (pd_addO (i := 2) (pd_lst (fun h => pe_lst h) (pda_cons (pd_const pe_str (fun _ => .str (by decide +kernel))) pda_nil)) (pv 2)) pda_nil))) pda_nil)))))
      (pds_cons (psd_setO (i := 4) (pd_lst (fun h => pe_lst h) pda_nil) (by show ¬ (4 ∈ ([] : List Nat)); decide) sc_law.nd rfl (.inl rfl))
      (pds_cons (psd_for (passes_of rfl) rfl (pid_range1 (by rfl) T.b_range (pda_cons (pd_op op_add (op2_I0 fun _ _ _ => .int _) (pd_const pe_int (fun _ => .int _)) (pd_call D_law_draw.ok (hr.mono (by decide)) (by rfl) D_law_draw.mg D_law_draw.kp D_law_draw.b (takes_of rfl rfl rfl rfl) (pda_own (i := 1) (pv 1) (pda_cons (pd_const pe_int (fun _ => .int _)) pda_nil)))) pda_nil)) (pgd_name (i := 3) (vs := [3]) (pg_name (i := 3) sc_law.nd rfl (.inl rfl)) (by show ¬ (3 ∈ ([] : List Nat)); decide) (by decide))
      (pds_one (psd_expr (pd_methO (j := 4) (fun ho h => pe_bm PySem.F.plainAttrs_list PySem.F.slot_list_append PySem.F.type_list_append mt_append ho h) mo_append (pv 4) (pda_cons (pd_call D_law_name.ok (hr.mono (by decide)) (by rfl) D_law_name.mg D_law_name.kp D_law_name.b (takes_of rfl rfl rfl rfl) (pda_own (i := 1) (pv 1) (pda_cons (pd_listO (i := 4) (fun h => pe_callTy call_list_of (by rfl) T.b_list (by decide +kernel) h) (pv 4)) pda_nil))) pda_nil)))))
      (pds_cons (psd_for (passes_of rfl) rfl (pid_range1 (by rfl) T.b_range (pda_cons (pd_const pe_int (fun _ => .int _)) pda_nil)) (pgd_name (i := 5) (vs := [5]) (pg_name (i := 5) sc_law.nd rfl (.inl rfl)) (by show ¬ (5 ∈ ([] : List Nat)); decide) (by decide))
      (pds_one (psd_if (PW.pt (pwd_or (ptd_not (ptd_val (pd_call D_law_closing.ok (hr.mono (by decide)) (by rfl) D_law_closing.mg D_law_closing.kp D_law_closing.b (takes_of rfl rfl rfl rfl) (pda_own (i := 1) (pv 1) (pda_cons (pd_fvar (i := 2) (pv 2) (by show ¬ (2 ∈ ([] : List Nat)); decide)) pda_nil))) (fun h => pt_val h))) (pwd_or1 (ptd_not (ptd_val (pd_call D_law_book.ok (hr.mono (by decide)) (by rfl) D_law_book.mg D_law_book.kp D_law_book.b (takes_of rfl rfl rfl rfl) (pda_own (i := 1) (pv 1) (pda_cons (pd_fvar (i := 4) (pv 4) (by show ¬ (4 ∈ ([] : List Nat)); decide)) pda_nil))) (fun h => pt_val h)))))) (pds_one (psd_ret (pd_const pe_bl (fun _ => .bl _)))) pds_nil)))
      (pds_one (psd_ret (pd_const pe_bl (fun _ => .bl _)))))))))), ?_⟩
  rintro as Qd Ed ⟨zs, rfl, k⟩
  refine DR.start (δ' := [some (.d (.ro (zs.map .int))), none, none, none, none, none]) rfl ?_
  with_reducible refine DR.cut (fun δ => ∃ ys, Sta ys ∧ δ = stW zs ys [none, none, none, none]) (fun N kN => ?_) ?_
  · walk_at "dd"
    refine ⟨zs, rfl, fun ys hs => ?_⟩
    walk_at "dd"
    exact kN _ ⟨ys, hs, rfl⟩
  rintro δ ⟨ys, hs, rfl⟩
  with_reducible refine DR.cut (fun δ => δ = stW zs ys [some (.own (.lst [])), none, none, none]) (fun N kN => ?_) ?_
  · walk_at "dd"
    exact kN _ rfl
  rintro δ rfl
  with_reducible refine DR.cut (fun δ => ∃ (ys : List D) (gs : List Str) (p3 : Option DV), Sta ys ∧ Goods gs ∧ δ = stW zs ys [some (.own (.lst (gs.map .str))), p3, none, none]) (fun N kN => ?_) ?_
  · walk_at "dd"
    refine draw hs (by decide) (by decide) fun r ys r0 r1 hs => ?_
    walk_at "dd"
    refine ⟨by omega, by omega, ?_⟩
    refine DR.for_inv (fun i δ => ∃ (ys : List D) (gs : List Str) (p3 : Option DV), Sta ys ∧ gs.length = i ∧ gs.Nodup ∧ (∀ g ∈ gs, Wd g ∧ g ≠ "cash") ∧ δ = stW zs ys [some (.own (.lst (gs.map .str))), p3, none, none]) ⟨ys, [], _, hs, rfl, .nil, (fun _ h => nomatch h), rfl⟩ ?stp ?fn
    case fn =>
      rintro δ ⟨ys, gs, p3, hs, hl, hn, hw, rfl⟩
      rw [upto_len] at hl
      exact kN _ ⟨ys, gs, p3, hs, goods_of hn (by omega) (by omega) hw, rfl⟩
    case stp =>
    rintro i x δ N2 hx ⟨ys, gs, p3, hs, hl, hn, hw, rfl⟩ kN2
    have hi := (List.getElem?_eq_some_iff.mp hx).1
    rw [upto_len] at hi
    walk_at "dd"
    refine DR.addO ?_
    walk_at "dd"
    refine ⟨ Nat.le_trans (show 1 + (gs.map D.str).length ≤ 20 by rw [List.length_map]; omega) (by decide), ?_⟩
    walk_at "dd"
    refine ⟨ys, "cash" :: gs, rfl, hs, (by rw [List.length_cons]; omega), (fun t ht => ?_), fun g ys hg hng hs => ?_⟩
    · rcases List.mem_cons.mp ht with rfl | ht
      · exact wd_cash
      · exact (hw t ht).1
    walk_at "dd"
    refine ⟨[_], _, rfl, rfl, _, rfl, Nat.lt_of_le_of_lt (show (gs.map D.str).length ≤ 24 by rw [List.length_map]; omega) (by decide), kN2 _ ⟨ys, gs ++ [g], _, hs, by rw [List.length_append, hl]; rfl, ?_, fun z hz => ?_, by rw [List.map_append]; rfl⟩⟩
    · exact List.nodup_append.mpr ⟨hn, (by simp), fun a ha b hb e => hng (List.mem_cons_of_mem _ (by rw [← List.mem_singleton.mp hb, ← e]; exact ha))⟩
    · rcases List.mem_append.mp hz with hz | hz
      · exact hw z hz
      · rw [List.mem_singleton.mp hz]
        exact ⟨hg, fun e => hng (by rw [e]; exact List.mem_cons_self)⟩
  rintro δ ⟨ys, gs, p3, hs, hg, rfl⟩
  with_reducible refine DR.cut (fun δ => δ = stW zs ys [some (.own (.lst (gs.map .str))), p3, some (.own (.lst [])), none]) (fun N kN => ?_) ?_
  · walk_at "dd"
    exact kN _ rfl
  rintro δ rfl
  with_reducible refine DR.cut (fun δ => ∃ (ys : List D) (ns : List Str) (p3 : Option DV), Sta ys ∧ 1 ≤ ns.length ∧ ns.length ≤ 20 ∧ (∀ x ∈ ns, Wd x) ∧ δ = stW zs ys [some (.own (.lst (gs.map .str))), p3, some (.own (.lst (ns.map .str))), none]) (fun N kN => ?_) ?_
  · walk_at "dd"
    refine draw hs (by decide) (by decide) fun r ys r0 r1 hs => ?_
    walk_at "dd"
    refine ⟨by omega, by omega, ?_⟩
    refine DR.for_inv (fun i δ => ∃ (ys : List D) (ns : List Str) (p3 : Option DV), Sta ys ∧ ns.length = i ∧ (∀ g ∈ ns, Wd g) ∧ δ = stW zs ys [some (.own (.lst (gs.map .str))), p3, some (.own (.lst (ns.map .str))), none]) ⟨ys, [], _, hs, rfl, (fun _ h => nomatch h), rfl⟩ ?stp ?fn
    case fn =>
      rintro δ ⟨ys, ns, p3, hs, hl, hw, rfl⟩
      rw [upto_len] at hl
      exact kN _ ⟨ys, ns, p3, hs, (by omega), (by omega), hw, rfl⟩
    case stp =>
    rintro i x δ N2 hx ⟨ys, ns, p3, hs, hl, hw, rfl⟩ kN2
    have hi := (List.getElem?_eq_some_iff.mp hx).1
    rw [upto_len] at hi
    walk_at "dd"
    refine DR.listO rfl ?_
    walk_at "dd"
    refine ⟨ys, ns, rfl, hs, (by omega), hw, fun g ys hg hng hs => ?_⟩
    walk_at "dd"
    refine ⟨[_], _, rfl, rfl, _, rfl, Nat.lt_of_le_of_lt (show (ns.map D.str).length ≤ 24 by rw [List.length_map]; omega) (by decide), kN2 _ ⟨ys, ns ++ [g], _, hs, by rw [List.length_append, hl]; rfl, fun z hz => ?_, by rw [List.map_append]; rfl⟩⟩
    rcases List.mem_append.mp hz with hz | hz
    · exact hw z hz
    · rw [List.mem_singleton.mp hz]; exact hg
  rintro δ ⟨ys, ns, p3, hs, n1, n20, hw, rfl⟩
  with_reducible refine DR.cut (fun δ => True) (fun N kN => ?_) ?_
  · walk_at "dd"
    refine ⟨by decide, by decide, ?_⟩
    refine DR.for_inv (fun i δ => ∃ (ys : List D) (p2 p4 : DV) (p5 : Option DV), Sta ys ∧ p2.toD = .lst (gs.map .str) ∧ p4.toD = .lst (ns.map .str) ∧ δ = stW zs ys [some p2, p3, some p4, p5]) ⟨ys, _, _, _, hs, rfl, rfl, rfl⟩ ?stp ?fn
    case fn => exact fun δ _ => kN _ True.intro
    case stp =>
    rintro i x δ N2 hx ⟨ys, p2, p4, p5, hs, e2, e4, rfl⟩ kN2
    walk_at "dd"
    refine ⟨ys, gs, by rw [e2]; rfl, hs, hg, fun ys hs => ⟨true, rfl, ?_⟩⟩
    walk_at "dd"
    refine ⟨ys, ns, by rw [e4]; rfl, hs, n1, n20, fun x hx => (hw x hx).2.1, fun ys hs => ⟨true, rfl, ?_⟩⟩
    walk_at "dd"
    exact kN2 _ ⟨ys, .d p2.toD, .d p4.toD, _, hs, e2, e4, rfl⟩
  rintro δ _
  walk_at "dd"
  exact k
end
end KT

set_option Elab.async false
set_option linter.all false
set_option maxRecDepth 100000
set_option maxHeartbeats 0
set_option pp.deepTerms false
set_option pp.deepTerms.threshold 8

namespace KT
open PySem PySem.Spec PyProof.Rows L2 DL
theorem reps_ints {K : PySem.W.Frag} {F : Hp} : ∀ {ns : List Int}, RepL K F (ns.map V.int) (ns.map D.int)
  | [] => .nil
  | _ :: _ => .cons (.int _) reps_ints
theorem law_in {K : PySem.W.Frag} {H : Hp} {a : Addr} {ns : List Int} (h : SqL K H a (ns.map V.int)) : spOf K sdLaw [.ref a] H (fun v _ => v = .bl true) fun _ _ _ => False := by
  refine ⟨H, [.d (.ro (ns.map .int))], [], fun x _ => x = .d (.bl true), fun _ _ => False, fun p u e => e, .d (.ro h reps_ints) .nil, ⟨ns, rfl, rfl⟩, fun v x os F' H' q P r => ?_, fun _ _ _ _ _ _ z => z.elim⟩
  subst q
  replace r : Rep K F' v (.bl true) := r
  cases r
  rfl
theorem cx_none {P : Program} {w : World} {H : Hp} {s s' : Shared} {e : Value} (h : L2.CX P w [] H s (fun _ _ _ => False) e s') : False := by
  obtain ⟨_, _, _, _, _, _, _, _, _, _, _, _, z⟩ := h
  exact z
theorem exm_ref {K : PySem.W.Frag} {B M : Addr} {r : Bool} (ex : PySem.W.subIn K (.ref M) (.type "BaseException") = some true) (ic : PySem.W.isClsIn K M = true) (ty : PySem.W.typeIn K (.ref M) = some (.type "type")) (s : PySem.W.subIn K (.ref B) (.ref M) = some r) : PySem.W.exmOne K (.ref B) (.ref M) = some r := by
  have ic' : (PySem.W.clsIn K M).isSome = true := ic
  unfold PySem.W.exmOne
  rw [if_pos (by rw [ex]; rfl)]
  show (if ((PySem.W.clsIn K M).isSome && PySem.W.typeIn K (.ref M) == some (.type "type")) = true then PySem.W.subIn K (.ref B) (.ref M) else none) = _
  rw [if_pos (by rw [ic', ty]; simp)]
  exact s
theorem nf_self {K : PySem.W.Frag} {C : Addr} : PySem.W.notFirst K C (.ref C) = true := by
  unfold PySem.W.notFirst
  simp
theorem kit_ty {K : PySem.W.Frag} {B : Addr} {n : String} {r : Bool} (km : PySem.W.kitMeta n = true) (s : PySem.W.subIn K (.ref B) (.type n) = some r) : PySem.W.kitOne K (.ref B) (.type n) = some r := by
  unfold PySem.W.kitOne
  rw [if_neg (by simp)]
  show (if PySem.W.kitMeta n = true then PySem.W.subIn K (.ref B) (.type n) else none) = _
  rw [if_pos km]
  exact s
theorem iter_of {K : PySem.W.Frag} {C f : Addr} {fd : FuncData} (c : Cls K C) (na : NoAttr K C "_rows") (at_ : PySem.W.findIn K (.ref C) "__iter__" = some (some (.ref f))) (fn : PySem.W.isFn K (.ref f) = true) (fu : Fun K "__iter__" "DayBook.__iter__" s_DayBook___iter f fd) (bd : Binds K fd ["self"] []) : IterOf K C f "DayBook.__iter__" "_rows" s_DayBook___iter fd where
  at_ := at_
  fn := fn
  fu := fu
  sc := sc_DayBook___iter
  bd := bd
  body := fun P w mg base A outer s G E cdv hm => ⟨_, pss_one (ps_ret (pe_callB call_iterT (by rfl) hm (by decide +kernel) (pa_cons (pe_fld (pv 0) (by rfl)) pa_nil))), fun a dx q us xs Q ha hf hq k => by
    exact ⟨_, rfl, a, C, dx, us, .ref q, rfl, ha, c, na, hf, q, xs, rfl, hq, k⟩⟩
theorem len_of {K : PySem.W.Frag} {C f : Addr} {fd : FuncData} (c : Cls K C) (na : NoAttr K C "_rows") (at_ : PySem.W.findIn K (.ref C) "__len__" = some (some (.ref f))) (fn : PySem.W.isFn K (.ref f) = true) (fu : Fun K "__len__" "DayBook.__len__" s_DayBook___len f fd) (bd : Binds K fd ["self"] []) : LenT K C f "DayBook.__len__" "_rows" s_DayBook___len fd where
  at_ := at_
  fn := fn
  fu := fu
  sc := sc_DayBook___len
  bd := bd
  body := fun P w mg base A outer s G E cdv hm => ⟨_, pss_one (ps_ret (pe_callB call_len_seq (by rfl) hm (by decide +kernel) (pa_cons (pe_fld (pv 0) (by rfl)) pa_nil))), fun a dx q us xs Q ha hf hq hl k => by
    exact ⟨_, rfl, a, C, dx, us, .ref q, rfl, ha, c, na, hf, q, xs, rfl, .inr hq, k⟩⟩
theorem vals_app {vs ws : List V} {us xs : List Value} (h : Vals vs us) (g : Vals ws xs) : Vals (vs ++ ws) (us ++ xs) := by
  induction h with
  | nil => exact g
  | cons r _ ih => exact .cons r ih
theorem kb_of {K : PySem.W.Frag} {fd : FuncData} {ps : List Str} {n : Nat} (b : Binds K fd ps []) (hn : n = ps.length) : KBn K fd ps n [] (fun us ws => us ++ ws ++ []) (fun vs zs => vs ++ zs ++ []) where
  to := fun s us ws X l1 l2 => by
    cases ws with
    | cons w ws => cases l2
    | nil =>
      have := b s us X (by rw [List.append_nil, l1, hn])
      simpa using this
  rel := fun r1 r2 => vals_app (vals_app r1 r2) .nil
theorem kit_cl {K : PySem.W.Frag} {n : String} {M : Addr} {r : Bool} (ic : PySem.W.isClsIn K M = true) (ty : PySem.W.typeIn K (.ref M) = some (.type "type")) (s : PySem.W.subIn K (.type n) (.ref M) = some r) : PySem.W.kitOne K (.type n) (.ref M) = some r := by
  have ic' : (PySem.W.clsIn K M).isSome = true := ic
  unfold PySem.W.kitOne
  rw [if_neg (by simp)]
  show (if ((PySem.W.clsIn K M).isSome && PySem.W.typeIn K (.ref M) == some (.type "type")) = true then PySem.W.subIn K (.type n) (.ref M) else none) = _
  rw [if_pos (by rw [ic', ty]; simp)]
  exact s
theorem nf_ty {K : PySem.W.Frag} {n : String} {C : Addr} (s : PySem.W.subIn K (.type n) (.ref C) = some false) : PySem.W.notFirst K C (.type n) = true := by
  unfold PySem.W.notFirst
  rw [s]
  simp
end KT

set_option Elab.async false
set_option linter.all false
set_option maxRecDepth 100000
set_option maxHeartbeats 0
set_option pp.deepTerms false
set_option pp.deepTerms.threshold 8

namespace KT
open PySem PySem.Spec PyProof.Rows L2 DL
theorem ns_ok {K : PySem.W.Frag} {N : Addr} {c : Value} {d : Option Addr} {es : Array DictEntry} {n : Nat} {sl : Array (Option Value)} (l : K.lookup N = some ⟨c, d, .dict es n, sl⟩) (q : (es.toList.all fun e => match e.key with | .str _ _ => true | _ => false) = true) : PySem.W.nsOkIn K N = true := by
  unfold PySem.W.nsOkIn
  rw [l]
  show (es.all fun e => match e.key with | .str _ _ => true | _ => false) = true
  rw [← Array.all_toList]
  exact q
theorem fn_of_ty {K : PySem.W.Frag} {f : Addr} (t : PySem.W.typeIn K (.ref f) = some (.type "function")) : ∃ of, K.lookup f = some of ∧ of.cls = .type "function" := by
  obtain ⟨o, ho, e⟩ := Option.map_eq_some_iff.mp (show (K.lookup f).map (·.cls) = some (.type "function") from t)
  exact ⟨o, ho, e⟩
theorem all_mk {l : PySem.W.OpenLaw} {w : World} {K : PySem.W.Frag} {h : Heap} {mg : Str → Option Value} {fa : Addr} (X : K.In h) (G : h.Ns mainGlobals mg) (hfa : mg "law" = some (.ref fa))
    {C f_init f_worth f_eq CL f_cinit f_ceq DB f_dinit f_of f_since f_dcash f_dlen f_iter f_deq OG NC BR NCL NDB BG NBG BP NBP f_xiBG f_xiBP f_is_name f_is_sequence f_is_integer f_is_row f_is_number_row f_checked_goods f_close_out f_as_tuples f_cc f_law_open f_law_draw f_law_name f_law_whole f_law_number f_law_refused f_law_closing f_law_happening f_law_change f_law_book f_law : Addr}  {oc_init : Value} {od_init : Option Addr} {an_init : Option Addr} {sl_init : Array (Option Value)} {kV_init : Value} {dc_init : Value} {pm_init : Value} {cd_init : Value} {ct_init : Value} {oc_worth : Value} {od_worth : Option Addr} {an_worth : Option Addr} {sl_worth : Array (Option Value)} {kV_worth : Value} {dc_worth : Value} {pm_worth : Value} {cd_worth : Value} {ct_worth : Value} {oc_eq : Value} {od_eq : Option Addr} {an_eq : Option Addr} {sl_eq : Array (Option Value)} {kV_eq : Value} {dc_eq : Value} {pm_eq : Value} {cd_eq : Value} {ct_eq : Value} {oc_cinit : Value} {od_cinit : Option Addr} {an_cinit : Option Addr} {sl_cinit : Array (Option Value)} {kV_cinit : Value} {dc_cinit : Value} {pm_cinit : Value} {cd_cinit : Value} {ct_cinit : Value} {oc_ceq : Value} {od_ceq : Option Addr} {an_ceq : Option Addr} {sl_ceq : Array (Option Value)} {kV_ceq : Value} {dc_ceq : Value} {pm_ceq : Value} {cd_ceq : Value} {ct_ceq : Value} {oc_dinit : Value} {od_dinit : Option Addr} {an_dinit : Option Addr} {sl_dinit : Array (Option Value)} {kV_dinit : Value} {dc_dinit : Value} {pm_dinit : Value} {cd_dinit : Value} {ct_dinit : Value} {oc_of : Value} {od_of : Option Addr} {an_of : Option Addr} {sl_of : Array (Option Value)} {kV_of : Value} {dc_of : Value} {pm_of : Value} {cd_of : Value} {ct_of : Value} {oc_since : Value} {od_since : Option Addr} {an_since : Option Addr} {sl_since : Array (Option Value)} {kV_since : Value} {dc_since : Value} {pm_since : Value} {cd_since : Value} {ct_since : Value} {oc_dcash : Value} {od_dcash : Option Addr} {an_dcash : Option Addr} {sl_dcash : Array (Option Value)} {kV_dcash : Value} {dc_dcash : Value} {pm_dcash : Value} {cd_dcash : Value} {ct_dcash : Value} {oc_dlen : Value} {od_dlen : Option Addr} {an_dlen : Option Addr} {sl_dlen : Array (Option Value)} {kV_dlen : Value} {dc_dlen : Value} {pm_dlen : Value} {cd_dlen : Value} {ct_dlen : Value} {oc_iter : Value} {od_iter : Option Addr} {an_iter : Option Addr} {sl_iter : Array (Option Value)} {kV_iter : Value} {dc_iter : Value} {pm_iter : Value} {cd_iter : Value} {ct_iter : Value} {oc_deq : Value} {od_deq : Option Addr} {an_deq : Option Addr} {sl_deq : Array (Option Value)} {kV_deq : Value} {dc_deq : Value} {pm_deq : Value} {cd_deq : Value} {ct_deq : Value} {nmC : Str} {qnC : Str} {bsC : List Value} {snC : List Str} {subC : List Value} {abC : Bool} {colC : Option Bool} {ddC : Option Addr} {i0C : Option Value} {i1C : Option Value} {i2C : Option Value} {i3C : Option Value} {i5C : Option Value} {hdC : Bool} {newC : String} {clN : Value} {ddN : Option Addr} {esN : Array DictEntry} {nN : Nat} {slN : Array (Option Value)} {nmCL : Str} {qnCL : Str} {bsCL : List Value} {snCL : List Str} {subCL : List Value} {abCL : Bool} {colCL : Option Bool} {ddCL : Option Addr} {i0CL : Option Value} {i1CL : Option Value} {i2CL : Option Value} {i3CL : Option Value} {i5CL : Option Value} {hdCL : Bool} {newCL : String} {zclCL : Value} {zddCL : Option Addr} {zesCL : Array DictEntry} {znCL : Nat} {zslCL : Array (Option Value)} {nmDB : Str} {qnDB : Str} {bsDB : List Value} {snDB : List Str} {subDB : List Value} {abDB : Bool} {colDB : Option Bool} {ddDB : Option Addr} {i0DB : Option Value} {i1DB : Option Value} {i2DB : Option Value} {i3DB : Option Value} {i5DB : Option Value} {hdDB : Bool} {newDB : String} {zclDB : Value} {zddDB : Option Addr} {zesDB : Array DictEntry} {znDB : Nat} {zslDB : Array (Option Value)} {nmBG : Str} {qnBG : Str} {bsBG : List Value} {bmBG : List Value} {snBG : List Str} {subBG : List Value} {abBG : Bool} {colBG : Option Bool} {ddBG : Option Addr} {i0BG : Option Value} {i1BG : Option Value} {i2BG : Option Value} {i3BG : Option Value} {i5BG : Option Value} {nmBP : Str} {qnBP : Str} {bsBP : List Value} {bmBP : List Value} {snBP : List Str} {subBP : List Value} {abBP : Bool} {colBP : Option Bool} {ddBP : Option Addr} {i0BP : Option Value} {i1BP : Option Value} {i2BP : Option Value} {i3BP : Option Value} {i5BP : Option Value} {oc_xiBG : Value} {od_xiBG : Option Addr} {an_xiBG : Option Addr} {sl_xiBG : Array (Option Value)} {kV_xiBG : Value} {dc_xiBG : Value} {pm_xiBG : Value} {cd_xiBG : Value} {ct_xiBG : Value} {oc_xiBP : Value} {od_xiBP : Option Addr} {an_xiBP : Option Addr} {sl_xiBP : Array (Option Value)} {kV_xiBP : Value} {dc_xiBP : Value} {pm_xiBP : Value} {cd_xiBP : Value} {ct_xiBP : Value} {oc_is_name : Value} {od_is_name : Option Addr} {an_is_name : Option Addr} {sl_is_name : Array (Option Value)} {kV_is_name : Value} {dc_is_name : Value} {pm_is_name : Value} {cd_is_name : Value} {ct_is_name : Value} {oc_is_sequence : Value} {od_is_sequence : Option Addr} {an_is_sequence : Option Addr} {sl_is_sequence : Array (Option Value)} {kV_is_sequence : Value} {dc_is_sequence : Value} {pm_is_sequence : Value} {cd_is_sequence : Value} {ct_is_sequence : Value} {oc_is_integer : Value} {od_is_integer : Option Addr} {an_is_integer : Option Addr} {sl_is_integer : Array (Option Value)} {kV_is_integer : Value} {dc_is_integer : Value} {pm_is_integer : Value} {cd_is_integer : Value} {ct_is_integer : Value} {oc_is_row : Value} {od_is_row : Option Addr} {an_is_row : Option Addr} {sl_is_row : Array (Option Value)} {kV_is_row : Value} {dc_is_row : Value} {pm_is_row : Value} {cd_is_row : Value} {ct_is_row : Value} {oc_is_number_row : Value} {od_is_number_row : Option Addr} {an_is_number_row : Option Addr} {sl_is_number_row : Array (Option Value)} {kV_is_number_row : Value} {dc_is_number_row : Value} {pm_is_number_row : Value} {cd_is_number_row : Value} {ct_is_number_row : Value} {oc_checked_goods : Value} {od_checked_goods : Option Addr} {an_checked_goods : Option Addr} {sl_checked_goods : Array (Option Value)} {kV_checked_goods : Value} {dc_checked_goods : Value} {pm_checked_goods : Value} {cd_checked_goods : Value} {ct_checked_goods : Value} {oc_close_out : Value} {od_close_out : Option Addr} {an_close_out : Option Addr} {sl_close_out : Array (Option Value)} {kV_close_out : Value} {dc_close_out : Value} {pm_close_out : Value} {cd_close_out : Value} {ct_close_out : Value} {oc_as_tuples : Value} {od_as_tuples : Option Addr} {an_as_tuples : Option Addr} {sl_as_tuples : Array (Option Value)} {kV_as_tuples : Value} {dc_as_tuples : Value} {pm_as_tuples : Value} {cd_as_tuples : Value} {ct_as_tuples : Value} {oc_cc : Value} {od_cc : Option Addr} {an_cc : Option Addr} {sl_cc : Array (Option Value)} {kV_cc : Value} {dc_cc : Value} {pm_cc : Value} {cd_cc : Value} {ct_cc : Value} {oc_law_open : Value} {od_law_open : Option Addr} {an_law_open : Option Addr} {sl_law_open : Array (Option Value)} {kV_law_open : Value} {dc_law_open : Value} {pm_law_open : Value} {cd_law_open : Value} {ct_law_open : Value} {oc_law_draw : Value} {od_law_draw : Option Addr} {an_law_draw : Option Addr} {sl_law_draw : Array (Option Value)} {kV_law_draw : Value} {dc_law_draw : Value} {pm_law_draw : Value} {cd_law_draw : Value} {ct_law_draw : Value} {oc_law_name : Value} {od_law_name : Option Addr} {an_law_name : Option Addr} {sl_law_name : Array (Option Value)} {kV_law_name : Value} {dc_law_name : Value} {pm_law_name : Value} {cd_law_name : Value} {ct_law_name : Value} {oc_law_whole : Value} {od_law_whole : Option Addr} {an_law_whole : Option Addr} {sl_law_whole : Array (Option Value)} {kV_law_whole : Value} {dc_law_whole : Value} {pm_law_whole : Value} {cd_law_whole : Value} {ct_law_whole : Value} {oc_law_number : Value} {od_law_number : Option Addr} {an_law_number : Option Addr} {sl_law_number : Array (Option Value)} {kV_law_number : Value} {dc_law_number : Value} {pm_law_number : Value} {cd_law_number : Value} {ct_law_number : Value} {oc_law_refused : Value} {od_law_refused : Option Addr} {an_law_refused : Option Addr} {sl_law_refused : Array (Option Value)} {kV_law_refused : Value} {dc_law_refused : Value} {pm_law_refused : Value} {cd_law_refused : Value} {ct_law_refused : Value} {oc_law_closing : Value} {od_law_closing : Option Addr} {an_law_closing : Option Addr} {sl_law_closing : Array (Option Value)} {kV_law_closing : Value} {dc_law_closing : Value} {pm_law_closing : Value} {cd_law_closing : Value} {ct_law_closing : Value} {oc_law_happening : Value} {od_law_happening : Option Addr} {an_law_happening : Option Addr} {sl_law_happening : Array (Option Value)} {kV_law_happening : Value} {dc_law_happening : Value} {pm_law_happening : Value} {cd_law_happening : Value} {ct_law_happening : Value} {oc_law_change : Value} {od_law_change : Option Addr} {an_law_change : Option Addr} {sl_law_change : Array (Option Value)} {kV_law_change : Value} {dc_law_change : Value} {pm_law_change : Value} {cd_law_change : Value} {ct_law_change : Value} {oc_law_book : Value} {od_law_book : Option Addr} {an_law_book : Option Addr} {sl_law_book : Array (Option Value)} {kV_law_book : Value} {dc_law_book : Value} {pm_law_book : Value} {cd_law_book : Value} {ct_law_book : Value} {oc_law : Value} {od_law : Option Addr} {an_law : Option Addr} {sl_law : Array (Option Value)} {kV_law : Value} {dc_law : Value} {pm_law : Value} {cd_law : Value} {ct_law : Value} {t__CASH : Nat} {t__LETTERS : Nat} {t__LONGEST_NAME : Nat} {t__MOST_GOODS : Nat}
    (c_Position : PySem.W.nsIn K mainGlobals "Position" = some (some (.ref C)))
    (pg_Position : PySem.W.plainGet K C Str.empty = true)
    (hd_Position : PySem.W.hasDictIn K C = true)
    (po_Position : PySem.W.plainOver K C = true)
    (sa_Position : PySem.W.findIn K (.ref C) "__setattr__" = some (some (.builtin "object.__setattr__")))
    (mk_Position : PySem.W.makesIn K C = true)
    (kp_Position : PySem.W.keepIn K (.ref C) = true)
    (n_Position_goods : PySem.W.findIn K (.ref C) "goods" = some none)
    (n_Position_counts : PySem.W.findIn K (.ref C) "counts" = some none)
    (n_Position__rows : PySem.W.findIn K (.ref C) "_rows" = some none)
    (a_init : PySem.W.findIn K (.ref C) "__init__" = some (some (.ref f_init)))
    (l_init : K.lookup f_init = some ⟨oc_init, od_init, .func (PySem.W.fnOf "__init__" "Position.__init__" (defArgs s_Position___init) (defBody s_Position___init) (defScope s_Position___init) .none kV_init dc_init pm_init an_init cd_init ct_init), sl_init⟩)
    (c_init : PySem.W.codeIn K cd_init "Position.__init__" = true)
    (k_init : PySem.W.keepIn K (.ref f_init) = true)
    (i_init : PySem.W.isFn K (.ref f_init) = true)
    (a_worth : PySem.W.findIn K (.ref C) "worth" = some (some (.ref f_worth)))
    (l_worth : K.lookup f_worth = some ⟨oc_worth, od_worth, .func (PySem.W.fnOf "worth" "Position.worth" (defArgs s_Position_worth) (defBody s_Position_worth) (defScope s_Position_worth) .none kV_worth dc_worth pm_worth an_worth cd_worth ct_worth), sl_worth⟩)
    (c_worth : PySem.W.codeIn K cd_worth "Position.worth" = true)
    (k_worth : PySem.W.keepIn K (.ref f_worth) = true)
    (i_worth : PySem.W.isFn K (.ref f_worth) = true)
    (a_eq : PySem.W.findIn K (.ref C) "__eq__" = some (some (.ref f_eq)))
    (l_eq : K.lookup f_eq = some ⟨oc_eq, od_eq, .func (PySem.W.fnOf "__eq__" "Position.__eq__" (defArgs s_Position___eq) (defBody s_Position___eq) (defScope s_Position___eq) .none kV_eq dc_eq pm_eq an_eq cd_eq ct_eq), sl_eq⟩)
    (c_eq : PySem.W.codeIn K cd_eq "Position.__eq__" = true)
    (k_eq : PySem.W.keepIn K (.ref f_eq) = true)
    (i_eq : PySem.W.isFn K (.ref f_eq) = true)
    (c_Closing : PySem.W.nsIn K mainGlobals "Closing" = some (some (.ref CL)))
    (pg_Closing : PySem.W.plainGet K CL Str.empty = true)
    (hd_Closing : PySem.W.hasDictIn K CL = true)
    (po_Closing : PySem.W.plainOver K CL = true)
    (sa_Closing : PySem.W.findIn K (.ref CL) "__setattr__" = some (some (.builtin "object.__setattr__")))
    (mk_Closing : PySem.W.makesIn K CL = true)
    (kp_Closing : PySem.W.keepIn K (.ref CL) = true)
    (n_Closing_worth : PySem.W.findIn K (.ref CL) "worth" = some none)
    (n_Closing_before : PySem.W.findIn K (.ref CL) "before" = some none)
    (n_Closing_paid : PySem.W.findIn K (.ref CL) "paid" = some none)
    (n_Closing_cash : PySem.W.findIn K (.ref CL) "cash" = some none)
    (a_cinit : PySem.W.findIn K (.ref CL) "__init__" = some (some (.ref f_cinit)))
    (l_cinit : K.lookup f_cinit = some ⟨oc_cinit, od_cinit, .func (PySem.W.fnOf "__init__" "Closing.__init__" (defArgs s_Closing___init) (defBody s_Closing___init) (defScope s_Closing___init) .none kV_cinit dc_cinit pm_cinit an_cinit cd_cinit ct_cinit), sl_cinit⟩)
    (c_cinit : PySem.W.codeIn K cd_cinit "Closing.__init__" = true)
    (k_cinit : PySem.W.keepIn K (.ref f_cinit) = true)
    (i_cinit : PySem.W.isFn K (.ref f_cinit) = true)
    (a_ceq : PySem.W.findIn K (.ref CL) "__eq__" = some (some (.ref f_ceq)))
    (l_ceq : K.lookup f_ceq = some ⟨oc_ceq, od_ceq, .func (PySem.W.fnOf "__eq__" "Closing.__eq__" (defArgs s_Closing___eq) (defBody s_Closing___eq) (defScope s_Closing___eq) .none kV_ceq dc_ceq pm_ceq an_ceq cd_ceq ct_ceq), sl_ceq⟩)
    (c_ceq : PySem.W.codeIn K cd_ceq "Closing.__eq__" = true)
    (k_ceq : PySem.W.keepIn K (.ref f_ceq) = true)
    (i_ceq : PySem.W.isFn K (.ref f_ceq) = true)
    (c_DayBook : PySem.W.nsIn K mainGlobals "DayBook" = some (some (.ref DB)))
    (pg_DayBook : PySem.W.plainGet K DB Str.empty = true)
    (hd_DayBook : PySem.W.hasDictIn K DB = true)
    (po_DayBook : PySem.W.plainOver K DB = true)
    (sa_DayBook : PySem.W.findIn K (.ref DB) "__setattr__" = some (some (.builtin "object.__setattr__")))
    (mk_DayBook : PySem.W.makesIn K DB = true)
    (kp_DayBook : PySem.W.keepIn K (.ref DB) = true)
    (n_DayBook__rows : PySem.W.findIn K (.ref DB) "_rows" = some none)
    (a_dinit : PySem.W.findIn K (.ref DB) "__init__" = some (some (.ref f_dinit)))
    (l_dinit : K.lookup f_dinit = some ⟨oc_dinit, od_dinit, .func (PySem.W.fnOf "__init__" "DayBook.__init__" (defArgs s_DayBook___init) (defBody s_DayBook___init) (defScope s_DayBook___init) .none kV_dinit dc_dinit pm_dinit an_dinit cd_dinit ct_dinit), sl_dinit⟩)
    (c_dinit : PySem.W.codeIn K cd_dinit "DayBook.__init__" = true)
    (k_dinit : PySem.W.keepIn K (.ref f_dinit) = true)
    (i_dinit : PySem.W.isFn K (.ref f_dinit) = true)
    (a_of : PySem.W.findIn K (.ref DB) "of" = some (some (.ref f_of)))
    (l_of : K.lookup f_of = some ⟨oc_of, od_of, .func (PySem.W.fnOf "of" "DayBook.of" (defArgs s_DayBook_of) (defBody s_DayBook_of) (defScope s_DayBook_of) .none kV_of dc_of pm_of an_of cd_of ct_of), sl_of⟩)
    (c_of : PySem.W.codeIn K cd_of "DayBook.of" = true)
    (k_of : PySem.W.keepIn K (.ref f_of) = true)
    (i_of : PySem.W.isFn K (.ref f_of) = true)
    (a_since : PySem.W.findIn K (.ref DB) "since" = some (some (.ref f_since)))
    (l_since : K.lookup f_since = some ⟨oc_since, od_since, .func (PySem.W.fnOf "since" "DayBook.since" (defArgs s_DayBook_since) (defBody s_DayBook_since) (defScope s_DayBook_since) .none kV_since dc_since pm_since an_since cd_since ct_since), sl_since⟩)
    (c_since : PySem.W.codeIn K cd_since "DayBook.since" = true)
    (k_since : PySem.W.keepIn K (.ref f_since) = true)
    (i_since : PySem.W.isFn K (.ref f_since) = true)
    (a_dcash : PySem.W.findIn K (.ref DB) "cash_change" = some (some (.ref f_dcash)))
    (l_dcash : K.lookup f_dcash = some ⟨oc_dcash, od_dcash, .func (PySem.W.fnOf "cash_change" "DayBook.cash_change" (defArgs s_DayBook_cash_change) (defBody s_DayBook_cash_change) (defScope s_DayBook_cash_change) .none kV_dcash dc_dcash pm_dcash an_dcash cd_dcash ct_dcash), sl_dcash⟩)
    (c_dcash : PySem.W.codeIn K cd_dcash "DayBook.cash_change" = true)
    (k_dcash : PySem.W.keepIn K (.ref f_dcash) = true)
    (i_dcash : PySem.W.isFn K (.ref f_dcash) = true)
    (a_dlen : PySem.W.findIn K (.ref DB) "__len__" = some (some (.ref f_dlen)))
    (l_dlen : K.lookup f_dlen = some ⟨oc_dlen, od_dlen, .func (PySem.W.fnOf "__len__" "DayBook.__len__" (defArgs s_DayBook___len) (defBody s_DayBook___len) (defScope s_DayBook___len) .none kV_dlen dc_dlen pm_dlen an_dlen cd_dlen ct_dlen), sl_dlen⟩)
    (c_dlen : PySem.W.codeIn K cd_dlen "DayBook.__len__" = true)
    (k_dlen : PySem.W.keepIn K (.ref f_dlen) = true)
    (i_dlen : PySem.W.isFn K (.ref f_dlen) = true)
    (a_iter : PySem.W.findIn K (.ref DB) "__iter__" = some (some (.ref f_iter)))
    (l_iter : K.lookup f_iter = some ⟨oc_iter, od_iter, .func (PySem.W.fnOf "__iter__" "DayBook.__iter__" (defArgs s_DayBook___iter) (defBody s_DayBook___iter) (defScope s_DayBook___iter) .none kV_iter dc_iter pm_iter an_iter cd_iter ct_iter), sl_iter⟩)
    (c_iter : PySem.W.codeIn K cd_iter "DayBook.__iter__" = true)
    (k_iter : PySem.W.keepIn K (.ref f_iter) = true)
    (i_iter : PySem.W.isFn K (.ref f_iter) = true)
    (a_deq : PySem.W.findIn K (.ref DB) "__eq__" = some (some (.ref f_deq)))
    (l_deq : K.lookup f_deq = some ⟨oc_deq, od_deq, .func (PySem.W.fnOf "__eq__" "DayBook.__eq__" (defArgs s_DayBook___eq) (defBody s_DayBook___eq) (defScope s_DayBook___eq) .none kV_deq dc_deq pm_deq an_deq cd_deq ct_deq), sl_deq⟩)
    (c_deq : PySem.W.codeIn K cd_deq "DayBook.__eq__" = true)
    (k_deq : PySem.W.keepIn K (.ref f_deq) = true)
    (i_deq : PySem.W.isFn K (.ref f_deq) = true)
    (rd_C : PySem.W.readsIn K C (.type "type") = true)
    (gb_C : PySem.W.specialIn K (.ref C) "__getattribute__" = some (some (.builtin "type.__getattribute__")))
    (ca_C : PySem.W.findIn K (.ref C) "__class__" = some (some (.builtin "object.__class__")))
    (cn_C : PySem.W.specialIn K (.builtin "object.__class__") "__get__" = some (some (.builtin "getset_descriptor.__get__")))
    (ct_C : PySem.W.takesIn K (.builtin "object.__class__") = some true)
    (cm_C : PySem.W.mroIn K C (.type "object") = some true)
    (l_C : K.lookup C = some (excClassObj nmC qnC C NC bsC [.type "object"] hdC snC subC abC colC ddC i0C i1C i2C i3C i5C newC))
    (l_NC : K.lookup NC = some ⟨clN, ddN, .dict esN nN, slN⟩)
    (q_NC : (esN.toList.all fun e => match e.key with | .str _ _ => true | _ => false) = true)
    (e_NC : PySem.W.nsIn K NC "__eq__" = some (some (.ref f_eq)))
    (m_NC : PySem.W.nsIn K NC "__ne__" = some none)
    (ty_eq : PySem.W.typeIn K (.ref f_eq) = some (.type "function"))
    (c_OtherGoods : PySem.W.nsIn K mainGlobals "OtherGoods" = some (some (.ref OG)))
    (xn_B : PySem.W.excIn K OG [.type "ValueError", .type "Exception", .type "BaseException", .type "object"] "ValueError.__new__" = true)
    (ex_B : PySem.W.subIn K (.ref OG) (.type "BaseException") = some true)
    (ty_B : PySem.W.typeIn K (.ref OG) = some (.type "type"))
    (kp_B : PySem.W.keepIn K (.ref OG) = true)
    (ic_C : PySem.W.isClsIn K C = true)
    (ty_C : PySem.W.typeIn K (.ref C) = some (.type "type"))
    (sl_C : PySem.W.subIn K (.type "list") (.ref C) = some false)
    (st_C : PySem.W.subIn K (.type "tuple") (.ref C) = some false)
    (si_C : PySem.W.subIn K (.type "int") (.ref C) = some false)
    (sn_C : PySem.W.subIn K (.type "NoneType") (.ref C) = some false)
    (c_BadPrices : PySem.W.nsIn K mainGlobals "BadPrices" = some (some (.ref BR)))
    (xn_R : PySem.W.excIn K BR [.type "ValueError", .type "Exception", .type "BaseException", .type "object"] "ValueError.__new__" = true)
    (ex_R : PySem.W.subIn K (.ref BR) (.type "BaseException") = some true)
    (ty_R : PySem.W.typeIn K (.ref BR) = some (.type "type"))
    (kp_R : PySem.W.keepIn K (.ref BR) = true)
    (ga_R : PySem.W.findIn K (.ref BR) "__getattribute__" = some (some (.builtin "BaseException.__getattribute__")))
    (gg_R : PySem.W.findIn K (.ref BR) "__getattr__" = some none)
    (hd_R : PySem.W.hasDictIn K BR = true)
    (ca_R : PySem.W.findIn K (.ref BR) "__class__" = some (some (.builtin "object.__class__")))
    (cm_R : PySem.W.mroIn K BR (.type "object") = some true)
    (ic_R : PySem.W.isClsIn K BR = true)
    (sb_R : PySem.W.subIn K (.ref BR) (.ref BR) = some true)
    (sv_R : PySem.W.subIn K (.ref BR) (.type "ValueError") = some true)
    (ca_CL : PySem.W.findIn K (.ref CL) "__class__" = some (some (.builtin "object.__class__")))
    (cm_CL : PySem.W.mroIn K CL (.type "object") = some true)
    (l_CL : K.lookup CL = some (excClassObj nmCL qnCL CL NCL bsCL [.type "object"] hdCL snCL subCL abCL colCL ddCL i0CL i1CL i2CL i3CL i5CL newCL))
    (l_NCL : K.lookup NCL = some ⟨zclCL, zddCL, .dict zesCL znCL, zslCL⟩)
    (q_NCL : (zesCL.toList.all fun e => match e.key with | .str _ _ => true | _ => false) = true)
    (e_NCL : PySem.W.nsIn K NCL "__eq__" = some (some (.ref f_ceq)))
    (m_NCL : PySem.W.nsIn K NCL "__ne__" = some none)
    (ty_ceq : PySem.W.typeIn K (.ref f_ceq) = some (.type "function"))
    (ic_CL : PySem.W.isClsIn K CL = true)
    (ty_CL : PySem.W.typeIn K (.ref CL) = some (.type "type"))
    (st_CL : PySem.W.subIn K (.type "tuple") (.ref CL) = some false)
    (ca_DB : PySem.W.findIn K (.ref DB) "__class__" = some (some (.builtin "object.__class__")))
    (cm_DB : PySem.W.mroIn K DB (.type "object") = some true)
    (l_DB : K.lookup DB = some (excClassObj nmDB qnDB DB NDB bsDB [.type "object"] hdDB snDB subDB abDB colDB ddDB i0DB i1DB i2DB i3DB i5DB newDB))
    (l_NDB : K.lookup NDB = some ⟨zclDB, zddDB, .dict zesDB znDB, zslDB⟩)
    (q_NDB : (zesDB.toList.all fun e => match e.key with | .str _ _ => true | _ => false) = true)
    (e_NDB : PySem.W.nsIn K NDB "__eq__" = some (some (.ref f_deq)))
    (m_NDB : PySem.W.nsIn K NDB "__ne__" = some none)
    (ty_deq : PySem.W.typeIn K (.ref f_deq) = some (.type "function"))
    (ic_DB : PySem.W.isClsIn K DB = true)
    (ty_DB : PySem.W.typeIn K (.ref DB) = some (.type "type"))
    (sl_DB : PySem.W.subIn K (.type "list") (.ref DB) = some false)
    (c_BadGoods : PySem.W.nsIn K mainGlobals "BadGoods" = some (some (.ref BG)))
    (l_BG : K.lookup BG = some (excClassObj nmBG qnBG BG NBG bsBG bmBG true snBG subBG abBG colBG ddBG i0BG i1BG i2BG i3BG i5BG "ValueError.__new__"))
    (h_BG : PySem.HandSPX.refsVE bmBG = true)
    (sa_BG : PySem.W.findIn K (.ref BG) "__setattr__" = some (some (.builtin "object.__setattr__")))
    (ex_BG : PySem.W.subIn K (.ref BG) (.type "BaseException") = some true)
    (ty_BG : PySem.W.typeIn K (.ref BG) = some (.type "type"))
    (kp_BG : PySem.W.keepIn K (.ref BG) = true)
    (ga_BG : PySem.W.findIn K (.ref BG) "__getattribute__" = some (some (.builtin "BaseException.__getattribute__")))
    (gg_BG : PySem.W.findIn K (.ref BG) "__getattr__" = some none)
    (hd_BG : PySem.W.hasDictIn K BG = true)
    (ic_BG : PySem.W.isClsIn K BG = true)
    (sb_BG : PySem.W.subIn K (.ref BG) (.ref BG) = some true)
    (nw_BG_what : PySem.W.findIn K (.ref BG) "what" = some none)
    (a_xiBG : PySem.W.findIn K (.ref BG) "__init__" = some (some (.ref f_xiBG)))
    (l_xiBG : K.lookup f_xiBG = some ⟨oc_xiBG, od_xiBG, .func (PySem.W.fnOf "__init__" "BadGoods.__init__" (defArgs s_BadGoods___init) (defBody s_BadGoods___init) (defScope s_BadGoods___init) .none kV_xiBG dc_xiBG pm_xiBG an_xiBG cd_xiBG ct_xiBG), sl_xiBG⟩)
    (c_xiBG : PySem.W.codeIn K cd_xiBG "BadGoods.__init__" = true)
    (k_xiBG : PySem.W.keepIn K (.ref f_xiBG) = true)
    (ty_xiBG : PySem.W.typeIn K (.ref f_xiBG) = some (.type "function"))
    (c_BadPosition : PySem.W.nsIn K mainGlobals "BadPosition" = some (some (.ref BP)))
    (l_BP : K.lookup BP = some (excClassObj nmBP qnBP BP NBP bsBP bmBP true snBP subBP abBP colBP ddBP i0BP i1BP i2BP i3BP i5BP "ValueError.__new__"))
    (h_BP : PySem.HandSPX.refsVE bmBP = true)
    (sa_BP : PySem.W.findIn K (.ref BP) "__setattr__" = some (some (.builtin "object.__setattr__")))
    (ex_BP : PySem.W.subIn K (.ref BP) (.type "BaseException") = some true)
    (ty_BP : PySem.W.typeIn K (.ref BP) = some (.type "type"))
    (kp_BP : PySem.W.keepIn K (.ref BP) = true)
    (ga_BP : PySem.W.findIn K (.ref BP) "__getattribute__" = some (some (.builtin "BaseException.__getattribute__")))
    (gg_BP : PySem.W.findIn K (.ref BP) "__getattr__" = some none)
    (hd_BP : PySem.W.hasDictIn K BP = true)
    (ic_BP : PySem.W.isClsIn K BP = true)
    (sb_BP : PySem.W.subIn K (.ref BP) (.ref BP) = some true)
    (nw_BP_what : PySem.W.findIn K (.ref BP) "what" = some none)
    (a_xiBP : PySem.W.findIn K (.ref BP) "__init__" = some (some (.ref f_xiBP)))
    (l_xiBP : K.lookup f_xiBP = some ⟨oc_xiBP, od_xiBP, .func (PySem.W.fnOf "__init__" "BadPosition.__init__" (defArgs s_BadPosition___init) (defBody s_BadPosition___init) (defScope s_BadPosition___init) .none kV_xiBP dc_xiBP pm_xiBP an_xiBP cd_xiBP ct_xiBP), sl_xiBP⟩)
    (c_xiBP : PySem.W.codeIn K cd_xiBP "BadPosition.__init__" = true)
    (k_xiBP : PySem.W.keepIn K (.ref f_xiBP) = true)
    (ty_xiBP : PySem.W.typeIn K (.ref f_xiBP) = some (.type "function"))
    (a_is_name : PySem.W.nsIn K mainGlobals "is_name" = some (some (.ref f_is_name)))
    (l_is_name : K.lookup f_is_name = some ⟨oc_is_name, od_is_name, .func (PySem.W.fnOf "is_name" "is_name" (defArgs s_is_name) (defBody s_is_name) (defScope s_is_name) .none kV_is_name dc_is_name pm_is_name an_is_name cd_is_name ct_is_name), sl_is_name⟩)
    (c_is_name : PySem.W.codeIn K cd_is_name "is_name" = true)
    (k_is_name : PySem.W.keepIn K (.ref f_is_name) = true)
    (a_is_sequence : PySem.W.nsIn K mainGlobals "is_sequence" = some (some (.ref f_is_sequence)))
    (l_is_sequence : K.lookup f_is_sequence = some ⟨oc_is_sequence, od_is_sequence, .func (PySem.W.fnOf "is_sequence" "is_sequence" (defArgs s_is_sequence) (defBody s_is_sequence) (defScope s_is_sequence) .none kV_is_sequence dc_is_sequence pm_is_sequence an_is_sequence cd_is_sequence ct_is_sequence), sl_is_sequence⟩)
    (c_is_sequence : PySem.W.codeIn K cd_is_sequence "is_sequence" = true)
    (k_is_sequence : PySem.W.keepIn K (.ref f_is_sequence) = true)
    (a_is_integer : PySem.W.nsIn K mainGlobals "is_integer" = some (some (.ref f_is_integer)))
    (l_is_integer : K.lookup f_is_integer = some ⟨oc_is_integer, od_is_integer, .func (PySem.W.fnOf "is_integer" "is_integer" (defArgs s_is_integer) (defBody s_is_integer) (defScope s_is_integer) .none kV_is_integer dc_is_integer pm_is_integer an_is_integer cd_is_integer ct_is_integer), sl_is_integer⟩)
    (c_is_integer : PySem.W.codeIn K cd_is_integer "is_integer" = true)
    (k_is_integer : PySem.W.keepIn K (.ref f_is_integer) = true)
    (a_is_row : PySem.W.nsIn K mainGlobals "is_row" = some (some (.ref f_is_row)))
    (l_is_row : K.lookup f_is_row = some ⟨oc_is_row, od_is_row, .func (PySem.W.fnOf "is_row" "is_row" (defArgs s_is_row) (defBody s_is_row) (defScope s_is_row) .none kV_is_row dc_is_row pm_is_row an_is_row cd_is_row ct_is_row), sl_is_row⟩)
    (c_is_row : PySem.W.codeIn K cd_is_row "is_row" = true)
    (k_is_row : PySem.W.keepIn K (.ref f_is_row) = true)
    (a_is_number_row : PySem.W.nsIn K mainGlobals "is_number_row" = some (some (.ref f_is_number_row)))
    (l_is_number_row : K.lookup f_is_number_row = some ⟨oc_is_number_row, od_is_number_row, .func (PySem.W.fnOf "is_number_row" "is_number_row" (defArgs s_is_number_row) (defBody s_is_number_row) (defScope s_is_number_row) .none kV_is_number_row dc_is_number_row pm_is_number_row an_is_number_row cd_is_number_row ct_is_number_row), sl_is_number_row⟩)
    (c_is_number_row : PySem.W.codeIn K cd_is_number_row "is_number_row" = true)
    (k_is_number_row : PySem.W.keepIn K (.ref f_is_number_row) = true)
    (a_checked_goods : PySem.W.nsIn K mainGlobals "checked_goods" = some (some (.ref f_checked_goods)))
    (l_checked_goods : K.lookup f_checked_goods = some ⟨oc_checked_goods, od_checked_goods, .func (PySem.W.fnOf "checked_goods" "checked_goods" (defArgs s_checked_goods) (defBody s_checked_goods) (defScope s_checked_goods) .none kV_checked_goods dc_checked_goods pm_checked_goods an_checked_goods cd_checked_goods ct_checked_goods), sl_checked_goods⟩)
    (c_checked_goods : PySem.W.codeIn K cd_checked_goods "checked_goods" = true)
    (k_checked_goods : PySem.W.keepIn K (.ref f_checked_goods) = true)
    (a_close_out : PySem.W.nsIn K mainGlobals "close_out" = some (some (.ref f_close_out)))
    (l_close_out : K.lookup f_close_out = some ⟨oc_close_out, od_close_out, .func (PySem.W.fnOf "close_out" "close_out" (defArgs s_close_out) (defBody s_close_out) (defScope s_close_out) .none kV_close_out dc_close_out pm_close_out an_close_out cd_close_out ct_close_out), sl_close_out⟩)
    (c_close_out : PySem.W.codeIn K cd_close_out "close_out" = true)
    (k_close_out : PySem.W.keepIn K (.ref f_close_out) = true)
    (a_as_tuples : PySem.W.nsIn K mainGlobals "as_tuples" = some (some (.ref f_as_tuples)))
    (l_as_tuples : K.lookup f_as_tuples = some ⟨oc_as_tuples, od_as_tuples, .func (PySem.W.fnOf "as_tuples" "as_tuples" (defArgs s_as_tuples) (defBody s_as_tuples) (defScope s_as_tuples) .none kV_as_tuples dc_as_tuples pm_as_tuples an_as_tuples cd_as_tuples ct_as_tuples), sl_as_tuples⟩)
    (c_as_tuples : PySem.W.codeIn K cd_as_tuples "as_tuples" = true)
    (k_as_tuples : PySem.W.keepIn K (.ref f_as_tuples) = true)
    (a_cc : PySem.W.nsIn K mainGlobals "_cash_change" = some (some (.ref f_cc)))
    (l_cc : K.lookup f_cc = some ⟨oc_cc, od_cc, .func (PySem.W.fnOf "_cash_change" "_cash_change" (defArgs s_cash_change) (defBody s_cash_change) (defScope s_cash_change) .none kV_cc dc_cc pm_cc an_cc cd_cc ct_cc), sl_cc⟩)
    (c_cc : PySem.W.codeIn K cd_cc "_cash_change" = true)
    (k_cc : PySem.W.keepIn K (.ref f_cc) = true)
    (a_law_open : PySem.W.nsIn K mainGlobals "_law_open" = some (some (.ref f_law_open)))
    (l_law_open : K.lookup f_law_open = some ⟨oc_law_open, od_law_open, .func (PySem.W.fnOf "_law_open" "_law_open" (defArgs s_law_open) (defBody s_law_open) (defScope s_law_open) .none kV_law_open dc_law_open pm_law_open an_law_open cd_law_open ct_law_open), sl_law_open⟩)
    (c_law_open : PySem.W.codeIn K cd_law_open "_law_open" = true)
    (k_law_open : PySem.W.keepIn K (.ref f_law_open) = true)
    (a_law_draw : PySem.W.nsIn K mainGlobals "_law_draw" = some (some (.ref f_law_draw)))
    (l_law_draw : K.lookup f_law_draw = some ⟨oc_law_draw, od_law_draw, .func (PySem.W.fnOf "_law_draw" "_law_draw" (defArgs s_law_draw) (defBody s_law_draw) (defScope s_law_draw) .none kV_law_draw dc_law_draw pm_law_draw an_law_draw cd_law_draw ct_law_draw), sl_law_draw⟩)
    (c_law_draw : PySem.W.codeIn K cd_law_draw "_law_draw" = true)
    (k_law_draw : PySem.W.keepIn K (.ref f_law_draw) = true)
    (a_law_name : PySem.W.nsIn K mainGlobals "_law_name" = some (some (.ref f_law_name)))
    (l_law_name : K.lookup f_law_name = some ⟨oc_law_name, od_law_name, .func (PySem.W.fnOf "_law_name" "_law_name" (defArgs s_law_name) (defBody s_law_name) (defScope s_law_name) .none kV_law_name dc_law_name pm_law_name an_law_name cd_law_name ct_law_name), sl_law_name⟩)
    (c_law_name : PySem.W.codeIn K cd_law_name "_law_name" = true)
    (k_law_name : PySem.W.keepIn K (.ref f_law_name) = true)
    (a_law_whole : PySem.W.nsIn K mainGlobals "_law_whole" = some (some (.ref f_law_whole)))
    (l_law_whole : K.lookup f_law_whole = some ⟨oc_law_whole, od_law_whole, .func (PySem.W.fnOf "_law_whole" "_law_whole" (defArgs s_law_whole) (defBody s_law_whole) (defScope s_law_whole) .none kV_law_whole dc_law_whole pm_law_whole an_law_whole cd_law_whole ct_law_whole), sl_law_whole⟩)
    (c_law_whole : PySem.W.codeIn K cd_law_whole "_law_whole" = true)
    (k_law_whole : PySem.W.keepIn K (.ref f_law_whole) = true)
    (a_law_number : PySem.W.nsIn K mainGlobals "_law_number" = some (some (.ref f_law_number)))
    (l_law_number : K.lookup f_law_number = some ⟨oc_law_number, od_law_number, .func (PySem.W.fnOf "_law_number" "_law_number" (defArgs s_law_number) (defBody s_law_number) (defScope s_law_number) .none kV_law_number dc_law_number pm_law_number an_law_number cd_law_number ct_law_number), sl_law_number⟩)
    (c_law_number : PySem.W.codeIn K cd_law_number "_law_number" = true)
    (k_law_number : PySem.W.keepIn K (.ref f_law_number) = true)
    (a_law_refused : PySem.W.nsIn K mainGlobals "_law_refused" = some (some (.ref f_law_refused)))
    (l_law_refused : K.lookup f_law_refused = some ⟨oc_law_refused, od_law_refused, .func (PySem.W.fnOf "_law_refused" "_law_refused" (defArgs s_law_refused) (defBody s_law_refused) (defScope s_law_refused) .none kV_law_refused dc_law_refused pm_law_refused an_law_refused cd_law_refused ct_law_refused), sl_law_refused⟩)
    (c_law_refused : PySem.W.codeIn K cd_law_refused "_law_refused" = true)
    (k_law_refused : PySem.W.keepIn K (.ref f_law_refused) = true)
    (a_law_closing : PySem.W.nsIn K mainGlobals "_law_closing" = some (some (.ref f_law_closing)))
    (l_law_closing : K.lookup f_law_closing = some ⟨oc_law_closing, od_law_closing, .func (PySem.W.fnOf "_law_closing" "_law_closing" (defArgs s_law_closing) (defBody s_law_closing) (defScope s_law_closing) .none kV_law_closing dc_law_closing pm_law_closing an_law_closing cd_law_closing ct_law_closing), sl_law_closing⟩)
    (c_law_closing : PySem.W.codeIn K cd_law_closing "_law_closing" = true)
    (k_law_closing : PySem.W.keepIn K (.ref f_law_closing) = true)
    (a_law_happening : PySem.W.nsIn K mainGlobals "_law_happening" = some (some (.ref f_law_happening)))
    (l_law_happening : K.lookup f_law_happening = some ⟨oc_law_happening, od_law_happening, .func (PySem.W.fnOf "_law_happening" "_law_happening" (defArgs s_law_happening) (defBody s_law_happening) (defScope s_law_happening) .none kV_law_happening dc_law_happening pm_law_happening an_law_happening cd_law_happening ct_law_happening), sl_law_happening⟩)
    (c_law_happening : PySem.W.codeIn K cd_law_happening "_law_happening" = true)
    (k_law_happening : PySem.W.keepIn K (.ref f_law_happening) = true)
    (a_law_change : PySem.W.nsIn K mainGlobals "_law_change" = some (some (.ref f_law_change)))
    (l_law_change : K.lookup f_law_change = some ⟨oc_law_change, od_law_change, .func (PySem.W.fnOf "_law_change" "_law_change" (defArgs s_law_change) (defBody s_law_change) (defScope s_law_change) .none kV_law_change dc_law_change pm_law_change an_law_change cd_law_change ct_law_change), sl_law_change⟩)
    (c_law_change : PySem.W.codeIn K cd_law_change "_law_change" = true)
    (k_law_change : PySem.W.keepIn K (.ref f_law_change) = true)
    (a_law_book : PySem.W.nsIn K mainGlobals "_law_book" = some (some (.ref f_law_book)))
    (l_law_book : K.lookup f_law_book = some ⟨oc_law_book, od_law_book, .func (PySem.W.fnOf "_law_book" "_law_book" (defArgs s_law_book) (defBody s_law_book) (defScope s_law_book) .none kV_law_book dc_law_book pm_law_book an_law_book cd_law_book ct_law_book), sl_law_book⟩)
    (c_law_book : PySem.W.codeIn K cd_law_book "_law_book" = true)
    (k_law_book : PySem.W.keepIn K (.ref f_law_book) = true)
    (a_law : PySem.W.nsIn K mainGlobals "law" = some (some (.ref f_law)))
    (l_law : K.lookup f_law = some ⟨oc_law, od_law, .func (PySem.W.fnOf "law" "law" (defArgs s_law) (defBody s_law) (defScope s_law) .none kV_law dc_law pm_law an_law cd_law ct_law), sl_law⟩)
    (c_law : PySem.W.codeIn K cd_law "law" = true)
    (k_law : PySem.W.keepIn K (.ref f_law) = true)
    (g__CASH : PySem.W.nsIn K mainGlobals "_CASH" = some (some (.str "cash" t__CASH)))
    (g__LETTERS : PySem.W.nsIn K mainGlobals "_LETTERS" = some (some (.str "abcdefghijklmnopqrstuvwxyz" t__LETTERS)))
    (g__LONGEST_NAME : PySem.W.nsIn K mainGlobals "_LONGEST_NAME" = some (some (.int 12 t__LONGEST_NAME)))
    (g__MOST_GOODS : PySem.W.nsIn K mainGlobals "_MOST_GOODS" = some (some (.int 5 t__MOST_GOODS)))
    (z_int : PySem.W.nsIn K mainGlobals "int" = some none)
    (z_abs : PySem.W.nsIn K mainGlobals "abs" = some none)
    (z_len : PySem.W.nsIn K mainGlobals "len" = some none)
    (z_range : PySem.W.nsIn K mainGlobals "range" = some none)
    (z_min : PySem.W.nsIn K mainGlobals "min" = some none)
    (z_isinstance : PySem.W.nsIn K mainGlobals "isinstance" = some none)
    (z_all : PySem.W.nsIn K mainGlobals "all" = some none)
    (z_str : PySem.W.nsIn K mainGlobals "str" = some none)
    (z_bool : PySem.W.nsIn K mainGlobals "bool" = some none)
    (z_list : PySem.W.nsIn K mainGlobals "list" = some none)
    (z_tuple : PySem.W.nsIn K mainGlobals "tuple" = some none)
    (z_set : PySem.W.nsIn K mainGlobals "set" = some none)
    (z_enumerate : PySem.W.nsIn K mainGlobals "enumerate" = some none)
    (z_iter : PySem.W.nsIn K mainGlobals "iter" = some none)
    (z_zip : PySem.W.nsIn K mainGlobals "zip" = some none)
    (z_max : PySem.W.nsIn K mainGlobals "max" = some none)
    (z_sum : PySem.W.nsIn K mainGlobals "sum" = some none)
    (z_any : PySem.W.nsIn K mainGlobals "any" = some none)
    (z_ValueError : PySem.W.nsIn K mainGlobals "ValueError" = some none)
    (z_repr : PySem.W.nsIn K mainGlobals "repr" = some none)
    : ∃ fd : FuncData, (∀ (s : Shared) (v : Value), BindsTo s fd ⟨[v], []⟩ [("script", v)]) ∧ ∀ base : Heap, K.In base → base.Ns mainGlobals mg → FnOk l.prog w K mg base (L2.CX l.prog w) 15 fa fd ["script"] (spOf K sdLaw) := by
  have e := hfa.symm.trans (PySem.W.mg_of X G a_law)
  cases e
  have F_init := fun_mk (st := s_Position___init) l_init c_init k_init
  have F_worth := fun_mk (st := s_Position_worth) l_worth c_worth k_worth
  have F_eq := fun_mk (st := s_Position___eq) l_eq c_eq k_eq
  have F_cinit := fun_mk (st := s_Closing___init) l_cinit c_cinit k_cinit
  have F_ceq := fun_mk (st := s_Closing___eq) l_ceq c_ceq k_ceq
  have F_dinit := fun_mk (st := s_DayBook___init) l_dinit c_dinit k_dinit
  have F_of := fun_mk (st := s_DayBook_of) l_of c_of k_of
  have F_since := fun_mk (st := s_DayBook_since) l_since c_since k_since
  have F_dcash := fun_mk (st := s_DayBook_cash_change) l_dcash c_dcash k_dcash
  have F_dlen := fun_mk (st := s_DayBook___len) l_dlen c_dlen k_dlen
  have F_iter := fun_mk (st := s_DayBook___iter) l_iter c_iter k_iter
  have F_deq := fun_mk (st := s_DayBook___eq) l_deq c_deq k_deq
  have F_xiBG := fun_mk (st := s_BadGoods___init) l_xiBG c_xiBG k_xiBG
  have F_xiBP := fun_mk (st := s_BadPosition___init) l_xiBP c_xiBP k_xiBP
  have F_is_name := fun_mk (st := s_is_name) l_is_name c_is_name k_is_name
  have F_is_sequence := fun_mk (st := s_is_sequence) l_is_sequence c_is_sequence k_is_sequence
  have F_is_integer := fun_mk (st := s_is_integer) l_is_integer c_is_integer k_is_integer
  have F_is_row := fun_mk (st := s_is_row) l_is_row c_is_row k_is_row
  have F_is_number_row := fun_mk (st := s_is_number_row) l_is_number_row c_is_number_row k_is_number_row
  have F_checked_goods := fun_mk (st := s_checked_goods) l_checked_goods c_checked_goods k_checked_goods
  have F_close_out := fun_mk (st := s_close_out) l_close_out c_close_out k_close_out
  have F_as_tuples := fun_mk (st := s_as_tuples) l_as_tuples c_as_tuples k_as_tuples
  have F_cc := fun_mk (st := s_cash_change) l_cc c_cc k_cc
  have F_law_open := fun_mk (st := s_law_open) l_law_open c_law_open k_law_open
  have F_law_draw := fun_mk (st := s_law_draw) l_law_draw c_law_draw k_law_draw
  have F_law_name := fun_mk (st := s_law_name) l_law_name c_law_name k_law_name
  have F_law_whole := fun_mk (st := s_law_whole) l_law_whole c_law_whole k_law_whole
  have F_law_number := fun_mk (st := s_law_number) l_law_number c_law_number k_law_number
  have F_law_refused := fun_mk (st := s_law_refused) l_law_refused c_law_refused k_law_refused
  have F_law_closing := fun_mk (st := s_law_closing) l_law_closing c_law_closing k_law_closing
  have F_law_happening := fun_mk (st := s_law_happening) l_law_happening c_law_happening k_law_happening
  have F_law_change := fun_mk (st := s_law_change) l_law_change c_law_change k_law_change
  have F_law_book := fun_mk (st := s_law_book) l_law_book c_law_book k_law_book
  have F_law := fun_mk (st := s_law) l_law c_law k_law
  have b_is_name := F_is_name.binds (ps := ["thing"]) fun _ _ _ _ _ _ us hl => match us, hl with | [_], _ => rfl
  have b_is_sequence := F_is_sequence.binds (ps := ["thing"]) fun _ _ _ _ _ _ us hl => match us, hl with | [_], _ => rfl
  have b_is_integer := F_is_integer.binds (ps := ["thing"]) fun _ _ _ _ _ _ us hl => match us, hl with | [_], _ => rfl
  have b_is_row := F_is_row.binds (ps := ["thing", "length"]) fun _ _ _ _ _ _ us hl => match us, hl with | [_, _], _ => rfl
  have b_is_number_row := F_is_number_row.binds (ps := ["thing", "length"]) fun _ _ _ _ _ _ us hl => match us, hl with | [_, _], _ => rfl
  have b_checked_goods := F_checked_goods.binds (ps := ["goods"]) fun _ _ _ _ _ _ us hl => match us, hl with | [_], _ => rfl
  have b_close_out := F_close_out.binds (ps := ["cash", "position", "prices"]) fun _ _ _ _ _ _ us hl => match us, hl with | [_, _, _], _ => rfl
  have b_as_tuples := F_as_tuples.binds (ps := ["thing"]) fun _ _ _ _ _ _ us hl => match us, hl with | [_], _ => rfl
  have b_cc := F_cc.binds (ps := ["happening", "member"]) fun _ _ _ _ _ _ us hl => match us, hl with | [_, _], _ => rfl
  have b_init := F_init.binds (ps := ["self", "goods", "counts"]) fun _ _ _ _ _ _ us hl => match us, hl with | [_, _, _], _ => rfl
  have b_worth := F_worth.binds (ps := ["self", "prices"]) fun _ _ _ _ _ _ us hl => match us, hl with | [_, _], _ => rfl
  have b_eq := F_eq.binds (ps := ["self", "other"]) fun _ _ _ _ _ _ us hl => match us, hl with | [_, _], _ => rfl
  have b_cinit := F_cinit.binds (ps := ["self", "worth", "before", "paid", "cash"]) fun _ _ _ _ _ _ us hl => match us, hl with | [_, _, _, _, _], _ => rfl
  have b_ceq := F_ceq.binds (ps := ["self", "other"]) fun _ _ _ _ _ _ us hl => match us, hl with | [_, _], _ => rfl
  have b_dinit := F_dinit.binds (ps := ["self", "happenings"]) fun _ _ _ _ _ _ us hl => match us, hl with | [_, _], _ => rfl
  have b_of := F_of.binds (ps := ["self", "word"]) fun _ _ _ _ _ _ us hl => match us, hl with | [_, _], _ => rfl
  have b_since := F_since.binds (ps := ["self", "count"]) fun _ _ _ _ _ _ us hl => match us, hl with | [_, _], _ => rfl
  have b_dcash := F_dcash.binds (ps := ["self", "member"]) fun _ _ _ _ _ _ us hl => match us, hl with | [_, _], _ => rfl
  have b_dlen := F_dlen.binds (ps := ["self"]) fun _ _ _ _ _ _ us hl => match us, hl with | [_], _ => rfl
  have b_iter := F_iter.binds (ps := ["self"]) fun _ _ _ _ _ _ us hl => match us, hl with | [_], _ => rfl
  have b_deq := F_deq.binds (ps := ["self", "other"]) fun _ _ _ _ _ _ us hl => match us, hl with | [_, _], _ => rfl
  have b_law_open := F_law_open.binds (ps := ["script"]) fun _ _ _ _ _ _ us hl => match us, hl with | [_], _ => rfl
  have b_law_draw := F_law_draw.binds (ps := ["state", "many"]) fun _ _ _ _ _ _ us hl => match us, hl with | [_, _], _ => rfl
  have b_law_name := F_law_name.binds (ps := ["state", "taken"]) fun _ _ _ _ _ _ us hl => match us, hl with | [_, _], _ => rfl
  have b_law_whole := F_law_whole.binds (ps := ["thing"]) fun _ _ _ _ _ _ us hl => match us, hl with | [_], _ => rfl
  have b_law_number := F_law_number.binds (ps := ["state", "great"]) fun _ _ _ _ _ _ us hl => match us, hl with | [_, _], _ => rfl
  have b_law_refused := F_law_refused.binds (ps := ["position", "prices"]) fun _ _ _ _ _ _ us hl => match us, hl with | [_, _], _ => rfl
  have b_law_closing := F_law_closing.binds (ps := ["state", "goods"]) fun _ _ _ _ _ _ us hl => match us, hl with | [_, _], _ => rfl
  have b_law_happening := F_law_happening.binds (ps := ["state", "names"]) fun _ _ _ _ _ _ us hl => match us, hl with | [_, _], _ => rfl
  have b_law_change := F_law_change.binds (ps := ["rows", "name"]) fun _ _ _ _ _ _ us hl => match us, hl with | [_, _], _ => rfl
  have b_law_book := F_law_book.binds (ps := ["state", "names"]) fun _ _ _ _ _ _ us hl => match us, hl with | [_, _], _ => rfl
  have b_law := F_law.binds (ps := ["script"]) fun _ _ _ _ _ _ us hl => match us, hl with | [_], _ => rfl
  have b_xiBG := F_xiBG.binds (ps := ["self", "what"]) fun _ _ _ _ _ _ us hl => match us, hl with | [_, _], _ => rfl
  have b_xiBP := F_xiBP.binds (ps := ["self", "what"]) fun _ _ _ _ _ _ us hl => match us, hl with | [_, _], _ => rfl
  have g : ∀ {x : Str} {v : Value}, PySem.W.nsIn K mainGlobals x = some (some v) → mg x = some v := fun a => PySem.W.mg_of X G a
  have z : ∀ {x : Str}, PySem.W.nsIn K mainGlobals x = some none → mg x = none := fun a => PySem.W.mg_none_of X G a
  have TB : TxtB mg := ⟨z z_int, z z_abs, z z_len, z z_range, z z_min⟩
  have TN : TxtN mg := { TB with b_isinstance := z z_isinstance, b_all := z z_all, b_str := z z_str, b_bool := z z_bool, b_list := z z_list, b_tuple := z z_tuple, b_set := z z_set, b_enumerate := z z_enumerate, b_iter := z z_iter, b_zip := z z_zip, b_max := z z_max, b_repr := z z_repr, k__CASH := ⟨_, g g__CASH⟩, k__LETTERS := ⟨_, g g__LETTERS⟩, k__LONGEST_NAME := ⟨_, g g__LONGEST_NAME⟩, k__MOST_GOODS := ⟨_, g g__MOST_GOODS⟩ }
  have naC : ∀ n : Str, (["goods", "counts", "_rows"] : List Str).contains n = true → NoAttr K C n := fun n hn => by
    have hn' : n ∈ (["goods", "counts", "_rows"] : List Str) := List.contains_iff_mem.mp hn
    simp only [List.mem_cons, List.not_mem_nil, or_false] at hn'
    rcases hn' with rfl | rfl | rfl
    · exact n_Position_goods
    · exact n_Position_counts
    · exact n_Position__rows
  have naL : ∀ n : Str, (["worth", "before", "paid", "cash"] : List Str).contains n = true → NoAttr K CL n := fun n hn => by
    have hn' : n ∈ (["worth", "before", "paid", "cash"] : List Str) := List.contains_iff_mem.mp hn
    simp only [List.mem_cons, List.not_mem_nil, or_false] at hn'
    rcases hn' with rfl | rfl | rfl | rfl
    · exact n_Closing_worth
    · exact n_Closing_before
    · exact n_Closing_paid
    · exact n_Closing_cash
  have naD : ∀ n : Str, (["_rows"] : List Str).contains n = true → NoAttr K DB n := fun n hn => by
    have hn' : n ∈ (["_rows"] : List Str) := List.contains_iff_mem.mp hn
    simp only [List.mem_cons, List.not_mem_nil, or_false] at hn'
    rw [hn']
    exact n_DayBook__rows
  have cl : Cls K C := ⟨pg_Position, hd_Position, po_Position, sa_Position⟩
  have clL : Cls K CL := ⟨pg_Closing, hd_Closing, po_Closing, sa_Closing⟩
  have clD : Cls K DB := ⟨pg_DayBook, hd_DayBook, po_DayBook, sa_DayBook⟩
  have TP : TxtP K mg C BR := { TN with cl_Position := cl, na_Position := naC, c_Position := g c_Position, b_sum := z z_sum, c_BadPrices := g c_BadPrices, oe_BadPrices := ⟨xn_R, kp_R, ex_R, ty_R⟩ }
  have TQ : TxtQ K mg C BR OG := { TP with c_OtherGoods := g c_OtherGoods, oe_OtherGoods := ⟨xn_B, kp_B, ex_B, ty_B⟩, si_Position := ⟨ca_C, cn_C, ct_C, cm_C⟩, cr_Position := ⟨rd_C, gb_C⟩, no_list := kit_cl ic_C ty_C sl_C, no_tup := kit_cl ic_C ty_C st_C, no_int := kit_cl ic_C ty_C si_C, no_non := kit_cl ic_C ty_C sn_C }
  have TC : TxtC K mg C BR OG CL := { TQ with cl_Closing := clL, na_Closing := naL, c_Closing := g c_Closing, si_Closing := ⟨ca_CL, cn_C, ct_C, cm_CL⟩, noC_tup := kit_cl ic_CL ty_CL st_CL }
  have TD : TxtD K mg C BR OG CL DB := { TC with cl_DayBook := clD, na_DayBook := naD, c_DayBook := g c_DayBook, si_DayBook := ⟨ca_DB, cn_C, ct_C, cm_DB⟩, noD_lst := kit_cl ic_DB ty_DB sl_DB }
  have TE : TxtE K mg C BR OG CL DB := { TD with b_ValueError := z z_ValueError, exm_R := exm_ref ex_R ic_R ty_R sb_R, ec_R := ⟨ga_R, gg_R, ex_R, hd_R, ca_R, cn_C, ct_C, cm_R⟩, kv_R := kit_ty (by decide +kernel) sv_R, nf_C := nf_self, nf_CL := nf_self, nf_tup := nf_ty st_CL }
  have TK : TxtK K mg C BR OG CL DB := { TE with nf_DB := nf_self, nf_DBl := nf_ty sl_DB }
  have ne : NeOf K C f_eq := ⟨⟨_, _, _, _, _, _, _, _, _, _, _, _, _, _, _, _, l_C, ns_ok l_NC q_NC, e_NC, m_NC⟩, fn_of_ty ty_eq⟩
  have neL : NeOf K CL f_ceq := ⟨⟨_, _, _, _, _, _, _, _, _, _, _, _, _, _, _, _, l_CL, ns_ok l_NCL q_NCL, e_NCL, m_NCL⟩, fn_of_ty ty_ceq⟩
  have neD : NeOf K DB f_deq := ⟨⟨_, _, _, _, _, _, _, _, _, _, _, _, _, _, _, _, l_DB, ns_ok l_NDB q_NDB, e_NDB, m_NDB⟩, fn_of_ty ty_deq⟩
  have oex_BG : OexC K BG := ⟨⟨_, _, _, _, _, _, _, _, _, _, _, _, _, _, _, l_BG, h_BG⟩, sa_BG, ex_BG, ty_BG, kp_BG⟩
  have xf_BG : XfC K BG := ⟨ga_BG, gg_BG, ex_BG, hd_BG⟩
  have exm_BG := exm_ref ex_BG ic_BG ty_BG sb_BG
  have oex_BP : OexC K BP := ⟨⟨_, _, _, _, _, _, _, _, _, _, _, _, _, _, _, l_BP, h_BP⟩, sa_BP, ex_BP, ty_BP, kp_BP⟩
  have xf_BP : XfC K BP := ⟨ga_BP, gg_BP, ex_BP, hd_BP⟩
  have exm_BP := exm_ref ex_BP ic_BP ty_BP sb_BP
  refine ⟨PySem.W.fnOf "law" "law" (defArgs s_law) (defBody s_law) (defScope s_law) .none kV_law dc_law pm_law an_law cd_law ct_law, fun s v => .of_eq rfl, fun base Kb Gb => ?_⟩
  let X_BadGoods : DefX l.prog w K mg base "BadGoods" BG ["what"] := ⟨_, _, _, oex_BG, a_xiBG, ty_xiBG, ok_BadGoods F_xiBG oex_BG nw_BG_what, b_xiBG, g c_BadGoods⟩
  let X_BadPosition : DefX l.prog w K mg base "BadPosition" BP ["what"] := ⟨_, _, _, oex_BP, a_xiBP, ty_xiBP, ok_BadPosition F_xiBP oex_BP nw_BP_what, b_xiBP, g c_BadPosition⟩
  let D_is_sequence : DefD l.prog w K mg base "is_sequence" 1 ["thing"] sdSeqX := ⟨_, _, ok_seqX F_is_sequence TN, g a_is_sequence, k_is_sequence, b_is_sequence⟩
  let D_is_integer : DefD l.prog w K mg base "is_integer" 1 ["thing"] sdIntX := ⟨_, _, ok_integerX F_is_integer TN, g a_is_integer, k_is_integer, b_is_integer⟩
  let D_is_row : DefD l.prog w K mg base "is_row" 3 ["thing", "length"] sdRowX := ⟨_, _, ok_rowX D_is_sequence F_is_row TN, g a_is_row, k_is_row, b_is_row⟩
  let D_is_number_row : DefD l.prog w K mg base "is_number_row" 5 ["thing", "length"] sdNumX := ⟨_, _, ok_numX D_is_row D_is_integer F_is_number_row TN, g a_is_number_row, k_is_number_row, b_is_number_row⟩
  let D_is_name : DefD l.prog w K mg base "is_name" 1 ["thing"] sdNameX := ⟨_, _, ok_nameX F_is_name TN, g a_is_name, k_is_name, b_is_name⟩
  let D_checked_goods : DefD l.prog w K mg base "checked_goods" 3 ["goods"] (sdGoodsX BG) := ⟨_, _, ok_goodsX X_BadGoods D_is_sequence D_is_name F_checked_goods TN, g a_checked_goods, k_checked_goods, b_checked_goods⟩
  let K_Position : DefK l.prog w K mg base C 7 3 ["self", "goods", "counts"] [] [] (sdPInit C BG BP) := ⟨_, _, _, _, ⟨mk_Position, a_init, i_init, kp_Position⟩, ok_pinit X_BadPosition D_checked_goods D_is_row D_is_number_row F_init TP, kb_of b_init rfl, kb_of b_init rfl⟩
  let D_Position_worth : DefM l.prog w K mg base C "worth" 7 ["self", "prices"] (sdWorth C BR) := ⟨_, _, ok_pworth D_is_number_row F_worth TP, b_worth, ⟨a_worth, i_worth, k_worth⟩⟩
  let D_Position___eq : DefE l.prog w K mg base C 1 ["self", "other"] (sdPEq C) := ⟨_, _, ok_peq F_eq TQ, b_eq, a_eq, i_eq, ne⟩
  let K_Closing : DefK l.prog w K mg base CL 1 5 ["self", "worth", "before", "paid", "cash"] [] [] (sdCInit CL) := ⟨_, _, _, _, ⟨mk_Closing, a_cinit, i_cinit, kp_Closing⟩, ok_cinit F_cinit TC, kb_of b_cinit rfl, kb_of b_cinit rfl⟩
  let D_Closing___eq : DefE l.prog w K mg base CL 1 ["self", "other"] (sdCEq CL) := ⟨_, _, ok_ceq F_ceq TC, b_ceq, a_ceq, i_ceq, neL⟩
  let D_close_out : DefD l.prog w K mg base "close_out" 9 ["cash", "position", "prices"] (sdClose CL C BR) := ⟨_, _, ok_close D_Position_worth K_Closing F_close_out TC, g a_close_out, k_close_out, b_close_out⟩
  let D_as_tuples_n : DefD l.prog w K mg base "as_tuples" 1 ["thing"] sdNo := ⟨_, _, fn_no, g a_as_tuples, k_as_tuples, b_as_tuples⟩
  let D_as_tuples_0 : DefD l.prog w K mg base "as_tuples" 3 ["thing"] (sdAsT 0) := ⟨_, _, ok_ast0 D_is_sequence D_as_tuples_n F_as_tuples TN, g a_as_tuples, k_as_tuples, b_as_tuples⟩
  let D_as_tuples_1 : DefD l.prog w K mg base "as_tuples" 5 ["thing"] (sdAsT 1) := ⟨_, _, ok_ast1 D_is_sequence D_as_tuples_0 F_as_tuples TN, g a_as_tuples, k_as_tuples, b_as_tuples⟩
  let D_as_tuples : DefD l.prog w K mg base "as_tuples" 7 ["thing"] (sdAsT 2) := ⟨_, _, ok_ast2 D_is_sequence D_as_tuples_1 F_as_tuples TN, g a_as_tuples, k_as_tuples, b_as_tuples⟩
  let D_cc : DefD l.prog w K mg base "_cash_change" 1 ["happening", "member"] sdCC := ⟨_, _, ok_cc F_cc TN, g a_cc, k_cc, b_cc⟩
  let K_DayBook : DefK l.prog w K mg base DB 9 2 ["self", "happenings"] [] [] (sdDInit DB) := ⟨_, _, _, _, ⟨mk_DayBook, a_dinit, i_dinit, kp_DayBook⟩, ok_dinit D_as_tuples F_dinit TD, kb_of b_dinit rfl, kb_of b_dinit rfl⟩
  let D_DayBook_of : DefM l.prog w K mg base DB "of" 1 ["self", "word"] (sdDOf DB) := ⟨_, _, ok_dof F_of TD, b_of, ⟨a_of, i_of, k_of⟩⟩
  let D_DayBook_since : DefM l.prog w K mg base DB "since" 1 ["self", "count"] (sdDSince DB) := ⟨_, _, ok_dsince F_since TD, b_since, ⟨a_since, i_since, k_since⟩⟩
  let D_DayBook_cash_change : DefM l.prog w K mg base DB "cash_change" 3 ["self", "member"] (sdDCash DB) := ⟨_, _, ok_dcash D_cc F_dcash TD, b_dcash, ⟨a_dcash, i_dcash, k_dcash⟩⟩
  let D_DayBook___eq : DefE l.prog w K mg base DB 1 ["self", "other"] (sdDEq DB) := ⟨_, _, ok_deq F_deq TD, b_deq, a_deq, i_deq, neD⟩
  have I_DayBook := iter_of clD n_DayBook__rows a_iter i_iter F_iter b_iter
  have L_DayBook := len_of clD n_DayBook__rows a_dlen i_dlen F_dlen b_dlen
  let D_law_open : DefD l.prog w K mg base "_law_open" 1 ["script"] sdOpen := ⟨_, _, ok_lopen F_law_open TN, g a_law_open, k_law_open, b_law_open⟩
  let D_law_draw : DefD l.prog w K mg base "_law_draw" 1 ["state", "many"] sdDraw := ⟨_, _, ok_ldraw F_law_draw TN, g a_law_draw, k_law_draw, b_law_draw⟩
  let D_law_name : DefD l.prog w K mg base "_law_name" 3 ["state", "taken"] sdName := ⟨_, _, ok_lname D_law_draw F_law_name TN, g a_law_name, k_law_name, b_law_name⟩
  let D_law_whole : DefD l.prog w K mg base "_law_whole" 1 ["thing"] sdWholeL := ⟨_, _, ok_lwhole F_law_whole TN, g a_law_whole, k_law_whole, b_law_whole⟩
  let D_law_number : DefD l.prog w K mg base "_law_number" 3 ["state", "great"] sdNumber := ⟨_, _, ok_lnumber D_law_draw F_law_number TN, g a_law_number, k_law_number, b_law_number⟩
  let D_law_refused : DefD l.prog w K mg base "_law_refused" 11 ["position", "prices"] (sdRefused C) := ⟨_, _, ok_lrefused D_close_out F_law_refused TE, g a_law_refused, k_law_refused, b_law_refused⟩
  let D_law_closing : DefD l.prog w K mg base "_law_closing" 13 ["state", "goods"] sdClosing := ⟨_, _, ok_lclosing D_law_draw D_law_number D_law_whole D_law_refused D_close_out K_Position K_Closing D_Position___eq D_Closing___eq F_law_closing TE, g a_law_closing, k_law_closing, b_law_closing⟩
  let D_law_happening : DefD l.prog w K mg base "_law_happening" 5 ["state", "names"] sdHap := ⟨_, _, ok_lhap D_law_draw D_law_number F_law_happening TN, g a_law_happening, k_law_happening, b_law_happening⟩
  let D_law_change : DefD l.prog w K mg base "_law_change" 1 ["rows", "name"] sdChange := ⟨_, _, ok_lchange F_law_change TN, g a_law_change, k_law_change, b_law_change⟩
  let D_law_book : DefD l.prog w K mg base "_law_book" 11 ["state", "names"] sdBook := ⟨_, _, ok_lbook D_law_draw D_law_happening D_law_change D_law_whole K_DayBook I_DayBook L_DayBook D_DayBook_of D_DayBook_since D_DayBook_cash_change D_DayBook___eq F_law_book TK, g a_law_book, k_law_book, b_law_book⟩
  exact ok_law D_law_open D_law_draw D_law_name D_law_closing D_law_book F_law TN
theorem walk {l : PySem.W.OpenLaw} {q : Program} {loose : List Str} {XP : (Str → Option Value) → Heap → Prop} {YP : World → Heap → Prop} {d : DefRec} {K : Params → PySem.W.Frag} (hn : l.most = some 63) (hdf : d.params.defaults = [])
    (hY : ∀ (w : World) (h : Heap), YP w h → (K w.params).In h)
    (F : ∀ (w : World) (mg : Str → Option Value) (fa : Addr) (h : Heap), (K w.params).In h → h.Ns mainGlobals mg → mg d.name = some (.ref fa) →
      ∃ fd : FuncData, (∀ (s : Shared) (u : Value), BindsTo s fd ⟨[u], []⟩ [("script", u)]) ∧ ∀ base : Heap, (K w.params).In base → base.Ns mainGlobals mg → FnOk l.prog w (K w.params) mg base (L2.CX l.prog w) 15 fa fd ["script"] (spOf (K w.params) sdLaw)) :
    PySem.W.WalkO q loose XP YP l.row.toRowW d [] (fun f vs => PySem.call f vs) :=
  L2.walk_of (n := 63) (k := 15) (x := "script") (CX := fun w => L2.CX l.prog w) (sp := fun w => spOf (K w.params) sdLaw) hn (by decide) hdf ⟨rfl, by decide, by decide⟩ hY F (fun _ _ a ns hl _ hS => law_in hS) fun _ _ _ _ _ z => cx_none z
end KT
open PySem PySem.W PyProof.Rows
set_option maxRecDepth 100000 in
set_option maxHeartbeats 0 in
theorem PySem.Challenge.cw_coveredday_k44_closings_and_day_books_holds : PySem.Challenge.rw_coveredday_k44_closings_and_day_books.Holds := by
  w_on; o_law; k_head; (case hw => w_witness2)
  k_fill
  refine KT.walk (l := PySem.Challenge.rw_coveredday_k44_closings_and_day_books) rfl rfl (fun w h Y => PySem.W.kIn_of Y) ?F
  case F =>
    intro w mg fa h KX G hmg
    refine' KT.all_mk KX G hmg ?c_Position ?pg_Position ?hd_Position ?po_Position ?sa_Position ?mk_Position ?kp_Position ?n_Position_goods ?n_Position_counts ?n_Position__rows ?a_init ?l_init ?c_init ?k_init ?i_init ?a_worth ?l_worth ?c_worth ?k_worth ?i_worth ?a_eq ?l_eq ?c_eq ?k_eq ?i_eq ?c_Closing ?pg_Closing ?hd_Closing ?po_Closing ?sa_Closing ?mk_Closing ?kp_Closing ?n_Closing_worth ?n_Closing_before ?n_Closing_paid ?n_Closing_cash ?a_cinit ?l_cinit ?c_cinit ?k_cinit ?i_cinit ?a_ceq ?l_ceq ?c_ceq ?k_ceq ?i_ceq ?c_DayBook ?pg_DayBook ?hd_DayBook ?po_DayBook ?sa_DayBook ?mk_DayBook ?kp_DayBook ?n_DayBook__rows ?a_dinit ?l_dinit ?c_dinit ?k_dinit ?i_dinit ?a_of ?l_of ?c_of ?k_of ?i_of ?a_since ?l_since ?c_since ?k_since ?i_since ?a_dcash ?l_dcash ?c_dcash ?k_dcash ?i_dcash ?a_dlen ?l_dlen ?c_dlen ?k_dlen ?i_dlen ?a_iter ?l_iter ?c_iter ?k_iter ?i_iter ?a_deq ?l_deq ?c_deq ?k_deq ?i_deq ?rd_C ?gb_C ?ca_C ?cn_C ?ct_C ?cm_C ?l_C ?l_NC ?q_NC ?e_NC ?m_NC ?ty_eq ?c_OtherGoods ?xn_B ?ex_B ?ty_B ?kp_B ?ic_C ?ty_C ?sl_C ?st_C ?si_C ?sn_C ?c_BadPrices ?xn_R ?ex_R ?ty_R ?kp_R ?ga_R ?gg_R ?hd_R ?ca_R ?cm_R ?ic_R ?sb_R ?sv_R ?ca_CL ?cm_CL ?l_CL ?l_NCL ?q_NCL ?e_NCL ?m_NCL ?ty_ceq ?ic_CL ?ty_CL ?st_CL ?ca_DB ?cm_DB ?l_DB ?l_NDB ?q_NDB ?e_NDB ?m_NDB ?ty_deq ?ic_DB ?ty_DB ?sl_DB ?c_BadGoods ?l_BG ?h_BG ?sa_BG ?ex_BG ?ty_BG ?kp_BG ?ga_BG ?gg_BG ?hd_BG ?ic_BG ?sb_BG ?nw_BG_what ?a_xiBG ?l_xiBG ?c_xiBG ?k_xiBG ?ty_xiBG ?c_BadPosition ?l_BP ?h_BP ?sa_BP ?ex_BP ?ty_BP ?kp_BP ?ga_BP ?gg_BP ?hd_BP ?ic_BP ?sb_BP ?nw_BP_what ?a_xiBP ?l_xiBP ?c_xiBP ?k_xiBP ?ty_xiBP ?a_is_name ?l_is_name ?c_is_name ?k_is_name ?a_is_sequence ?l_is_sequence ?c_is_sequence ?k_is_sequence ?a_is_integer ?l_is_integer ?c_is_integer ?k_is_integer ?a_is_row ?l_is_row ?c_is_row ?k_is_row ?a_is_number_row ?l_is_number_row ?c_is_number_row ?k_is_number_row ?a_checked_goods ?l_checked_goods ?c_checked_goods ?k_checked_goods ?a_close_out ?l_close_out ?c_close_out ?k_close_out ?a_as_tuples ?l_as_tuples ?c_as_tuples ?k_as_tuples ?a_cc ?l_cc ?c_cc ?k_cc ?a_law_open ?l_law_open ?c_law_open ?k_law_open ?a_law_draw ?l_law_draw ?c_law_draw ?k_law_draw ?a_law_name ?l_law_name ?c_law_name ?k_law_name ?a_law_whole ?l_law_whole ?c_law_whole ?k_law_whole ?a_law_number ?l_law_number ?c_law_number ?k_law_number ?a_law_refused ?l_law_refused ?c_law_refused ?k_law_refused ?a_law_closing ?l_law_closing ?c_law_closing ?k_law_closing ?a_law_happening ?l_law_happening ?c_law_happening ?k_law_happening ?a_law_change ?l_law_change ?c_law_change ?k_law_change ?a_law_book ?l_law_book ?c_law_book ?k_law_book ?a_law ?l_law ?c_law ?k_law ?g__CASH ?g__LETTERS ?g__LONGEST_NAME ?g__MOST_GOODS ?z_int ?z_abs ?z_len ?z_range ?z_min ?z_isinstance ?z_all ?z_str ?z_bool ?z_list ?z_tuple ?z_set ?z_enumerate ?z_iter ?z_zip ?z_max ?z_sum ?z_any ?z_ValueError ?z_repr
    (case c_Position => k_is)
    (case pg_Position => k_is)
    (case hd_Position => k_is)
    (case po_Position => k_is)
    (case sa_Position => k_is)
    (case mk_Position => k_is)
    (case kp_Position => k_is)
    (case n_Position_goods => k_is)
    (case n_Position_counts => k_is)
    (case n_Position__rows => k_is)
    (case a_init => k_is)
    (case l_init => k_is)
    (case c_init => k_is)
    (case k_init => k_is)
    (case i_init => k_is)
    (case a_worth => k_is)
    (case l_worth => k_is)
    (case c_worth => k_is)
    (case k_worth => k_is)
    (case i_worth => k_is)
    (case a_eq => k_is)
    (case l_eq => k_is)
    (case c_eq => k_is)
    (case k_eq => k_is)
    (case i_eq => k_is)
    (case c_Closing => k_is)
    (case pg_Closing => k_is)
    (case hd_Closing => k_is)
    (case po_Closing => k_is)
    (case sa_Closing => k_is)
    (case mk_Closing => k_is)
    (case kp_Closing => k_is)
    (case n_Closing_worth => k_is)
    (case n_Closing_before => k_is)
    (case n_Closing_paid => k_is)
    (case n_Closing_cash => k_is)
    (case a_cinit => k_is)
    (case l_cinit => k_is)
    (case c_cinit => k_is)
    (case k_cinit => k_is)
    (case i_cinit => k_is)
    (case a_ceq => k_is)
    (case l_ceq => k_is)
    (case c_ceq => k_is)
    (case k_ceq => k_is)
    (case i_ceq => k_is)
    (case c_DayBook => k_is)
    (case pg_DayBook => k_is)
    (case hd_DayBook => k_is)
    (case po_DayBook => k_is)
    (case sa_DayBook => k_is)
    (case mk_DayBook => k_is)
    (case kp_DayBook => k_is)
    (case n_DayBook__rows => k_is)
    (case a_dinit => k_is)
    (case l_dinit => k_is)
    (case c_dinit => k_is)
    (case k_dinit => k_is)
    (case i_dinit => k_is)
    (case a_of => k_is)
    (case l_of => k_is)
    (case c_of => k_is)
    (case k_of => k_is)
    (case i_of => k_is)
    (case a_since => k_is)
    (case l_since => k_is)
    (case c_since => k_is)
    (case k_since => k_is)
    (case i_since => k_is)
    (case a_dcash => k_is)
    (case l_dcash => k_is)
    (case c_dcash => k_is)
    (case k_dcash => k_is)
    (case i_dcash => k_is)
    (case a_dlen => k_is)
    (case l_dlen => k_is)
    (case c_dlen => k_is)
    (case k_dlen => k_is)
    (case i_dlen => k_is)
    (case a_iter => k_is)
    (case l_iter => k_is)
    (case c_iter => k_is)
    (case k_iter => k_is)
    (case i_iter => k_is)
    (case a_deq => k_is)
    (case l_deq => k_is)
    (case c_deq => k_is)
    (case k_deq => k_is)
    (case i_deq => k_is)
    (case rd_C => k_is)
    (case gb_C => k_is)
    (case ca_C => k_is)
    (case cn_C => k_is)
    (case ct_C => k_is)
    (case cm_C => k_is)
    (case l_C => k_is)
    (case l_NC => k_is)
    (case q_NC => first | rfl | decide +kernel)
    (case e_NC => k_is)
    (case m_NC => k_is)
    (case ty_eq => k_is)
    (case c_OtherGoods => k_is)
    (case xn_B => k_exc)
    (case ex_B => k_is)
    (case ty_B => k_is)
    (case kp_B => k_is)
    (case ic_C => k_is)
    (case ty_C => k_is)
    (case sl_C => k_is)
    (case st_C => k_is)
    (case si_C => k_is)
    (case sn_C => k_is)
    (case c_BadPrices => k_is)
    (case xn_R => k_exc)
    (case ex_R => k_is)
    (case ty_R => k_is)
    (case kp_R => k_is)
    (case ga_R => k_is)
    (case gg_R => k_is)
    (case hd_R => k_is)
    (case ca_R => k_is)
    (case cm_R => k_is)
    (case ic_R => k_is)
    (case sb_R => k_is)
    (case sv_R => k_is)
    (case ca_CL => k_is)
    (case cm_CL => k_is)
    (case l_CL => k_is)
    (case l_NCL => k_is)
    (case q_NCL => first | rfl | decide +kernel)
    (case e_NCL => k_is)
    (case m_NCL => k_is)
    (case ty_ceq => k_is)
    (case ic_CL => k_is)
    (case ty_CL => k_is)
    (case st_CL => k_is)
    (case ca_DB => k_is)
    (case cm_DB => k_is)
    (case l_DB => k_is)
    (case l_NDB => k_is)
    (case q_NDB => first | rfl | decide +kernel)
    (case e_NDB => k_is)
    (case m_NDB => k_is)
    (case ty_deq => k_is)
    (case ic_DB => k_is)
    (case ty_DB => k_is)
    (case sl_DB => k_is)
    (case c_BadGoods => k_is)
    (case l_BG => k_is)
    (case h_BG => first | rfl | decide +kernel)
    (case sa_BG => k_is)
    (case ex_BG => k_is)
    (case ty_BG => k_is)
    (case kp_BG => k_is)
    (case ga_BG => k_is)
    (case gg_BG => k_is)
    (case hd_BG => k_is)
    (case ic_BG => k_is)
    (case sb_BG => k_is)
    (case nw_BG_what => k_is)
    (case a_xiBG => k_is)
    (case l_xiBG => k_is)
    (case c_xiBG => k_is)
    (case k_xiBG => k_is)
    (case ty_xiBG => k_is)
    (case c_BadPosition => k_is)
    (case l_BP => k_is)
    (case h_BP => first | rfl | decide +kernel)
    (case sa_BP => k_is)
    (case ex_BP => k_is)
    (case ty_BP => k_is)
    (case kp_BP => k_is)
    (case ga_BP => k_is)
    (case gg_BP => k_is)
    (case hd_BP => k_is)
    (case ic_BP => k_is)
    (case sb_BP => k_is)
    (case nw_BP_what => k_is)
    (case a_xiBP => k_is)
    (case l_xiBP => k_is)
    (case c_xiBP => k_is)
    (case k_xiBP => k_is)
    (case ty_xiBP => k_is)
    (case a_is_name => k_is)
    (case l_is_name => k_is)
    (case c_is_name => k_is)
    (case k_is_name => k_is)
    (case a_is_sequence => k_is)
    (case l_is_sequence => k_is)
    (case c_is_sequence => k_is)
    (case k_is_sequence => k_is)
    (case a_is_integer => k_is)
    (case l_is_integer => k_is)
    (case c_is_integer => k_is)
    (case k_is_integer => k_is)
    (case a_is_row => k_is)
    (case l_is_row => k_is)
    (case c_is_row => k_is)
    (case k_is_row => k_is)
    (case a_is_number_row => k_is)
    (case l_is_number_row => k_is)
    (case c_is_number_row => k_is)
    (case k_is_number_row => k_is)
    (case a_checked_goods => k_is)
    (case l_checked_goods => k_is)
    (case c_checked_goods => k_is)
    (case k_checked_goods => k_is)
    (case a_close_out => k_is)
    (case l_close_out => k_is)
    (case c_close_out => k_is)
    (case k_close_out => k_is)
    (case a_as_tuples => k_is)
    (case l_as_tuples => k_is)
    (case c_as_tuples => k_is)
    (case k_as_tuples => k_is)
    (case a_cc => k_is)
    (case l_cc => k_is)
    (case c_cc => k_is)
    (case k_cc => k_is)
    (case a_law_open => k_is)
    (case l_law_open => k_is)
    (case c_law_open => k_is)
    (case k_law_open => k_is)
    (case a_law_draw => k_is)
    (case l_law_draw => k_is)
    (case c_law_draw => k_is)
    (case k_law_draw => k_is)
    (case a_law_name => k_is)
    (case l_law_name => k_is)
    (case c_law_name => k_is)
    (case k_law_name => k_is)
    (case a_law_whole => k_is)
    (case l_law_whole => k_is)
    (case c_law_whole => k_is)
    (case k_law_whole => k_is)
    (case a_law_number => k_is)
    (case l_law_number => k_is)
    (case c_law_number => k_is)
    (case k_law_number => k_is)
    (case a_law_refused => k_is)
    (case l_law_refused => k_is)
    (case c_law_refused => k_is)
    (case k_law_refused => k_is)
    (case a_law_closing => k_is)
    (case l_law_closing => k_is)
    (case c_law_closing => k_is)
    (case k_law_closing => k_is)
    (case a_law_happening => k_is)
    (case l_law_happening => k_is)
    (case c_law_happening => k_is)
    (case k_law_happening => k_is)
    (case a_law_change => k_is)
    (case l_law_change => k_is)
    (case c_law_change => k_is)
    (case k_law_change => k_is)
    (case a_law_book => k_is)
    (case l_law_book => k_is)
    (case c_law_book => k_is)
    (case k_law_book => k_is)
    (case a_law => k_is)
    (case l_law => k_is)
    (case c_law => k_is)
    (case k_law => k_is)
    (case g__CASH => k_is)
    (case g__LETTERS => k_is)
    (case g__LONGEST_NAME => k_is)
    (case g__MOST_GOODS => k_is)
    (case z_int => k_is)
    (case z_abs => k_is)
    (case z_len => k_is)
    (case z_range => k_is)
    (case z_min => k_is)
    (case z_isinstance => k_is)
    (case z_all => k_is)
    (case z_str => k_is)
    (case z_bool => k_is)
    (case z_list => k_is)
    (case z_tuple => k_is)
    (case z_set => k_is)
    (case z_enumerate => k_is)
    (case z_iter => k_is)
    (case z_zip => k_is)
    (case z_max => k_is)
    (case z_sum => k_is)
    (case z_any => k_is)
    (case z_ValueError => k_is)
    (case z_repr => k_is)
