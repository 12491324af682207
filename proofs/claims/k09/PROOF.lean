import PyProof.Rows.All
import Wide.All
import OpenK.AllK
import Wide.FinOn
import HandS.ForMost
import HandS.Walk
import HandS.Style
import HandS.Strs
import HandS.Conv
import HandS.Base
import HandS.Call
import HandS.Words
import HandS.List
import HandS.Lambda
import HandS.Exc
import HandS.ExcOwn
import HandS.WordsExc
import HandS.CallSlots
import HandS.Property
import HandS.ExcInit
import HandS.ExcField
import HandS.TryOnly
import HandS.IsInst
import HandS.TupAny
import HandS.TupMul
import HandS.Text
import HandS.SlotsOwn
import HandS.Iter
import HandS.Comp
import HandS.More
import HandS.Dict
import HandS.Zip
import HandS.ExcIs
import HandS.Deep
import HandS.MakeKwOnly
import HandS.ClsMeth
import HandS.Star
import HandS.IterVal
import HandS.CallLocal
import KE.KOwnIter
import HandS.Wide
import HandS.Zip0
import HandS.Small
import HandS.RaiseMore
import PyProof.ExcBaseAll.ValueError
import KE.KExcIs
import HandS.Defaults
import KE.KDictZip
import PyProof.NeKinds
import PyProof.EqKinds
import PyProof.CollectIter
import PyProof.TupleOfGen
import HandS.ExcValue
import PyProof.WalksMore
import PyProof.Rows.SumAny
import KE.KOpsOwn
import HandS.Codes
import PyProof.ListStr
import HandS.DictComp
import HandS.Ends
import PyProof.ReprRoads
import PyProof.CallFns
import PyProof.StrLawsRepr
import HandS.SortKw
import KE.SortKeyHeap
import HandS.ListItems
import HandS.NoneIn
import HandS.SortInts
import KE.SortData
import HandS.OwnIter
import PySem.Challenge.RW_coveredday_k09_parcels_refused
import HandS.MakeKw
set_option Elab.async false
set_option linter.all false
set_option maxRecDepth 100000
set_option maxHeartbeats 0
namespace RS
open PySem PySem.Spec PyProof.Rows L2
/-! ### the unlike texts among some -/
def put (a : List Str) (x : Str) : List Str := if x ∈ a then a else a ++ [x]
def uniq (xs : List Str) : List Str := xs.foldl put []
theorem uniq_snoc (xs : List Str) (x : Str) : uniq (xs ++ [x]) = put (uniq xs) x := by
  unfold uniq
  rw [List.foldl_append]
  rfl
theorem mem_put {a : List Str} {x y : Str} : y ∈ put a x ↔ y ∈ a ∨ y = x := by
  unfold put
  by_cases h : x ∈ a
  · rw [if_pos h]
    refine ⟨.inl, fun z => ?_⟩
    rcases z with z | z
    · exact z
    · rwa [z]
  · rw [if_neg h, List.mem_append, List.mem_singleton]
theorem mem_fold {y : Str} : ∀ (xs a : List Str), y ∈ xs.foldl put a ↔ y ∈ a ∨ y ∈ xs
  | [], a => by simp
  | x :: r, a => by
    rw [List.foldl_cons, mem_fold r, mem_put, List.mem_cons]
    constructor
    · rintro ((h | h) | h)
      · exact .inl h
      · exact .inr (.inl h)
      · exact .inr (.inr h)
    · rintro (h | h | h)
      · exact .inl (.inl h)
      · exact .inl (.inr h)
      · exact .inr h
theorem len_fold : ∀ (xs a : List Str), (xs.foldl put a).length ≤ a.length + xs.length ∧ (xs.Nodup → (∀ x ∈ xs, x ∉ a) → (xs.foldl put a).length = a.length + xs.length) ∧ ((xs.foldl put a).length = a.length + xs.length → xs.Nodup ∧ ∀ x ∈ xs, x ∉ a)
  | [], a => ⟨by simp, fun _ _ => by simp, fun _ => ⟨List.nodup_nil, fun _ h => (nomatch h)⟩⟩
  | x :: r, a => by
    obtain ⟨h1, h2, h3⟩ := len_fold r (put a x)
    rw [List.foldl_cons, List.length_cons]
    by_cases h : x ∈ a
    · have e : put a x = a := if_pos h
      rw [e] at h1 h2 h3 ⊢
      exact ⟨by omega, fun _ n => absurd h (n x List.mem_cons_self), fun q => by omega⟩
    · have e : put a x = a ++ [x] := if_neg h
      have l : (put a x).length = a.length + 1 := by rw [e, List.length_append]; rfl
      rw [l] at h1 h2 h3
      refine ⟨by omega, fun nd n => ?_, fun q => ?_⟩
      · obtain ⟨nx, nr⟩ := List.nodup_cons.mp nd
        have := h2 nr fun y hy => by
          rw [mem_put]
          rintro (z | z)
          · exact n y (List.mem_cons_of_mem _ hy) z
          · exact nx (z ▸ hy)
        omega
      · obtain ⟨nr, nn⟩ := h3 (by omega)
        refine ⟨List.nodup_cons.mpr ⟨fun hx => nn x hx (mem_put.mpr (.inr rfl)), nr⟩, fun y hy => ?_⟩
        rcases List.mem_cons.mp hy with rfl | hy
        · exact h
        · exact fun z => nn y hy (mem_put.mpr (.inl z))
theorem uniq_len (xs : List Str) : (uniq xs).length ≤ xs.length := by
  have := (len_fold xs []).1
  simpa [uniq] using this
theorem uniq_lt (xs : List Str) : (uniq xs).length < xs.length ↔ ¬ xs.Nodup := by
  obtain ⟨h1, h2, h3⟩ := len_fold xs []
  unfold uniq
  simp only [List.length_nil, Nat.zero_add] at h1 h2 h3
  constructor
  · intro h nd
    have := h2 nd (fun _ _ z => (nomatch z))
    omega
  · intro h
    have : (xs.foldl put []).length ≠ xs.length := fun e => h (h3 e).1
    omega
section
variable {prog : Program} {w : World} {A : Around} {R : Result → Shared → Prop} {I S : Addr} {fp wr : List Addr} {G : Array GenState → Array GenState → Prop} {n : Nat} {P : Nat → Value → Prop} {St : Nat → Shared → Prop}
/-- the set at S holds the texts ys -/
def Holds (prog : Program) (w : World) (h : Heap) (S : Addr) (ys : List Str) : Prop := h.SetOf (PySem.strKind prog w) S (fun k => decide (k ∈ ys)) ys.length
theorem Holds.keep {h h' : Heap} {ys : List Str} (q : Holds prog w h S ys) (k : ∀ o, h.get? S = some o → h'.get? S = some o) : Holds prog w h' S ys := by
  obtain ⟨o, es, ep, tb, ho, rest⟩ := q
  exact ⟨o, es, ep, tb, k o ho, rest⟩
theorem Holds.put {h : Heap} {ys : List Str} {x : Str} (q : h.SetOf (PySem.strKind prog w) S (fun k => decide (k ∈ ys) || decide (k = x)) (if decide (x ∈ ys) = true then ys.length else ys.length + 1)) : Holds prog w h S (RS.put ys x) := by
  refine SetOf_congr q (fun k => ?_) ?_
  · rw [Bool.eq_iff_iff]
    simp [mem_put]
  · unfold RS.put
    by_cases hx : x ∈ ys
    · rw [if_pos (decide_eq_true hx), if_pos hx]
    · rw [if_neg (by simpa using hx), if_neg hx, List.length_append]
      rfl
theorem fill (W : WalksS prog w A.in1 I fp wr G n P St) (nS : S ∉ fp) (xs : List Str) (hn : xs.length = n) (few : n + 1 < scanBound) (hv : ∀ i v, P i v → ∃ t, v = .str (xs.getD i Str.empty) t) :
    ∀ (k i : Nat) (s : Shared), i + k = n → St i s → Holds prog w s.heap S (uniq (xs.take i)) → (∀ s', Moved (S :: wr) G s s' → Holds prog w s'.heap S (uniq xs) → R (.ok (.ret .none)) s') →
      codeAny (model prog w) A (.builtin "set.update.loop" ⟨[.ref S, .ref I], []⟩) R s := by
  have nW : S ∉ wr := fun h => nS (W.sub _ h)
  have up : ∀ b ∈ wr, b ∈ S :: wr := fun _ hb => List.mem_cons_of_mem _ hb
  intro k
  induction k with
  | zero =>
    intro i s e st q done
    have ei : i = n := e
    subst ei
    rw [← hn, List.take_length] at q
    refine codeAny_builtin PyProof.Rows.F.entry_set_update_loop (?_ : wpAny _ _ (pyNext (.ref I) >>= _) _ _ s)
    rw [Around.under_plainId PyProof.Rows.F.plain_set_update_loop _]
    exact wpAny_bind (W.done s _ _ st fun s1 m => (wpAny_pure (done s1 (m.mono up) (q.keep fun o ho => m.heap S o nW ho)) : wpAny _ A.in1 (ret Value.none) _ _ s1))
  | succ k ih =>
    intro i s e st q done
    have lt : i < n := by omega
    have lx : i < xs.length := by omega
    refine codeAny_builtin PyProof.Rows.F.entry_set_update_loop (?_ : wpAny _ _ (pyNext (.ref I) >>= _) _ _ s)
    rw [Around.under_plainId PyProof.Rows.F.plain_set_update_loop _]
    refine wpAny_bind (W.item i s _ _ lt st fun v s1 hP st1 m => ?_)
    obtain ⟨t, rfl⟩ := hv i v hP
    have ex : xs.getD i Str.empty = xs[i] := by simp [List.getD, lx]
    rw [ex]
    have q1 : Holds prog w s1.heap S (uniq (xs.take i)) := q.keep fun o ho => m.heap S o nW ho
    refine (?_ : wpAny _ A.in1 (holding [Value.str xs[i] t] (setAdd S (.str xs[i] t)) >>= _) _ _ s1)
    refine wpAny_bind (wpAny_holding ?_)
    unfold setAdd
    refine wpAny_holding (wpAny_bind ((PySem.strKind prog w).pyHash (k := xs[i]) (strKind_is _ _ _ _) ?_))
    have room : (uniq (xs.take i)).length + 1 < scanBound := by
      have := uniq_len (xs.take i)
      rw [List.length_take] at this
      omega
    refine wpAny_setAddHashed_of (knd := PySem.strKind prog w) (s := { s1 with toks := s1.toks + 1 }) (strKind_is _ _ _ _) rfl q1 room fun h2 sb q2 => ?_
    have q3 : Holds prog w h2 S (uniq (xs.take (i + 1))) := by
      rw [List.take_add_one, List.getElem?_eq_getElem lx]
      show Holds prog w h2 S (uniq (xs.take i ++ [xs[i]]))
      rw [uniq_snoc]
      exact Holds.put q2
    refine wpAny_pure ⟨plainId_quiet PyProof.Rows.F.plain_set_update_loop _, ih (i + 1) _ (by omega) (W.frame _ s1 _ _ st1 (Nat.le_succ _) fun b hb o ho => (sb.2 b fun z => nS (z ▸ hb)).trans ho) q3 fun s3 m3 q4 => ?_⟩
    exact done s3 (Moved.trans W.gtrans ((m.mono up).then_heap (Nat.le_succ _) fun b o hb ho => (sb.2 b fun z => hb (z ▸ List.mem_cons_self)).trans ho) m3) q4
end
section
variable {prog : Program} {w : World} {A : Around} {E : Value → Shared → Prop} {s : Shared}
/-- an empty set, just made -/
abbrev newSet (led : Bool) : Obj := { cls := .type "set", dict := none, data := .set #[] 0 (.fresh 0 0 led) }
/-- what set(l) leaves -/
def Left (prog : Program) (w : World) (s : Shared) (xs : List Str) (h : Heap) : Prop := Holds prog w h s.heap.objs.size (uniq xs) ∧ ∀ b o, s.heap.get? b = some o → h.get? b = some o
theorem set_texts {l : Addr} {items : Array Value} {xs : List Str} {Q : Value → Shared → Prop} (calm : A.handled = none) (hl : s.heap.IsTuple l items) (hi : StrsAre items.toList xs) (few : xs.length + 1 < scanBound)
    (done : ∀ (h : Heap) (tk : Nat), Left prog w s xs h → Q (.ref s.heap.objs.size) { s with heap := h, toks := tk }) : wpAny (model prog w) A (call (.type "set") [.ref l]) Q E s := by
  have size : xs.length = items.size := by rw [← StrsAre.len_eq hi, Array.length_toList]
  have lS : l < s.heap.objs.size := by
    obtain ⟨ol, hol, _⟩ := hl
    exact Heap.lt_size hol
  obtain ⟨cm, tm, mroIs⟩ := PySem.F.called_set.mro
  have madeIs := PySem.F.called_set.made
  have subIs := PySem.F.called_set.sub
  refine wpAny_call (codeAny_of_tree (?_ : wpAny _ _ (callAny (.type "set") _) _ _ _))
  refine wpAny_pure ⟨Code.quiet_builtin _ (by decide +kernel), codeAny_builtin PySem.F.entry_type_call ?_⟩
  rw [Around.under_plain (weight_type_call_type "set" [.ref l] []) rfl]
  have noType := PySem.F.called_set.notType
  have may := PySem.F.called_set.canCreate
  have callIs := PySem.F.typeCall_set_1 (.ref l)
  repeat (any_goals (first | assumption | wp_step))
  refine codeAny_mono (code_set_new_1 (.ref l) (E := E) (Q₁ := fun v s1 => ∃ led, v = .ref s.heap.objs.size ∧ s1 = { s with heap := s.heap.push (newSet led) }) fun led => ⟨led, rfl, rfl⟩) fun r s1 hr => ?_
  cases r with
  | error e => exact hr
  | ok fl =>
    cases fl with
    | next => exact hr.elim
    | brk => exact hr.elim
    | cont => exact hr.elim
    | ret v =>
      obtain ⟨led, rfl, rfl⟩ := hr
      have atS : (s.heap.push (newSet led)).get? s.heap.objs.size = some (newSet led) := Heap.get?_push_size _ rfl
      have isS : Shared.TypeIs { s with heap := s.heap.push (newSet led) } (.ref s.heap.objs.size) "set" := ⟨_, atS, rfl⟩
      have lookIs := PySem.F.called_set.init.lookup
      have bindIs := PySem.F.called_set.init.bind (.ref s.heap.objs.size)
      repeat (any_goals (first | assumption | wp_step))
      refine codeAny_mono (codeAny_call_builtin (R := wants (fun r s2 => r = .none ∧ ∃ h tk, s2 = { s with heap := h, toks := tk } ∧ Left prog w s xs h) E) PySem.F.called_set.init.plain PySem.F.entry_set_init (check_set_init_1 isS ?_)) fun r2 s2 hr2 => ?_
      · obtain ⟨⟨oc, od, dt, sl⟩, ho, hc, nl, hd⟩ := hl
        simp only at hc hd
        subst hc
        subst hd
        have atL := Heap.get?_push_of_some (newSet led) ho
        have notS := PySem.F.sub_tuple_set
        have notF := PySem.F.sub_tuple_frozenset
        have notD : (Value.type "tuple" == Value.type "dict") = false := by decide
        have tupL : (s.heap.push (newSet led)).IsTuple l items := ⟨_, atL, rfl, nl, rfl⟩
        have sz : (s.heap.push (newSet led)).objs.size = s.heap.objs.size + 1 := Heap.size_push ..
        unfold Builtin.«set.__init__» noKeywords Builtin.Frozenset.updateFrom
        generalize keep : pyIter = it
        wp_walk
        subst keep
        refine wpAny_pyIter_tuple tupL (wpAny_bind (wpAny_runValue ?_))
        have calm3 : A.in1.in1.in1.handled = none := by simp [calm]
        have neL : l ≠ (s.heap.push (newSet led)).objs.size := by
          rw [sz]
          exact Nat.ne_of_lt (Nat.lt_succ_of_lt lS)
        have neS : s.heap.objs.size ∉ [(s.heap.push (newSet led)).objs.size, l] := by
          rw [sz]
          simp only [List.mem_cons, List.not_mem_nil, or_false, not_or]
          exact ⟨Nat.ne_of_lt (Nat.lt_succ_self _), Nat.ne_of_gt lS⟩
        refine fill ((Walks.tuple calm3 _ l neL items).toS) neS xs size (by omega) (fun i v hv => SS.strs_at hi i v (by rw [Array.getElem?_toList]; exact hv)) items.size 0 _ (Nat.zero_add _) ⟨⟨_, Heap.get?_push_size _ rfl, rfl, rfl⟩, tupL.push _⟩ ?_ ?_
        · have at2 := Heap.get?_push_of_some ({ cls := .type "tuple_iterator", data := .fields #[.ref l, .int 0 0] } : Obj) atS
          exact SetOf_congr ((setObjOf_fresh (knd := PySem.strKind prog w) led).setOf at2 (by unfold scanBound; omega)) (fun k => by rw [List.take_zero]; rfl) (by rw [List.take_zero]; rfl)
        · intro s3 m q
          obtain ⟨h3, g3, d3, tk3, os3⟩ := s3
          obtain rfl : g3 = s.gens := m.gens
          obtain rfl : d3 = s.drawn := m.drawn
          obtain rfl : os3 = s.os := m.os
          show wpAny _ _ _ _ _ _
          refine wpAny_pure ?_
          show wpAny _ _ (ret Value.none) _ _ _
          refine wpAny_pure ⟨rfl, h3, tk3, rfl, q, fun b o e => ?_⟩
          have lb := Heap.lt_size e
          refine m.heap b o ?_ (Heap.get?_push_of_some _ (Heap.get?_push_of_some _ e))
          rw [sz]
          simp only [List.mem_cons, List.not_mem_nil, or_false, not_or]
          exact ⟨Nat.ne_of_lt lb, Nat.ne_of_lt (Nat.lt_succ_of_lt lb)⟩
      · cases r2 with
        | error e => exact hr2
        | ok fl2 =>
          cases fl2 with
          | next => exact hr2.elim
          | brk => exact hr2.elim
          | cont => exact hr2.elim
          | ret r =>
            obtain ⟨rfl, h, tk, rfl, q⟩ := hr2
            repeat (any_goals (first | assumption | wp_step))
            exact done h tk q
end
section
variable {X : Cx} {a : Expr} {ta : TE} {p p2 q pos : Pos}
/-- len(set(t)), t a tuple of texts -/
def tLenSetT (K : PySem.W.Frag) (ta : TE) : TE := fun σ H Q => ta σ H fun x H1 => ∃ (l : Addr) (xs : List Str), x = .ref l ∧ SqT K H1 l (xs.map V.str) ∧ xs.length ≤ 1000 ∧ Q (.int ((uniq xs).length : Nat)) H1
theorem pe_lenSetT (hc : X.calm = true) (hg : Gl X "len") (hm : X.mg "len" = none) (hg2 : Gl X "set") (hm2 : X.mg "set" = none) (ha : PE X a ta)
    (na : starEach [a] X.env = (false, eval a X.env) :: starEach [] X.env := by rfl) : PE X (.Call (.Name "len" p) [.Call (.Name "set" p2) [a] [] q] [] pos) (tLenSetT X.K ta) := by
  refine ⟨fun pins s σ H Q I h => Call_ (ld_blt I hg hm boot_len ?_)⟩
  refine PyProof.Rows.callWith_builtin1 (PyProof.Rows.args_cons (Call_ (ld_blt I hg2 hm2 boot_set ?_)) rfl) rfl rfl
  refine PyProof.Rows.callWith_type1 (PyProof.Rows.args_cons (thn (ha.run pins s σ H _ I h) fun v s1 ⟨x, H1, I1, r1, l, xs, ex, sq, few, q1⟩ => PyProof.Rows.args_nil ?_) na) na rfl
  subst ex
  cases r1
  obtain ⟨its, r, pl, hz⟩ := I1.tuple sq
  refine set_texts (I1.ok.hd hc) pl (by simpa using strsAre_of r) (Nat.lt_of_le_of_lt (Nat.succ_le_succ few) (by decide)) fun h1 tk left => PyProof.Rows.args_nil ?_
  obtain ⟨⟨o, es, ep, t, ho, exact', hd, _, _, _, fits, hn⟩, k⟩ := left
  have I2 : Inv X pins σ H1 { s1 with heap := h1, toks := tk } := I1.kept k
  have small : (uniq xs).length ≤ 1000 := Nat.le_trans (uniq_len xs) few
  exact call_len_set ho exact' hd fits (by rw [hn]; omega) ⟨.int ((uniq xs).length : Nat), H1, I2.tok _, ⟨_, by rw [hn]⟩, q1⟩
end
end RS

set_option Elab.async false
set_option linter.all false
set_option maxRecDepth 100000
/-! data in place of heaps: what a value stands for, and the state of a def's body by data alone -/
namespace DL
open PySem PySem.Spec PyProof.Rows L2
inductive D where
  | non | bl (b : Bool) | int (i : Int) | str (x : Str) | ty (n : String) | adr (a : Addr)
  | lst (xs : List D) | ro (xs : List D) | tup (xs : List D) | rot (xs : List D) | obj (C : Addr) (fs : List (Str × D)) | dT (kvs : List (List Key × D)) | dK (kvs : List (Key × D))
  | exc (a : Addr) (cls : Value) (dd : Option Addr) (C : Addr) (fs : Option (List (Str × D))) | gho (vs : List V) (ds : List D)
  /-- a dict that nothing may write while a statement runs -/
  | lkd (p : Addr) (od : Obj) (vs : List (Key × V)) (kvs : List (Key × D))
  /-- a tuple of the module, or one that is read alone -/
  | ktp (xs : List D)
mutual
/-- the value v stands for the data d, in the part F of the heap that never changes -/
inductive Rep (K : PySem.W.Frag) (F : Hp) : V → D → Prop
  | non : Rep K F .non .non
  | bl (b : Bool) : Rep K F (.bl b) (.bl b)
  | int (i : Int) : Rep K F (.int i) (.int i)
  | str {x : Str} (k : PyData.strOk x = true) : Rep K F (.str x) (.str x)
  | ty (n : String) : Rep K F (.ty n) (.ty n)
  | adr (a : Addr) : Rep K F (.ref a) (.adr a)
  | lst {p : Addr} {vs : List V} {ds : List D} (s : F p = some (.lst vs)) (h : RepL K F vs ds) : Rep K F (.ref p) (.lst ds)
  | ro {p : Addr} {vs : List V} {ds : List D} (s : SqL K F p vs) (h : RepL K F vs ds) : Rep K F (.ref p) (.ro ds)
  | tup {p : Addr} {vs : List V} {ds : List D} (s : F p = some (.tup vs)) (h : RepL K F vs ds) : Rep K F (.ref p) (.tup ds)
  /-- a tuple whose whole object is known: it has no dict -/
  | rot {p : Addr} {vs : List V} {ds : List D} {ob : Obj} (s : F p = some (.frz ob (.tup vs))) (hc : ob.cls = .type "tuple") (hd : ob.dict = none) (h : RepL K F vs ds) : Rep K F (.ref p) (.rot ds)
  | obj {p C dx : Addr} {vs : List (Str × V)} {fs : List (Str × D)} (s : F p = some (.ins C dx vs)) (h : RepF K F vs fs) : Rep K F (.ref p) (.obj C fs)
  | dT {p : Addr} {vs : List (List Key × V)} {ds : List (List Key × D)} (s : Rd F p (.dT vs)) (h : RepT K F vs ds) : Rep K F (.ref p) (.dT ds)
  | dK {p : Addr} {vs : List (Key × V)} {ds : List (Key × D)} (s : Rd F p (.dK vs)) (h : RepK K F vs ds) : Rep K F (.ref p) (.dK ds)
  | exc0 {a C : Addr} : Rep K F (.ref a) (.exc a (.ref C) none C none)
  | exc {a C dd : Addr} {vs : List (Str × V)} {fs : List (Str × D)} (s : F dd = some (.xd vs)) (h : RepF K F vs fs) : Rep K F (.ref a) (.exc a (.ref C) (some dd) C (some fs))
  /-- several values that are walked together -/
  | gho {vs : List V} {ds : List D} (h : RepL K F vs ds) : Rep K F (.int 0) (.gho vs ds)
  | lkd {p : Addr} {od : Obj} {vs : List (Key × V)} {ds : List (Key × D)} (s : F p = some (.frz od (.dK vs))) (h : RepK K F vs ds) : Rep K F (.ref p) (.lkd p od vs ds)
  | ktp {p : Addr} {vs : List V} {ds : List D} (s : SqT K F p vs) (h : RepL K F vs ds) : Rep K F (.ref p) (.ktp ds)
inductive RepL (K : PySem.W.Frag) (F : Hp) : List V → List D → Prop
  | nil : RepL K F [] []
  | cons {v : V} {d : D} {vs : List V} {ds : List D} (h : Rep K F v d) (t : RepL K F vs ds) : RepL K F (v :: vs) (d :: ds)
inductive RepF (K : PySem.W.Frag) (F : Hp) : List (Str × V) → List (Str × D) → Prop
  | nil : RepF K F [] []
  | cons {n : Str} {v : V} {d : D} {vs : List (Str × V)} {ds : List (Str × D)} (h : Rep K F v d) (t : RepF K F vs ds) : RepF K F ((n, v) :: vs) ((n, d) :: ds)
inductive RepT (K : PySem.W.Frag) (F : Hp) : List (List Key × V) → List (List Key × D) → Prop
  | nil : RepT K F [] []
  | cons {n : List Key} {v : V} {d : D} {vs : List (List Key × V)} {ds : List (List Key × D)} (h : Rep K F v d) (t : RepT K F vs ds) : RepT K F ((n, v) :: vs) ((n, d) :: ds)
inductive RepK (K : PySem.W.Frag) (F : Hp) : List (Key × V) → List (Key × D) → Prop
  | nil : RepK K F [] []
  | cons {n : Key} {v : V} {d : D} {vs : List (Key × V)} {ds : List (Key × D)} (h : Rep K F v d) (t : RepK K F vs ds) : RepK K F ((n, v) :: vs) ((n, d) :: ds)
end
theorem sqt_mono {K : PySem.W.Frag} {F F' : Hp} {a : Addr} {xs : List V} (e : Same F F') (h : SqT K F a xs) : SqT K F' a xs := by
  rcases h with (h | ⟨o, h⟩) | h
  · exact .inl (.inl (e _ _ h))
  · exact .inl (.inr ⟨o, e _ _ h⟩)
  · exact .inr h
theorem rd_mono {F F' : Hp} {a : Addr} {u : HO} (e : Same F F') (h : Rd F a u) : Rd F' a u := by
  rcases h with h | ⟨o, h⟩
  · exact .inl (e _ _ h)
  · exact .inr ⟨o, e _ _ h⟩
section
variable {K : PySem.W.Frag} {F F' : Hp}
mutual
theorem Rep.mono (e : Same F F') : ∀ {v : V} {d : D}, Rep K F v d → Rep K F' v d
  | _, _, .non => .non
  | _, _, .bl b => .bl b
  | _, _, .int i => .int i
  | _, _, .str k => .str k
  | _, _, .ty n => .ty n
  | _, _, .adr a => .adr a
  | _, _, .lst s h => .lst (e _ _ s) (h.mono e)
  | _, _, .ro s h => .ro (e.seq s) (h.mono e)
  | _, _, .tup s h => .tup (e _ _ s) (h.mono e)
  | _, _, .rot s hc hd h => .rot (e _ _ s) hc hd (h.mono e)
  | _, _, .obj s h => .obj (e _ _ s) (h.mono e)
  | _, _, .dT s h => .dT (rd_mono e s) (h.mono e)
  | _, _, .dK s h => .dK (rd_mono e s) (h.mono e)
  | _, _, .exc0 => .exc0
  | _, _, .exc s h => .exc (e _ _ s) (h.mono e)
  | _, _, .gho h => .gho (h.mono e)
  | _, _, .lkd s h => .lkd (e _ _ s) (h.mono e)
  | _, _, .ktp s h => .ktp (sqt_mono e s) (h.mono e)
theorem RepL.mono (e : Same F F') : ∀ {vs : List V} {ds : List D}, RepL K F vs ds → RepL K F' vs ds
  | _, _, .nil => .nil
  | _, _, .cons h t => .cons (h.mono e) (t.mono e)
theorem RepF.mono (e : Same F F') : ∀ {vs : List (Str × V)} {ds : List (Str × D)}, RepF K F vs ds → RepF K F' vs ds
  | _, _, .nil => .nil
  | _, _, .cons h t => .cons (h.mono e) (t.mono e)
theorem RepT.mono (e : Same F F') : ∀ {vs : List (List Key × V)} {ds : List (List Key × D)}, RepT K F vs ds → RepT K F' vs ds
  | _, _, .nil => .nil
  | _, _, .cons h t => .cons (h.mono e) (t.mono e)
theorem RepK.mono (e : Same F F') : ∀ {vs : List (Key × V)} {ds : List (Key × D)}, RepK K F vs ds → RepK K F' vs ds
  | _, _, .nil => .nil
  | _, _, .cons h t => .cons (h.mono e) (t.mono e)
end
end
end DL

set_option Elab.async false
set_option linter.all false
set_option maxRecDepth 100000
namespace DL
open PySem PySem.Spec PyProof.Rows L2
/-- what a changing object holds -/
inductive OC where
  | lst (ds : List D) | ins (C : Addr) (fs : List (Str × D)) | dT (kvs : List (List Key × D)) | dK (kvs : List (Key × D))
  /-- the table of a code object, whose code objects all bear the name q -/
  | tab (P : Addr) (q : Str)
def OC.toD : OC → D
  | .lst ds => .lst ds
  | .ins C fs => .obj C fs
  | .dT kvs => .dT kvs
  | .dK kvs => .dK kvs
  | .tab P _ => .adr P
/-- a value: data that never changes, or an object of the body's own that may change -/
inductive DV where
  | d (x : D) | own (o : OC)
def DV.toD : DV → D
  | .d x => x
  | .own o => o.toD
abbrev DSt := List (Option DV)
inductive Hold where
  | s (i : Nat) | t (n : Nat)
  deriving DecidableEq
/-- the frame: the slots of the arguments that may change, their addresses, the heaps at the entry -/
structure Fc where
  sl : List Nat
  ad : List Addr
  F0 : Hp
  H0 : Hp
def OwnRep (K : PySem.W.Frag) (F H : Hp) (p : Addr) : OC → Prop
  | .lst ds => ∃ vs, H p = some (.lst vs) ∧ RepL K F vs ds
  | .ins C fs => ∃ dx vs, H p = some (.ins C dx vs) ∧ RepF K F vs fs
  | .dT kvs => ∃ vs, H p = some (.dT vs) ∧ RepT K F vs kvs
  | .dK kvs => ∃ vs, H p = some (.dK vs) ∧ RepK K F vs kvs
  | .tab P q => P = p ∧ ∃ ps : Array Value, H p = some (.tbl ps) ∧ TriplesOk ps.toList ∧ ∀ (pos : Pos) (cv : Value), codeAmong pos ps.toList = some cv → ∃ c, cv = .ref c ∧ F c = some (LamX.CodeO c q)
/-- an address of the body's own: made since the entry, or an argument's -/
def NewAt (c : Fc) (h : Hold) (p : Addr) : Prop := c.H0 p = none ∨ (p ∈ c.ad ∧ ∃ i, h = .s i ∧ i ∈ c.sl)
def RepV (K : PySem.W.Frag) (c : Fc) (F H : Hp) (ow : Addr → Option Hold) (h : Hold) (v : V) : DV → Prop
  | .d x => Rep K F v x
  | .own o => ∃ p, v = .ref p ∧ ow p = some h ∧ F p = none ∧ NewAt c h p ∧ OwnRep K F H p o
def RepTmp (K : PySem.W.Frag) (c : Fc) (F H : Hp) (ow : Addr → Option Hold) : List (V × DV) → Prop
  | [] => True
  | (v, x) :: r => RepV K c F H ow (.t r.length) v x ∧ RepTmp K c F H ow r
structure SttF (K : PySem.W.Frag) (c : Fc) (F : Hp) (ow : Addr → Option Hold) (δ : DSt) (tmp : List (V × DV)) (σ : L2.St) (H : Hp) : Prop where
  fh : Same F H
  f0 : Same c.F0 F
  fn : ∀ a, F a ≠ none → c.F0 a ≠ none ∨ c.H0 a = none
  fr : ∀ a o, c.H0 a = some o → a ∉ c.ad → H a = some o
  up : ∀ a, H a = none → c.H0 a = none
  len : σ.length = δ.length
  sl : ∀ (i : Nat) (x : DV), δ[i]? = some (some x) → ∃ v, σ[i]? = some (some v) ∧ RepV K c F H ow (.s i) v x
  tm : RepTmp K c F H ow tmp
  ps : ∀ (k i : Nat) (p : Addr), c.sl[k]? = some i → c.ad[k]? = some p → σ[i]? = some (some (.ref p))
def Stt (K : PySem.W.Frag) (c : Fc) (δ : DSt) (tmp : List (V × DV)) (σ : L2.St) (H : Hp) : Prop := ∃ F ow, SttF K c F ow δ tmp σ H
/-- an operation that makes new objects alone -/
structure Ext (F H F' H' : Hp) : Prop where
  f : Same F F'
  h : Same H H'
  fh : Same F' H'
  nw : ∀ a, F' a ≠ none → F a ≠ none ∨ H a = none
theorem Ext.refl {F H : Hp} (s : Same F H) : Ext F H F H := ⟨Same.refl _, Same.refl _, s, fun _ h => .inl h⟩
theorem Ext.trans {F H F1 H1 F2 H2 : Hp} (a : Ext F H F1 H1) (b : Ext F1 H1 F2 H2) : Ext F H F2 H2 :=
  ⟨a.f.trans b.f, a.h.trans b.h, b.fh, fun x q => (b.nw x q).elim (a.nw x) fun z => .inr (a.h.free z)⟩
theorem same_upd {H H' : Hp} {p : Addr} {o : HO} (s : Same H H') (n : H' p = none) : Same H (upd H' p o) := fun b u e => by
  rw [upd_ne (ne_of_none (s _ _ e) n)]
  exact s _ _ e
theorem same_upd2 {F H : Hp} {p : Addr} {o : HO} (s : Same F H) : Same (upd F p o) (upd H p o) := fun b u e => by
  by_cases q : b = p
  · subst q
    rw [upd_same] at e ⊢
    exact e
  · rw [upd_ne q] at e ⊢
    exact s _ _ e
theorem same_upd1 {F H : Hp} {p : Addr} {o : HO} (s : Same F H) (e : H p = some o) : Same (upd F p o) H := fun b u q => by
  by_cases z : b = p
  · subst z
    rw [upd_same] at q
    rw [e]
    exact q
  · rw [upd_ne z] at q
    exact s _ _ q
/-- a new object, frozen at once -/
theorem Ext.new {F H : Hp} {p : Addr} {o : HO} (s : Same F H) (n : H p = none) : Ext F H (upd F p o) (upd H p o) :=
  ⟨same_upd (Same.refl F) (s.free n), same_upd (Same.refl H) n, same_upd2 s, fun a q => by
    by_cases z : a = p
    · subst z
      exact .inr n
    · rw [upd_ne z] at q
      exact .inl q⟩
/-- a new object, not frozen -/
theorem Ext.newH {F H : Hp} {p : Addr} {o : HO} (s : Same F H) (n : H p = none) : Ext F H F (upd H p o) :=
  ⟨Same.refl F, same_upd (Same.refl H) n, same_upd s n, fun _ q => .inl q⟩
section
variable {K : PySem.W.Frag} {c : Fc} {F F' H H' : Hp} {ow ow' : Addr → Option Hold} {δ : DSt} {tmp : List (V × DV)} {σ : L2.St} {v : V} {x : DV} {d : D} {o : OC} {h : Hold} {p : Addr} {i : Nat}
theorem OwnRep.has (q : OwnRep K F H p o) : H p ≠ none := by
  cases o with
  | lst ds => obtain ⟨vs, e, _⟩ := q; rw [e]; exact fun z => nomatch z
  | ins C fs => obtain ⟨dx, vs, e, _⟩ := q; rw [e]; exact fun z => nomatch z
  | dT kvs => obtain ⟨vs, e, _⟩ := q; rw [e]; exact fun z => nomatch z
  | dK kvs => obtain ⟨vs, e, _⟩ := q; rw [e]; exact fun z => nomatch z
  | tab P r => obtain ⟨_, vs, e, _⟩ := q; rw [e]; exact fun z => nomatch z
theorem OwnRep.mono (q : OwnRep K F H p o) (f : Same F F') (e : H' p = H p) : OwnRep K F' H' p o := by
  cases o with
  | lst ds => obtain ⟨vs, z, r⟩ := q; exact ⟨vs, e.trans z, r.mono f⟩
  | ins C fs => obtain ⟨dx, vs, z, r⟩ := q; exact ⟨dx, vs, e.trans z, r.mono f⟩
  | dT kvs => obtain ⟨vs, z, r⟩ := q; exact ⟨vs, e.trans z, r.mono f⟩
  | dK kvs => obtain ⟨vs, z, r⟩ := q; exact ⟨vs, e.trans z, r.mono f⟩
  | tab P r => obtain ⟨a, vs, z, t, h⟩ := q; exact ⟨a, vs, e.trans z, t, fun pos cv k => let ⟨c, e1, e2⟩ := h pos cv k; ⟨c, e1, f _ _ e2⟩⟩
theorem Same.at {p : Addr} (s : Same H H') (n : H p ≠ none) : H' p = H p := by
  cases q : H p with
  | none => exact absurd q n
  | some u => exact s _ _ q
theorem RepV.ext (q : RepV K c F H ow h v x) (e : Ext F H F' H') : RepV K c F' H' ow h v x := by
  cases x with
  | d y => exact Rep.mono e.f q
  | own o =>
    obtain ⟨p, rfl, a, n, w, r⟩ := q
    refine ⟨p, rfl, a, ?_, w, r.mono e.f (Same.at e.h r.has)⟩
    cases z : F' p with
    | none => rfl
    | some u =>
      rcases e.nw p (by rw [z]; exact fun q => nomatch q) with y | y
      · exact absurd n y
      · exact absurd y r.has
theorem RepTmp.ext (e : Ext F H F' H') : ∀ {tmp : List (V × DV)}, RepTmp K c F H ow tmp → RepTmp K c F' H' ow tmp
  | [], _ => True.intro
  | (_, _) :: _, q => ⟨q.1.ext e, RepTmp.ext e q.2⟩
theorem SttF.ext (S : SttF K c F ow δ tmp σ H) (e : Ext F H F' H') : SttF K c F' ow δ tmp σ H' :=
  ⟨e.fh, S.f0.trans e.f, fun a q => (e.nw a q).elim (S.fn a) fun z => .inr (S.up a z), fun a o q n => e.h _ _ (S.fr a o q n), fun a q => S.up a (e.h.free q), S.len,
    fun i x q => let ⟨v, e1, e2⟩ := S.sl i x q; ⟨v, e1, e2.ext e⟩, RepTmp.ext e S.tm, S.ps⟩
theorem SttF.push (S : SttF K c F ow δ tmp σ H) (r : Rep K F v d) : SttF K c F ow δ ((v, .d d) :: tmp) σ H := { S with tm := ⟨r, S.tm⟩ }
theorem SttF.pop (S : SttF K c F ow δ ((v, x) :: tmp) σ H) : SttF K c F ow δ tmp σ H := { S with tm := S.tm.2 }
theorem SttF.top (S : SttF K c F ow δ ((v, .d d) :: tmp) σ H) : Rep K F v d := S.tm.1
/-- the holder of one address changes -/
def owSet (ow : Addr → Option Hold) (p : Addr) (h : Hold) : Addr → Option Hold := fun a => if a = p then some h else ow a
theorem RepV.reown (q : RepV K c F H ow h v x) (n : ∀ p, v = .ref p → ow p = some h → H p ≠ none → ow' p = ow p) : RepV K c F H ow' h v x := by
  cases x with
  | d y => exact q
  | own o =>
    obtain ⟨p, rfl, a, b, w, r⟩ := q
    exact ⟨p, rfl, (n p rfl a r.has).trans a, b, w, r⟩
theorem RepTmp.reown (n : ∀ (k : Nat) p, k < tmp.length → ow p = some (.t k) → H p ≠ none → ow' p = ow p) (q : RepTmp K c F H ow tmp) : RepTmp K c F H ow' tmp := by
  induction tmp with
  | nil => exact True.intro
  | cons a r ih =>
    obtain ⟨v, x⟩ := a
    exact ⟨q.1.reown fun p _ e z => n _ p (Nat.lt_succ_self _) e z, ih (fun k p hk e z => n k p (Nat.lt_succ_of_lt hk) e z) q.2⟩
theorem owSet_ne {p a : Addr} (n : a ≠ p) : owSet ow p h a = ow a := if_neg n
theorem owSet_at {p : Addr} : owSet ow p h p = some h := if_pos rfl
theorem SttF.reown (S : SttF K c F ow δ tmp σ H) (ns : ∀ (k : Nat) p, ow p = some (.s k) → H p ≠ none → ow' p = ow p) (nt : ∀ (k : Nat) p, k < tmp.length → ow p = some (.t k) → H p ≠ none → ow' p = ow p) : SttF K c F ow' δ tmp σ H :=
  { S with sl := fun i x q => let ⟨v, e1, e2⟩ := S.sl i x q; ⟨v, e1, e2.reown fun p _ e z => ns i p e z⟩, tm := RepTmp.reown nt S.tm }
/-- a new object of the body's own -/
theorem SttF.pushNew {ob : HO} (S : SttF K c F ow δ tmp σ H) (n : H p = none) (r : OwnRep K F (upd H p ob) p o) : SttF K c F (owSet ow p (.t tmp.length)) δ ((.ref p, .own o) :: tmp) σ (upd H p ob) := by
  have S1 := S.reown (ow' := owSet ow p (.t tmp.length)) (fun k a _ z => owSet_ne fun e => z (by rw [e]; exact n)) (fun k a _ _ z => owSet_ne fun e => z (by rw [e]; exact n))
  have S2 := S1.ext (Ext.newH (o := ob) S.fh n)
  refine { S2 with tm := ⟨⟨p, rfl, owSet_at, ?_, .inl (S.up _ n), r⟩, S2.tm⟩ }
  cases q : F p with
  | none => rfl
  | some u => rw [S.fh _ _ q] at n; cases n
/-- what is on top of the stack will change no more -/
theorem OwnRep.freeze (q : OwnRep K F H p o) (n : F p = none) (s : Same F H) : ∃ u : HO, H p = Option.some u ∧ Rep K (upd F p u) (.ref p) o.toD := by
  cases o with
  | lst ds => obtain ⟨vs, e, r⟩ := q; exact ⟨_, e, .lst upd_same (r.mono (same_upd (Same.refl F) n))⟩
  | ins C fs => obtain ⟨dx, vs, e, r⟩ := q; exact ⟨_, e, .obj upd_same (r.mono (same_upd (Same.refl F) n))⟩
  | dT kvs => obtain ⟨vs, e, r⟩ := q; exact ⟨_, e, .dT (.inl upd_same) (r.mono (same_upd (Same.refl F) n))⟩
  | dK kvs => obtain ⟨vs, e, r⟩ := q; exact ⟨_, e, .dK (.inl upd_same) (r.mono (same_upd (Same.refl F) n))⟩
  | tab P r => obtain ⟨a, vs, e, _⟩ := q; subst a; exact ⟨_, e, .adr _⟩
/-- the frozen part grows by an object that one holder has: all other holders keep theirs -/
theorem RepV.frz {u : HO} (q : RepV K c F H ow h v x) (n : F p = none) (ne : ∀ a, v = .ref a → ow a = some h → a ≠ p) : RepV K c (upd F p u) H ow h v x := by
  have s : Same F (upd F p u) := same_upd (Same.refl F) n
  cases x with
  | d y => exact Rep.mono s q
  | own o =>
    obtain ⟨a, rfl, e, b, w, r⟩ := q
    exact ⟨a, rfl, e, by rw [upd_ne (ne a rfl e)]; exact b, w, r.mono s rfl⟩
theorem RepTmp.frz {u : HO} (n : F p = none) (ne : ∀ (k : Nat) a, k < tmp.length → ow a = some (.t k) → a ≠ p) (q : RepTmp K c F H ow tmp) : RepTmp K c (upd F p u) H ow tmp := by
  induction tmp with
  | nil => exact True.intro
  | cons a r ih =>
    obtain ⟨v, x⟩ := a
    exact ⟨q.1.frz n fun a _ e => ne _ a (Nat.lt_succ_self _) e, ih (fun k a hk e => ne k a (Nat.lt_succ_of_lt hk) e) q.2⟩
/-- any holder's own object is frozen (no argument's) -/
theorem SttF.freezeAt {u : HO} (S : SttF K c F ow δ tmp σ H) (e : H p = some u) (n : F p = none) (w : c.H0 p = none) (ns : ∀ (k : Nat) x, δ[k]? = some (some x) → ow p ≠ some (.s k)) (nt : ∀ (k : Nat), k < tmp.length → ow p ≠ some (.t k)) : SttF K c (upd F p u) ow δ tmp σ H where
  fh := same_upd1 S.fh e
  f0 := S.f0.trans (same_upd (Same.refl F) n)
  fn := fun a q => by
    by_cases z : a = p
    · subst z; exact .inr w
    · rw [upd_ne z] at q; exact S.fn a q
  fr := S.fr
  up := S.up
  len := S.len
  sl := fun i x q => let ⟨v, e1, e2⟩ := S.sl i x q; ⟨v, e1, e2.frz n fun a _ z y => by subst y; exact ns i x q z⟩
  tm := RepTmp.frz n (fun k a hk z y => by subst y; exact nt k hk z) S.tm
  ps := S.ps
theorem NewAt.t {k : Nat} (w : NewAt c (.t k) p) : c.H0 p = none := by
  rcases w with w | ⟨_, i, e, _⟩
  · exact w
  · cases e
theorem SttF.top_frz (S : SttF K c F ow δ ((v, x) :: tmp) σ H) : ∃ F', SttF K c F' ow δ ((v, .d x.toD) :: tmp) σ H ∧ Same F F' := by
  cases x with
  | d y => exact ⟨F, S, Same.refl F⟩
  | own o =>
    obtain ⟨p, rfl, e, b, w, r⟩ := S.tm.1
    obtain ⟨u, eu, r'⟩ := r.freeze b S.fh
    have S1 := S.pop.freezeAt eu b w.t (fun k x _ z => by rw [e] at z; cases z) (fun k hk z => by rw [e] at z; cases z; exact absurd hk (Nat.lt_irrefl _))
    exact ⟨upd F p u, S1.push r', same_upd (Same.refl F) b⟩
/-- the two on top -/
theorem SttF.top_frz2 {w : V} {y : DV} (S : SttF K c F ow δ ((v, x) :: (w, y) :: tmp) σ H) : ∃ F', SttF K c F' ow δ ((v, .d x.toD) :: (w, .d y.toD) :: tmp) σ H ∧ Same F F' := by
  obtain ⟨F1, S1, s1⟩ := S.top_frz
  obtain ⟨F2, S2, s2⟩ := S1.pop.top_frz
  exact ⟨F2, S2.push (S1.top.mono s2), s1.trans s2⟩
/-- a name is bound to what is on top -/
theorem SttF.set (S : SttF K c F ow δ ((v, x) :: tmp) σ H) (hi : i < δ.length) (ni : i ∉ c.sl) : ∃ ow', SttF K c F ow' (δ.set i (some x)) tmp (σ.set i (some v)) H := by
  have hs : i < σ.length := by rw [S.len]; exact hi
  have ps' : ∀ (k j : Nat) (p : Addr), c.sl[k]? = some j → c.ad[k]? = some p → (σ.set i (some v))[j]? = some (some (.ref p)) := fun k j p q1 q2 => by
    rw [List.getElem?_set_ne (fun z => ni (by rw [z]; exact List.mem_of_getElem? q1))]
    exact S.ps k j p q1 q2
  cases x with
  | d y =>
    refine ⟨ow, { S.pop with len := by rw [List.length_set, List.length_set]; exact S.len, sl := fun j z q => ?_, ps := ps' }⟩
    by_cases e : i = j
    · subst e
      rw [List.getElem?_set_self hi] at q
      cases q
      exact ⟨v, List.getElem?_set_self hs, S.top⟩
    · rw [List.getElem?_set_ne e] at q ⊢
      exact S.sl j z q
  | own o =>
    obtain ⟨p, rfl, e, b, w, r⟩ := S.tm.1
    have S1 := S.pop.reown (ow' := owSet ow p (.s i)) (fun k a z _ => owSet_ne fun y => by subst y; rw [e] at z; cases z) (fun k a hk z _ => owSet_ne fun y => by subst y; rw [e] at z; cases z; exact absurd hk (Nat.lt_irrefl _))
    refine ⟨owSet ow p (.s i), { S1 with len := by rw [List.length_set, List.length_set]; exact S.len, sl := fun j z q => ?_, ps := ps' }⟩
    by_cases e' : i = j
    · subst e'
      rw [List.getElem?_set_self hi] at q
      cases q
      exact ⟨.ref p, List.getElem?_set_self hs, p, rfl, owSet_at, b, .inl w.t, r⟩
    · rw [List.getElem?_set_ne e'] at q ⊢
      exact S1.sl j z q
/-- a slot is forgotten -/
theorem SttF.unset (S : SttF K c F ow δ tmp σ H) : SttF K c F ow (δ.set i none) tmp σ H := by
  refine { S with len := by rw [List.length_set]; exact S.len, sl := fun j z q => ?_ }
  by_cases e : i = j
  · subst e
    rcases Nat.lt_or_ge i δ.length with h | h
    · rw [List.getElem?_set_self h] at q; cases q
    · rw [List.getElem?_eq_none (by rw [List.length_set]; exact h)] at q; cases q
  · rw [List.getElem?_set_ne e] at q
    exact S.sl j z q
theorem set_lt {α : Type} {l : List α} {i : Nat} {x : α} (h : l[i]? = some x) : i < l.length := (List.getElem?_eq_some_iff.mp h).1
/-- the value at a slot goes on top of the stack; the slot is forgotten -/
theorem SttF.move (S : SttF K c F ow δ tmp σ H) (q : δ[i]? = some (some x)) (ni : i ∉ c.sl) : ∃ v ow', σ[i]? = some (some v) ∧ SttF K c F ow' (δ.set i none) ((v, x) :: tmp) σ H := by
  obtain ⟨v, e1, r⟩ := S.sl i x q
  cases x with
  | d y => exact ⟨v, ow, e1, { S.unset with tm := ⟨r, S.tm⟩ }⟩
  | own o =>
    obtain ⟨p, rfl, e, b, w, r⟩ := r
    have w' : c.H0 p = none := by
      rcases w with w | ⟨_, j, e, hj⟩
      · exact w
      · cases e; exact absurd hj ni
    -- the slot is forgotten first: then nobody but the stack holds p
    have S0 := S.unset (i := i)
    refine ⟨.ref p, owSet ow p (.t tmp.length), e1, { S0 with sl := fun j z qz => ?_, tm := ⟨⟨p, rfl, owSet_at, b, .inl w', r⟩, RepTmp.reown (fun k a hk z _ => owSet_ne fun y => by subst y; rw [e] at z; cases z) S.tm⟩ }⟩
    obtain ⟨u, e2, r2⟩ := S0.sl j z qz
    refine ⟨u, e2, r2.reown fun a _ z' _ => owSet_ne fun y => ?_⟩
    subst y
    rw [e] at z'
    cases z'
    rw [List.getElem?_set_self (set_lt q)] at qz
    cases qz
/-- the value at a slot, frozen, is read -/
theorem SttF.slot_frz (S : SttF K c F ow δ tmp σ H) (q : δ[i]? = some (some x)) (ni : i ∉ c.sl) : ∃ v F', σ[i]? = some (some v) ∧ SttF K c F' ow (δ.set i (some (.d x.toD))) ((v, .d x.toD) :: tmp) σ H := by
  obtain ⟨v, e1, r⟩ := S.sl i x q
  have hi := set_lt q
  cases x with
  | d y =>
    refine ⟨v, F, e1, { S with len := by rw [List.length_set]; exact S.len, tm := ⟨r, S.tm⟩, sl := fun j z qz => ?_ }⟩
    by_cases e : i = j
    · subst e
      rw [List.getElem?_set_self hi] at qz
      cases qz
      exact ⟨v, e1, r⟩
    · rw [List.getElem?_set_ne e] at qz
      exact S.sl j z qz
  | own o =>
    obtain ⟨p, rfl, e, b, w, r⟩ := r
    have w' : c.H0 p = none := by
      rcases w with w | ⟨_, j, e, hj⟩
      · exact w
      · cases e; exact absurd hj ni
    obtain ⟨u, eu, r'⟩ := r.freeze b S.fh
    have S1 := (S.unset (i := i)).freezeAt eu b w' (fun k x qx z => by
      rw [e] at z; cases z
      rw [List.getElem?_set_self hi] at qx; cases qx) (fun k hk z => by rw [e] at z; cases z)
    refine ⟨.ref p, upd F p u, e1, { S1 with len := by rw [List.length_set]; exact S.len, tm := ⟨r', S1.tm⟩, sl := fun j z qz => ?_ }⟩
    by_cases e' : i = j
    · subst e'
      rw [List.getElem?_set_self hi] at qz
      cases qz
      exact ⟨.ref p, e1, r'⟩
    · rw [List.getElem?_set_ne e'] at qz
      exact S1.sl j z (by rw [List.getElem?_set_ne e']; exact qz)
/-- an own object is changed -/
theorem SttF.write {o o' : OC} {ob : HO} (S : SttF K c F ow δ tmp σ H) (q : δ[i]? = some (some (.own o))) (ep : σ[i]? = some (some (.ref p))) (r' : OwnRep K F (upd H p ob) p o') : SttF K c F ow (δ.set i (some (.own o'))) tmp σ (upd H p ob) := by
  obtain ⟨v, e1, p', rfl, e, b, w, r⟩ := S.sl i _ q
  rw [ep] at e1
  cases e1
  have hi := set_lt q
  have keep : ∀ {h : Hold} {v : V} {x : DV}, RepV K c F H ow h v x → h ≠ .s i → RepV K c F (upd H p ob) ow h v x := fun {h v x} y ne => by
    cases x with
    | d z => exact y
    | own z =>
      obtain ⟨a, rfl, ea, ba, wa, ra⟩ := y
      exact ⟨a, rfl, ea, ba, wa, ra.mono (Same.refl F) (upd_ne fun t => by subst t; rw [e] at ea; cases ea; exact ne rfl)⟩
  have keepT : ∀ {tmp : List (V × DV)}, RepTmp K c F H ow tmp → RepTmp K c F (upd H p ob) ow tmp := fun {tmp} => by
    induction tmp with
    | nil => exact fun _ => True.intro
    | cons a r ih =>
      obtain ⟨v, x⟩ := a
      exact fun y => ⟨keep y.1 (fun z => nomatch z), ih y.2⟩
  refine ⟨?_, S.f0, S.fn, fun a u z n => ?_, fun a z => ?_, by rw [List.length_set]; exact S.len, fun j z qz => ?_, keepT S.tm, S.ps⟩
  · exact fun a u z => by
      rw [upd_ne (ne_of_none z b)]
      exact S.fh _ _ z
  · rw [upd_ne (fun t => ?_)]
    · exact S.fr a u z n
    · subst t
      rcases w with w | ⟨w, _⟩
      · rw [w] at z; cases z
      · exact n w
  · by_cases t : a = p
    · subst t; rw [upd_same] at z; cases z
    · rw [upd_ne t] at z; exact S.up a z
  · by_cases e' : i = j
    · subst e'
      rw [List.getElem?_set_self hi] at qz
      cases qz
      exact ⟨.ref p, ep, p, rfl, e, b, w, r'⟩
    · rw [List.getElem?_set_ne e'] at qz
      obtain ⟨v, e2, r2⟩ := S.sl j z qz
      exact ⟨v, e2, keep r2 fun t => e' (by cases t; rfl)⟩
end
end DL

set_option Elab.async false
set_option linter.all false
set_option maxRecDepth 100000
namespace DL
open PySem PySem.Spec PyProof.Rows L2
/-- an exception: its class, its fields -/
structure Ex where
  C : Addr
  fs : Option (List (Str × D))
abbrev DK := DV → DSt → Prop
abbrev XD := Ex → DSt → Prop
abbrev TD := DSt → DK → XD → Prop
abbrev TDT := DSt → (Bool → DSt → Prop) → XD → Prop
/-- an argument: data, or the own object at a slot -/
inductive AV where
  | d (x : D) | o (i : Nat)
abbrev TDA := DSt → (List AV → DSt → Prop) → XD → Prop
structure EndsD where
  nx : DSt → Prop
  rt : DK
  ex : XD
  bk : DSt → Prop := fun _ => False
  ct : DSt → Prop := fun _ => False
abbrev TDS := EndsD → DSt → Prop
def ExRep (K : PySem.W.Frag) (F : Hp) (cls : Value) (d : Option Addr) (x : Ex) : Prop :=
  cls = .ref x.C ∧ match x.fs with
    | none => d = none
    | some fs => ∃ dd vs, d = some dd ∧ F dd = some (.xd vs) ∧ RepF K F vs fs
section
variable (K : PySem.W.Frag) (c : Fc) (W : WX)
/-- what is wished of an exception -/
def WD (tmp : List (V × DV)) (E : XD) : Prop := ∀ (x : Ex) (δ : DSt) (σ : L2.St) (H F : Hp) (ow : Addr → Option Hold) (cls : Value) (d : Option Addr), E x δ → SttF K c F ow δ tmp σ H → ExRep K F cls d x → W cls d σ H
def LE (t : TD) : TE := fun σ H Q => ∃ δ tmp Qd Ed, Stt K c δ tmp σ H ∧ t δ Qd Ed ∧ (∀ v x δ' H', Qd x δ' → Stt K c δ' ((v, x) :: tmp) σ H' → Q v H') ∧ WD K c W tmp Ed
def LT (t : TDT) : TT := fun σ H Q => ∃ δ tmp Qd Ed, Stt K c δ tmp σ H ∧ t δ Qd Ed ∧ (∀ b δ' H', Qd b δ' → Stt K c δ' tmp σ H' → Q b H') ∧ WD K c W tmp Ed
inductive RepArgs (F : Hp) (σ : L2.St) : List V → List AV → Prop
  | nil : RepArgs F σ [] []
  | d {v : V} {x : D} {vs : List V} {as : List AV} (h : Rep K F v x) (t : RepArgs F σ vs as) : RepArgs F σ (v :: vs) (.d x :: as)
  | o {v : V} {i : Nat} {vs : List V} {as : List AV} (h : σ[i]? = some (some v)) (t : RepArgs F σ vs as) : RepArgs F σ (v :: vs) (.o i :: as)
def LA (t : TDA) : TA := fun σ H Q => ∃ δ tmp Qd Ed, Stt K c δ tmp σ H ∧ t δ Qd Ed ∧ (∀ vs as δ' F ow H', Qd as δ' → SttF K c F ow δ' tmp σ H' → RepArgs K F σ vs as → Q vs H') ∧ WD K c W tmp Ed
def LS (t : TDS) : TS := fun D σ H => ∃ δ tmp Dd, Stt K c δ tmp σ H ∧ t Dd δ ∧ (∀ δ' σ' H', Dd.nx δ' → Stt K c δ' tmp σ' H' → D.nx σ' H') ∧ (∀ v x δ' σ' H', Dd.rt x δ' → Stt K c δ' ((v, x) :: tmp) σ' H' → D.rt v H') ∧
  (∀ δ' σ' H', Dd.bk δ' → Stt K c δ' tmp σ' H' → D.bk σ' H') ∧ (∀ δ' σ' H', Dd.ct δ' → Stt K c δ' tmp σ' H' → D.ct σ' H') ∧ WD K c W tmp Dd.ex
end
section
variable {K : PySem.W.Frag} {c : Fc} {W : WX} {tmp : List (V × DV)} {Ed : XD} {v : V} {x : DV}
theorem WD.push (w : WD K c W tmp Ed) : WD K c W ((v, x) :: tmp) Ed := fun y δ σ H F ow cls d e S r => w y δ σ H F ow cls d e S.pop r
end
theorem PE_imp {X : Cx} {e : Expr} {t t' : TE} (h : PE X e t) (f : ∀ σ H Q, t' σ H Q → t σ H Q) : PE X e t' := ⟨fun pins s σ H Q I q => h.run pins s σ H Q I (f _ _ _ q)⟩
theorem PT_imp {X : Cx} {e : Expr} {t t' : TT} (h : PT X e t) (f : ∀ σ H Q, t' σ H Q → t σ H Q) : PT X e t' := ⟨fun pins s σ H Q I q => h.run pins s σ H Q I (f _ _ _ q)⟩
theorem PW_imp {X : Cx} {e : Expr} {t t' : TT} (h : PW X e t) (f : ∀ σ H Q, t' σ H Q → t σ H Q) : PW X e t' := ⟨fun wh pins s σ H Q I q => h.run wh pins s σ H Q I (f _ _ _ q)⟩
theorem PA_imp {X : Cx} {e : List Expr} {t t' : TA} (h : PA X e t) (f : ∀ σ H Q, t' σ H Q → t σ H Q) : PA X e t' := ⟨fun pos pins s σ H Q I q => h.run pos pins s σ H Q I (f _ _ _ q)⟩
theorem PS_imp {X : Cx} {e : Stmt} {t t' : TS} (h : PS X e t) (f : ∀ D σ H, t' D σ H → t D σ H) : PS X e t' := ⟨fun pins s σ H D I q => h.run pins s σ H D I (f _ _ _ q)⟩
theorem PSs_imp {X : Cx} {e : List Stmt} {t t' : TS} (h : PSs X e t) (f : ∀ D σ H, t' D σ H → t D σ H) : PSs X e t' := ⟨fun pins s σ H D I q => h.run pins s σ H D I (f _ _ _ q)⟩
section
variable {X : Cx} {c : Fc} {W : WX}
/-! ### names and constants -/
def varD (i : Nat) : TD := fun δ Q _ => ∃ x, δ[i]? = some (some (.d x)) ∧ Q (.d x) δ
def fvarD (i : Nat) : TD := fun δ Q _ => ∃ x, δ[i]? = some (some x) ∧ Q (.d x.toD) (δ.set i (some (.d x.toD)))
def constD (d : D) : TD := fun δ Q _ => Q (.d d) δ
theorem pd_var {i : Nat} {x : Str} {pos : Pos} (h : PE X (.Name x pos) (tVar i)) : PE X (.Name x pos) (LE X.K c W (varD i)) := PE_imp h fun σ H Q ⟨δ, tmp, Qd, Ed, ⟨F, ow, S⟩, ⟨x, e, q⟩, k, w⟩ => by
  obtain ⟨v, e1, r⟩ := S.sl i _ e
  exact ⟨v, e1, k v _ _ _ q ⟨F, ow, S.push r⟩⟩
theorem pd_fvar {i : Nat} {x : Str} {pos : Pos} (h : PE X (.Name x pos) (tVar i)) (ni : i ∉ c.sl) : PE X (.Name x pos) (LE X.K c W (fvarD i)) := PE_imp h fun σ H Q ⟨δ, tmp, Qd, Ed, ⟨F, ow, S⟩, ⟨x, e, q⟩, k, w⟩ => by
  obtain ⟨v, F', e1, S'⟩ := S.slot_frz e ni
  exact ⟨v, e1, k v _ _ _ q ⟨F', ow, S'⟩⟩
theorem pd_const {e : Expr} {v : V} {d : D} (h : PE X e (tC v)) (r : ∀ F, Rep X.K F v d) : PE X e (LE X.K c W (constD d)) := PE_imp h fun σ H Q ⟨δ, tmp, Qd, Ed, ⟨F, ow, S⟩, q, k, w⟩ =>
  k v _ _ _ q ⟨F, ow, S.push (r F)⟩
/-! ### operators on two values -/
/-- an operation on two values that makes new objects alone; it may hand back a new object of one's own -/
inductive Made (K : PySem.W.Frag) (F H F' H' : Hp) (v : V) : DV → Prop where
  | d {x : D} (e : Ext F H F' H') (r : Rep K F' v x) : Made K F H F' H' v (.d x)
  | own {p : Addr} {ob : HO} {o : OC} (hv : v = .ref p) (n : H p = none) (hF : F' = F) (hH : H' = upd H p ob) (r : OwnRep K F (upd H p ob) p o) : Made K F H F' H' v (.own o)
theorem Made.stt {K : PySem.W.Frag} {F H F' H' : Hp} {v : V} {x : DV} {ow : Addr → Option Hold} {δ : DSt} {tmp : List (V × DV)} {σ : L2.St} (m : Made K F H F' H' v x) (S : SttF K c F ow δ tmp σ H) : Stt K c δ ((v, x) :: tmp) σ H' := by
  cases m with
  | d e r => exact ⟨_, _, (S.ext e).push r⟩
  | own hv n hF hH r => subst hv hF hH; exact ⟨_, _, S.pushNew n r⟩
abbrev RD2 := D → D → (DV → Prop) → Prop
def Op2 (K : PySem.W.Frag) (r : R2) (rd : RD2) : Prop := ∀ x y a b F H Q Qd, Same F H → Rep K F x a → Rep K F y b → rd a b Qd → (∀ v dv F' H', Qd dv → Made K F H F' H' v dv → Q v H') → r x y H Q
def opD (rd : RD2) (ta tb : TD) : TD := fun δ Q E => ta δ (fun x δ1 => tb δ1 (fun y δ2 => rd x.toD y.toD fun z => Q z δ2) E) E
theorem lift_op {K : PySem.W.Frag} {r : R2} {rd : RD2} {ta tb : TD} (ho : Op2 K r rd) : ∀ σ H Q, LE K c W (opD rd ta tb) σ H Q → tOp r (LE K c W ta) (LE K c W tb) σ H Q := fun σ H Q ⟨δ, tmp, Qd, Ed, S, t, k, w⟩ => by
  refine ⟨δ, tmp, _, Ed, S, t, fun x a δ1 H1 t1 S1 => ?_, w⟩
  refine ⟨δ1, _, _, Ed, S1, t1, fun y b δ2 H2 t2 S2 => ?_, w.push⟩
  obtain ⟨F, ow, S2⟩ := S2
  obtain ⟨F', S3, _⟩ := S2.top_frz2
  refine ho x y _ _ F' H2 Q _ S3.fh S3.pop.top S3.top t2 fun v dv F2 H3 q m => ?_
  exact k v dv δ2 H3 q (m.stt S3.pop.pop)
theorem pd_op {a b : Expr} {op : Operator} {r : R2} {rd : RD2} {ta tb : TD} {pos : Pos} (ho : OpR X (binaryOp op) r) (hd : Op2 X.K r rd) (ha : PE X a (LE X.K c W ta)) (hb : PE X b (LE X.K c W tb)) : PE X (.BinOp a op b pos) (LE X.K c W (opD rd ta tb)) :=
  PE_imp (pe_op ho ha hb) (lift_op hd)
theorem pd_cmp {a b : Expr} {op : CmpOp} {r : R2} {rd : RD2} {ta tb : TD} {pos : Pos} (ho : OpR X (compareOp op) r) (hd : Op2 X.K r rd) (ha : PE X a (LE X.K c W ta)) (hb : PE X b (LE X.K c W tb)) (hm : behindInMarks op b = false) : PE X (.Compare a [op] [b] pos) (LE X.K c W (opD rd ta tb)) :=
  PE_imp (pe_cmpR ho ha hb hm) (lift_op hd)
/-! ### the call of a def -/
/-- the addresses of the own objects among the arguments -/
inductive ArgsRep (K : PySem.W.Frag) (F H : Hp) : List V → List DV → List Addr → Prop
  | nil : ArgsRep K F H [] [] []
  | d {v : V} {x : D} {vs : List V} {as : List DV} {ps : List Addr} (h : Rep K F v x) (t : ArgsRep K F H vs as ps) : ArgsRep K F H (v :: vs) (.d x :: as) ps
  | own {p : Addr} {o : OC} {vs : List V} {as : List DV} {ps : List Addr} (n : F p = none) (h : OwnRep K F H p o) (np : p ∉ ps) (t : ArgsRep K F H vs as ps) : ArgsRep K F H (.ref p :: vs) (.own o :: as) (p :: ps)
inductive OwnsRep (K : PySem.W.Frag) (F H : Hp) : List Addr → List OC → Prop
  | nil : OwnsRep K F H [] []
  | cons {p : Addr} {o : OC} {ps : List Addr} {os : List OC} (n : F p = none) (h : OwnRep K F H p o) (t : OwnsRep K F H ps os) : OwnsRep K F H (p :: ps) (o :: os)
structure Post (K : PySem.W.Frag) (F H : Hp) (ps : List Addr) (os : List OC) (F' H' : Hp) : Prop where
  f : Same F F'
  fh : Same F' H'
  fr : ∀ a o, H a = some o → a ∉ ps → H' a = some o
  up : ∀ a, H' a = none → H a = none
  nw : ∀ a, F' a ≠ none → F a ≠ none ∨ H a = none
  os : OwnsRep K F' H' ps os
def RetRep (K : PySem.W.Frag) (F' H H' : Hp) (v : V) : DV → Prop
  | .d x => Rep K F' v x
  | .own o => ∃ p, v = .ref p ∧ H p = none ∧ F' p = none ∧ OwnRep K F' H' p o
abbrev SpD := List DV → (DV → List OC → Prop) → (Ex → List OC → Prop) → Prop
def spOf (K : PySem.W.Frag) (sd : SpD) : Sp := fun vs H Q E => ∃ F as ps Qd Ed, Same F H ∧ ArgsRep K F H vs as ps ∧ sd as Qd Ed ∧
  (∀ v x os F' H', Qd x os → Post K F H ps os F' H' → RetRep K F' H H' v x → Q v H') ∧ (∀ cls d x os F' H', Ed x os → Post K F H ps os F' H' → ExRep K F' cls d x → E cls d H')
/-- the arguments as they stand -/
def argsOf (δ : DSt) : List AV → List DV → Prop
  | [], as => as = []
  | .d x :: r, as => ∃ t, as = .d x :: t ∧ argsOf δ r t
  | .o i :: r, as => ∃ o t, δ[i]? = some (some (.own o)) ∧ as = .own o :: t ∧ argsOf δ r t
def slotsOf : List AV → List Nat
  | [] => []
  | .d _ :: r => slotsOf r
  | .o i :: r => i :: slotsOf r
def putBack (δ : DSt) : List Nat → List OC → DSt
  | i :: is, o :: os => putBack (δ.set i (some (.own o))) is os
  | _, _ => δ
def callD (sd : SpD) (ta : TDA) : TD := fun δ Q E => ta δ (fun as δ1 => ∃ xs, argsOf δ1 as xs ∧ (slotsOf as).Nodup ∧ sd xs (fun r os => Q r (putBack δ1 (slotsOf as) os)) (fun x os => E x (putBack δ1 (slotsOf as) os))) E
end
section
variable {K : PySem.W.Frag} {c : Fc} {W : WX} {F F' H H' : Hp} {ow : Addr → Option Hold} {δ : DSt} {tmp : List (V × DV)} {σ : L2.St}
theorem putBack_at : ∀ {is : List Nat} {os : List OC} {δ : DSt} {j : Nat} {x : DV}, is.Nodup → is.length = os.length → (putBack δ is os)[j]? = some (some x) → (∃ (k : Nat) (o : OC), is[k]? = some j ∧ os[k]? = some o ∧ x = .own o) ∨ (j ∉ is ∧ δ[j]? = some (some x))
  | [], [], δ, j, x, _, _, e => .inr ⟨(fun z => nomatch z), e⟩
  | i :: is, o :: os, δ, j, x, nd, hl, e => by
    rcases putBack_at (is := is) (os := os) (List.nodup_cons.mp nd).2 (Nat.succ.inj hl) e with ⟨k, o', a, b, r⟩ | ⟨n, q⟩
    · exact .inl ⟨k + 1, o', a, b, r⟩
    · by_cases z : i = j
      · subst z
        rcases Nat.lt_or_ge i δ.length with h | h
        · rw [List.getElem?_set_self h] at q
          cases q
          exact .inl ⟨0, o, rfl, rfl, rfl⟩
        · rw [List.getElem?_eq_none (by rw [List.length_set]; exact h)] at q
          cases q
      · rw [List.getElem?_set_ne z] at q
        exact .inr ⟨fun y => (List.mem_cons.mp y).elim (fun t => z t.symm) n, q⟩
  | [], _ :: _, _, _, _, _, h, _ => nomatch h
  | _ :: _, [], _, _, _, _, h, _ => nomatch h
theorem putBack_len : ∀ {is : List Nat} {os : List OC} {δ : DSt}, (putBack δ is os).length = δ.length
  | [], [], _ => rfl
  | [], _ :: _, _ => rfl
  | _ :: _, [], _ => rfl
  | i :: is, o :: os, δ => by
    show (putBack (δ.set i _) is os).length = _
    rw [putBack_len, List.length_set]
theorem OwnsRep.len : ∀ {ps : List Addr} {os : List OC}, OwnsRep K F H ps os → ps.length = os.length
  | _, _, .nil => rfl
  | _, _, .cons _ _ t => congrArg (· + 1) t.len
theorem OwnsRep.get : ∀ {ps : List Addr} {os : List OC} {k : Nat} {p : Addr} {o : OC}, OwnsRep K F H ps os → ps[k]? = some p → os[k]? = some o → F p = none ∧ OwnRep K F H p o
  | _, _, 0, _, _, .cons n h _, a, b => by cases a; cases b; exact ⟨n, h⟩
  | _, _, k + 1, _, _, .cons _ _ t, a, b => t.get (k := k) a b
/-- behind a call -/
theorem SttF.called {is : List Nat} {ps : List Addr} {os : List OC} (S : SttF K c F ow δ tmp σ H) (hp : ps.length = is.length) (hs : ∀ (k i : Nat) (p : Addr), is[k]? = some i → ps[k]? = some p → σ[i]? = some (some (.ref p)) ∧ ∃ o, δ[i]? = some (some (.own o))) (nd : is.Nodup) (P : Post K F H ps os F' H') :
    SttF K c F' ow (putBack δ is os) tmp σ H' := by
  have hl : is.length = os.length := by rw [← hp]; exact P.os.len
  have held : ∀ (k : Nat) (p : Addr), ps[k]? = some p → ∃ i, is[k]? = some i ∧ ow p = some (.s i) ∧ NewAt c (.s i) p := fun k p e => by
    have hk : k < is.length := by rw [← hp]; exact set_lt e
    obtain ⟨e1, o, e2⟩ := hs k is[k] p (List.getElem?_eq_getElem hk) e
    obtain ⟨v, e3, p', rfl, a, _, w, _⟩ := S.sl _ _ e2
    rw [e1] at e3
    cases e3
    exact ⟨_, List.getElem?_eq_getElem hk, a, w⟩
  have keep : ∀ {h : Hold} {v : V} {x : DV}, RepV K c F H ow h v x → (∀ (k i : Nat), is[k]? = some i → h ≠ .s i) → RepV K c F' H' ow h v x := fun {h v x} q ne => by
    cases x with
    | d y => exact Rep.mono P.f q
    | own o =>
      obtain ⟨p, rfl, a, b, w, r⟩ := q
      have np : p ∉ ps := fun z => by
        obtain ⟨k, hk⟩ := List.mem_iff_getElem?.mp z
        obtain ⟨i, e1, e2, _⟩ := held k p hk
        rw [a] at e2
        cases e2
        exact ne k i e1 rfl
      refine ⟨p, rfl, a, ?_, w, r.mono P.f ?_⟩
      · cases z : F' p with
        | none => rfl
        | some u =>
          rcases P.nw p (by rw [z]; exact fun q => nomatch q) with y | y
          · exact absurd b y
          · exact absurd y r.has
      · cases z : H p with
        | none => exact absurd z r.has
        | some u => exact P.fr _ _ z np
  have keepT : ∀ {tmp : List (V × DV)}, RepTmp K c F H ow tmp → RepTmp K c F' H' ow tmp := fun {tmp} => by
    induction tmp with
    | nil => exact fun _ => True.intro
    | cons a r ih => obtain ⟨v, x⟩ := a; exact fun y => ⟨keep y.1 (fun _ _ _ z => nomatch z), ih y.2⟩
  refine ⟨P.fh, S.f0.trans P.f, fun a q => (P.nw a q).elim (S.fn a) fun z => .inr (S.up a z), fun a o q n => P.fr a o (S.fr a o q n) fun z => ?_, fun a q => S.up a (P.up a q), by rw [putBack_len]; exact S.len, fun j x q => ?_, keepT S.tm, S.ps⟩
  · obtain ⟨k, hk⟩ := List.mem_iff_getElem?.mp z
    obtain ⟨i, _, _, w⟩ := held k a hk
    rcases w with w | ⟨w, _⟩
    · rw [w] at q; cases q
    · exact n w
  · rcases putBack_at nd hl q with ⟨k, o, e1, e2, rfl⟩ | ⟨nj, e⟩
    · have hk : k < ps.length := by rw [hp]; exact set_lt e1
      have ek := List.getElem?_eq_getElem hk
      obtain ⟨e3, _⟩ := hs k j _ e1 ek
      obtain ⟨i, e4, e5, w⟩ := held k _ ek
      rw [e1] at e4
      cases e4
      obtain ⟨n, r⟩ := P.os.get ek e2
      exact ⟨_, e3, _, rfl, e5, n, w, r⟩
    · obtain ⟨v, e1, r⟩ := S.sl j x e
      exact ⟨v, e1, keep r fun k i e2 z => nj (by cases z; exact List.mem_of_getElem? e2)⟩
/-- the arguments of a call -/
theorem args_rep (S : SttF K c F ow δ tmp σ H) : ∀ {as : List AV} {vs : List V} {xs : List DV}, RepArgs K F σ vs as → argsOf δ as xs → (slotsOf as).Nodup →
    ∃ ps, ArgsRep K F H vs xs ps ∧ ps.length = (slotsOf as).length ∧ ∀ (k i : Nat) (p : Addr), (slotsOf as)[k]? = some i → ps[k]? = some p → σ[i]? = some (some (.ref p)) ∧ ∃ o, δ[i]? = some (some (.own o))
  | [], _, _, .nil, e, _ => by
    cases e
    exact ⟨[], .nil, rfl, fun k i p e => by simp [slotsOf] at e⟩
  | .d x :: r, _, _, .d h t, e, nd => by
    obtain ⟨t', rfl, e⟩ := e
    obtain ⟨ps, a, b, q⟩ := args_rep S t e nd
    exact ⟨ps, .d h a, b, q⟩
  | .o i :: r, _, _, .o h t, e, nd => by
    obtain ⟨o, t', ei, rfl, e⟩ := e
    obtain ⟨ps, a, b, q⟩ := args_rep S t e (List.nodup_cons.mp nd).2
    obtain ⟨v, e1, p, rfl, e2, n, w, r'⟩ := S.sl _ _ ei
    rw [h] at e1
    cases e1
    refine ⟨p :: ps, .own n r' (fun z => ?_) a, congrArg (· + 1) b, fun k j p' => ?_⟩
    · obtain ⟨k, hk⟩ := List.mem_iff_getElem?.mp z
      have hk2 : k < (slotsOf r).length := by rw [← b]; exact set_lt hk
      obtain ⟨e3, o', e4⟩ := q k _ p (List.getElem?_eq_getElem hk2) hk
      obtain ⟨v, e5, p2, rfl, e6, _⟩ := S.sl _ _ e4
      rw [e3] at e5
      cases e5
      rw [e2] at e6
      have e7 : i = (slotsOf r)[k] := by injection Option.some.inj e6
      exact (List.nodup_cons.mp nd).1 (by rw [e7]; exact List.getElem_mem hk2)
    · cases k with
      | zero => intro e e'; cases e; cases e'; exact ⟨h, o, ei⟩
      | succ k => exact q k j p'
end
end DL

set_option Elab.async false
set_option linter.all false
set_option maxRecDepth 100000
namespace DL
open PySem PySem.Spec PyProof.Rows L2
/-! ### C(e, ..) whose __init__ may raise: what is raised is wished for at the slots -/
section
variable {X : Cx} {CX : CXT} {k : Nat} {f C : Addr} {fd : FuncData} {ps : List Str} {sp : Sp} {E : L2.St → XK} {x m : Str} {p pos apos : Pos} {e o : Expr} {es : List Expr} {ta : TE} {t : TA}
/-! ### o.m(e, ..), a method that may raise -/
end
section
variable {X : Cx} {c : Fc} {W : WX}
/-! ### arguments -/
def nilD : TDA := fun δ Q _ => Q [] δ
def consD (t : TD) (r : TDA) : TDA := fun δ Q E => t δ (fun x δ1 => r δ1 (fun as δ2 => Q (.d x.toD :: as) δ2) E) E
def consO (i : Nat) (r : TDA) : TDA := fun δ Q E => r δ (fun as δ2 => Q (.o i :: as) δ2) E
theorem pda_nil : PA X [] (LA X.K c W nilD) := PA_imp pa_nil fun σ H Q ⟨δ, tmp, Qd, Ed, ⟨F, ow, S⟩, q, k, w⟩ => k [] [] δ F ow H q S .nil
theorem pda_cons {e : Expr} {es : List Expr} {t : TD} {r : TDA} (he : PE X e (LE X.K c W t)) (hr : PA X es (LA X.K c W r)) (hs : starEach (e :: es) X.env = (false, eval e X.env) :: starEach es X.env := by rfl) : PA X (e :: es) (LA X.K c W (consD t r)) :=
  PA_imp (pa_cons he hr hs) fun σ H Q ⟨δ, tmp, Qd, Ed, S, t, k, w⟩ => ⟨δ, tmp, _, Ed, S, t, fun v x δ1 H1 q1 ⟨F, ow, S1⟩ => by
    obtain ⟨F', S2, _⟩ := S1.top_frz
    exact ⟨δ1, _, _, Ed, ⟨F', ow, S2⟩, q1, fun vs as δ2 F2 ow2 H2 q2 S3 ra => k _ _ _ _ _ _ q2 S3.pop (.d S3.top ra), w.push⟩, w⟩
theorem pda_own {i : Nat} {x : Str} {pos : Pos} {es : List Expr} {r : TDA} (he : PE X (.Name x pos) (tVar i)) (hr : PA X es (LA X.K c W r)) (hs : starEach (.Name x pos :: es) X.env = (false, eval (.Name x pos) X.env) :: starEach es X.env := by rfl) :
    PA X (.Name x pos :: es) (LA X.K c W (fun δ Q E => ∃ o, δ[i]? = some (some (.own o)) ∧ consO i r δ Q E)) :=
  PA_imp (pa_cons he hr hs) fun σ H Q ⟨δ, tmp, Qd, Ed, ⟨F, ow, S⟩, ⟨o, eo, t⟩, k, w⟩ => by
    obtain ⟨v, e1, _⟩ := S.sl _ _ eo
    exact ⟨v, e1, δ, tmp, _, Ed, ⟨F, ow, S⟩, t, fun vs as δ2 F2 ow2 H2 q2 S3 ra => k _ _ _ _ _ _ q2 S3 (.o e1 ra), w⟩
/-! ### calls -/
theorem ret_push {K : PySem.W.Frag} {F F' H H' : Hp} {ow : Addr → Option Hold} {δ : DSt} {tmp : List (V × DV)} {σ : L2.St} {v : V} {x : DV} {is : List Nat} {ps : List Addr} {os : List OC} (S : SttF K c F ow δ tmp σ H) (hp : ps.length = is.length)
    (hs : ∀ (k i : Nat) (p : Addr), is[k]? = some i → ps[k]? = some p → σ[i]? = some (some (.ref p)) ∧ ∃ o, δ[i]? = some (some (.own o))) (nd : is.Nodup) (P : Post K F H ps os F' H') (r : RetRep K F' H H' v x) : Stt K c (putBack δ is os) ((v, x) :: tmp) σ H' := by
  cases x with
  | d y => exact ⟨F', ow, (S.called hp hs nd P).push r⟩
  | own o =>
    obtain ⟨p, rfl, n, nF, r⟩ := r
    have S1 := S.reown (ow' := owSet ow p (.t tmp.length)) (fun k a _ z => owSet_ne fun e => z (by rw [e]; exact n)) (fun k a _ _ z => owSet_ne fun e => z (by rw [e]; exact n))
    have S2 := S1.called hp hs nd P
    exact ⟨F', _, { S2 with tm := ⟨⟨p, rfl, owSet_at, nF, .inl (S.up _ n), r⟩, S2.tm⟩ }⟩
theorem lift_sp {K : PySem.W.Frag} {F H : Hp} {ow : Addr → Option Hold} {δ : DSt} {tmp : List (V × DV)} {σ : L2.St} {vs : List V} {as : List AV} {xs : List DV} {sd : SpD} {Q : VK} {Qd : DK} {Ed : XD} (S : SttF K c F ow δ tmp σ H) (ra : RepArgs K F σ vs as) (ea : argsOf δ as xs) (nd : (slotsOf as).Nodup)
    (sp : sd xs (fun r os => Qd r (putBack δ (slotsOf as) os)) (fun x os => Ed x (putBack δ (slotsOf as) os))) (k : ∀ v x δ' H', Qd x δ' → Stt K c δ' ((v, x) :: tmp) σ H' → Q v H') (w : WD K c W tmp Ed) : spOf K sd vs H Q (WE W σ) := by
  obtain ⟨ps, ar, hl, hs⟩ := args_rep S ra ea nd
  exact ⟨F, xs, ps, _, _, S.fh, ar, sp, fun v r os F' H' q P rr => k v r _ H' q (ret_push S hl hs nd P rr), fun cls d x os F' H' q P er => w x _ σ H' F' ow cls d q (S.called hl hs nd P) er⟩
variable {k : Nat} {f C : Addr} {fd : FuncData} {ps : List Str} {sd : SpD} {x m : Str} {p pos apos : Pos} {e o : Expr} {es : List Expr} {to : TD} {ta : TDA}
theorem pd_call (G : FnOk X.prog X.w X.K X.mg X.base (L2.CX X.prog X.w) k f fd ps (spOf X.K sd)) (hr : Room k X.A) (hg : Gl X x) (hm : X.mg x = some (.ref f)) (hk : PySem.W.keepIn X.K (.ref f) = true) (hb : Binds X.K fd ps []) (tk : Takes X W) (ha : PA X (e :: es) (LA X.K c W ta))
    (hdb : (x == ("__debug__" : Str)) = false := by decide) (he : starEach (e :: es) X.env = (false, eval e X.env) :: starEach es X.env := by rfl) (hpl : (backTo pos (starEach es X.env)).any (·.1) = false := by rfl) :
    PE X (.Call (.Name x p) (e :: es) [] pos) (LE X.K c W (callD sd ta)) :=
  PE_imp (pe_callSD (E := WE W) G hr hg hm hk hb .nil (fun σ => passAt tk σ) ha hdb he hpl) fun σ H Q ⟨δ, tmp, Qd, Ed, S, t, k, w⟩ =>
    ⟨δ, tmp, _, Ed, S, t, fun vs as δ1 F ow H1 ⟨xs, ea, nd, sp⟩ S1 ra => by
      show spOf X.K sd (vs ++ []) H1 Q (WE W σ)
      rw [List.append_nil]
      exact lift_sp S1 ra ea nd sp k w, w⟩
theorem RepF.lookup {K : PySem.W.Frag} {F : Hp} {n : Str} : ∀ {vs : List (Str × V)} {fs : List (Str × D)}, RepF K F vs fs → (fs.lookup n = none → vs.lookup n = none) ∧ ∀ d, fs.lookup n = some d → ∃ v, vs.lookup n = some v ∧ Rep K F v d
  | _, _, .nil => ⟨fun _ => rfl, fun d h => by cases h⟩
  | _, _, .cons (n := n') h t => by
    rw [List.lookup_cons, List.lookup_cons]
    cases n == n'
    · exact t.lookup
    · exact ⟨(fun z => nomatch z), fun d z => ⟨_, rfl, by cases z; exact h⟩⟩
theorem ArgsRep.ext {K : PySem.W.Frag} {F H H' : Hp} (s : Same H H') : ∀ {vs : List V} {xs : List DV} {ps : List Addr}, ArgsRep K F H vs xs ps → ArgsRep K F H' vs xs ps
  | _, _, _, .nil => .nil
  | _, _, _, .d h t => .d h (t.ext s)
  | _, _, _, .own n h np t => .own n (h.mono (Same.refl F) (Same.at s h.has)) np (t.ext s)
theorem ArgsRep.at {K : PySem.W.Frag} {F H : Hp} {p : Addr} : ∀ {vs : List V} {xs : List DV} {ps : List Addr}, ArgsRep K F H vs xs ps → p ∈ ps → H p ≠ none
  | _, _, _, .nil, h => nomatch h
  | _, _, _, .d _ t, h => t.at h
  | _, _, _, .own _ r _ t, h => (List.mem_cons.mp h).elim (fun e => by subst e; exact r.has) fun h => t.at h
theorem OwnsRep.mono {K : PySem.W.Frag} {F F' H : Hp} (s : Same F F') : ∀ {ps : List Addr} {os : List OC}, (∀ p ∈ ps, F p = none → F' p = none) → OwnsRep K F H ps os → OwnsRep K F' H ps os
  | _, _, _, .nil => .nil
  | _, _, h, .cons n r t => .cons (h _ List.mem_cons_self n) (r.mono s rfl) (t.mono s fun p hp => h p (List.mem_cons_of_mem _ hp))
theorem lift_make {K : PySem.W.Frag} {F H : Hp} {ow : Addr → Option Hold} {δ : DSt} {tmp : List (V × DV)} {σ : L2.St} {vs : List V} {as : List AV} {xs : List DV} {Q : VK} {Qd : DK} {Ed : XD} (S : SttF K c F ow δ tmp σ H) (ra : RepArgs K F σ vs as) (ea : argsOf δ as xs) (nd : (slotsOf as).Nodup)
    (sp : sd (.own (.ins C []) :: xs) (fun r os => r = .d .non ∧ ∃ fs os', os = .ins C fs :: os' ∧ Qd (.d (.obj C fs)) (putBack δ (slotsOf as) os')) (fun x os => ∃ o os', os = o :: os' ∧ Ed x (putBack δ (slotsOf as) os')))
    (k : ∀ v x δ' H', Qd x δ' → Stt K c δ' ((v, x) :: tmp) σ H' → Q v H') (w : WD K c W tmp Ed) (x dx : Addr) (nx : H x = none) (ndx : H dx = none) (ne : dx ≠ x) :
    spOf K sd (.ref x :: vs) (upd (upd H dx (.own x)) x (.ins C dx [])) (fun v H2 => v = .non ∧ Q (.ref x) H2) (WE W σ) := by
  obtain ⟨ps, ar, hl, hs⟩ := args_rep S ra ea nd
  have s2 : Same H (upd (upd H dx (.own x)) x (.ins C dx [])) := same_upd (same_upd (Same.refl H) ndx) (by rw [upd_ne ne.symm]; exact nx)
  have Fx : F x = none := S.fh.free nx
  have xps : x ∉ ps := fun z => ar.at z nx
  have back : ∀ {os' : List OC} {F' H' : Hp}, Same F F' → Same F' H' → (∀ a o, (upd (upd H dx (.own x)) x (.ins C dx [])) a = some o → a ∉ x :: ps → H' a = some o) → (∀ a, H' a = none → (upd (upd H dx (.own x)) x (.ins C dx [])) a = none) →
      (∀ a, F' a ≠ none → a = x ∨ F a ≠ none ∨ (upd (upd H dx (.own x)) x (.ins C dx [])) a = none) → OwnsRep K F' H' ps os' → Post K F H ps os' F' H' := fun f fh fr up nw os =>
    ⟨f, fh, fun a o e n => fr a o (s2 _ _ e) fun z => (List.mem_cons.mp z).elim (fun z => by subst z; rw [nx] at e; cases e) n, fun a z => s2.free (up a z), fun a z => (nw a z).elim (fun z => by subst z; exact .inr nx) fun z => z.imp id fun z => s2.free z, os⟩
  refine ⟨F, _, x :: ps, _, _, S.fh.trans s2, .own Fx (show OwnRep K F _ x (.ins C []) from ⟨dx, [], upd_same, .nil⟩) xps (ar.ext s2), sp, fun v r os F' H' ⟨e1, fs, os', e2, q⟩ P rr => ?_, fun cls d y os F' H' ⟨o, os', e2, q⟩ P er => ?_⟩
  · subst e1 e2
    have rv : v = .non := by cases rr; rfl
    refine ⟨rv, k _ _ _ _ q ?_⟩
    cases P.os with
    | cons n r t =>
      obtain ⟨dx', vs', ex, rf⟩ := r
      have sf : Same F' (upd F' x (.ins C dx' vs')) := same_upd (Same.refl F') n
      have P' : Post K F H ps os' (upd F' x (.ins C dx' vs')) H' := back (P.f.trans sf) (same_upd1 P.fh ex) P.fr P.up (fun a z => by
        by_cases y : a = x
        · exact .inl y
        · rw [upd_ne y] at z; exact .inr (P.nw a z)) (t.mono sf fun p hp e => by rw [upd_ne (fun z => xps (by rw [← z]; exact hp))]; exact e)
      exact ⟨_, ow, (S.called hl hs nd P').push (.obj upd_same (rf.mono sf))⟩
  · subst e2
    cases P.os with
    | cons n r t => exact w y _ σ H' F' ow cls d q (S.called hl hs nd (back P.f P.fh P.fr P.up (fun a z => .inr (P.nw a z)) t)) er
end
end DL

set_option Elab.async false
set_option linter.all false
set_option maxRecDepth 100000
namespace DL
open PySem PySem.Spec PyProof.Rows L2
section
variable {X : Cx} {c : Fc} {W : WX}
/-! ### blocks -/
def nextD : TDS := fun D δ => D.nx δ
def seqD (t u : TDS) : TDS := fun D δ => t { D with nx := u D } δ
theorem pds_nil : PSs X [] (LS X.K c W nextD) := PSs_imp pss_nil fun D σ H ⟨δ, tmp, Dd, S, t, k, _⟩ => k δ σ H t S
theorem pds_cons {st : Stmt} {rest : List Stmt} {t u : TDS} (h1 : PS X st (LS X.K c W t)) (h2 : PSs X rest (LS X.K c W u)) : PSs X (st :: rest) (LS X.K c W (seqD t u)) :=
  PSs_imp (pss_cons h1 h2) fun D σ H ⟨δ, tmp, Dd, S, q, k, kr, kb, kc, w⟩ => ⟨δ, tmp, _, S, q, fun δ' σ' H' q' S' => ⟨δ', tmp, Dd, S', q', k, kr, kb, kc, w⟩, kr, kb, kc, w⟩
theorem pds_one {st : Stmt} {t : TDS} (h1 : PS X st (LS X.K c W t)) : PSs X [st] (LS X.K c W t) := PSs_imp (pss_one h1) fun _ _ _ q => q
def neverD : TDS := fun _ _ => False
theorem psd_never {st : Stmt} : PS X st (LS X.K c W neverD) := PS_imp ps_never fun D σ H ⟨δ, tmp, Dd, S, t, _⟩ => t
def dropD (t : TD) : TDS := fun D δ => t δ (fun _ δ1 => D.nx δ1) D.ex
theorem psd_expr {e : Expr} {t : TD} {pos : Pos} (he : PE X e (LE X.K c W t)) (hs : swapsWith e none pos.line X.env = pure false := by rfl) : PS X (.Expr e pos) (LS X.K c W (dropD t)) :=
  PS_imp (ps_expr he hs) fun D σ H ⟨δ, tmp, Dd, S, q, k, kr, kb, kc, w⟩ => ⟨δ, tmp, _, _, S, q, fun v x δ' H' q' ⟨F, ow, S'⟩ => k δ' σ H' q' ⟨F, ow, S'.pop⟩, w⟩
def retD (t : TD) : TDS := fun D δ => t δ D.rt D.ex
theorem psd_ret {e : Expr} {t : TD} {pos : Pos} (he : PE X e (LE X.K c W t)) : PS X (.Return (some e) pos) (LS X.K c W (retD t)) :=
  PS_imp (ps_ret he) fun D σ H ⟨δ, tmp, Dd, S, q, k, kr, kb, kc, w⟩ => ⟨δ, tmp, _, _, S, q, fun v x δ' H' q' S' => kr v x δ' σ H' q' S', w⟩
/-! ### names -/
/-- x = e, frozen; as it is (x's own) -/
def setD (i : Nat) (t : TD) : TDS := fun D δ => t δ (fun x δ1 => D.nx (δ1.set i (some (.d x.toD)))) D.ex
def setO (i : Nat) (t : TD) : TDS := fun D δ => t δ (fun x δ1 => D.nx (δ1.set i (some x))) D.ex
theorem SttF.set' {K : PySem.W.Frag} {F H : Hp} {ow : Addr → Option Hold} {δ : DSt} {tmp : List (V × DV)} {σ : L2.St} {v : V} {x : DV} {i : Nat} (S : SttF K c F ow δ ((v, x) :: tmp) σ H) (ni : i ∉ c.sl) : Stt K c (δ.set i (some x)) tmp (σ.set i (some v)) H := by
  rcases Nat.lt_or_ge i δ.length with hi | hi
  · obtain ⟨ow', S'⟩ := S.set hi ni
    exact ⟨F, ow', S'⟩
  · rw [List.set_eq_of_length_le hi, List.set_eq_of_length_le (by rw [S.len]; exact hi)]
    exact ⟨F, ow, S.pop⟩
theorem psd_set {i : Nat} {x : Str} {e : Expr} {t : TD} {pos pos' : Pos} (he : PE X e (LE X.K c W t)) (ni : i ∉ c.sl) (hN : X.N.Nodup) (hi : X.N[i]? = some x) (hx : Loc X.env.scope x) (hs : swapsWith e (some (.Name x pos')) pos.line X.env = pure false := by rfl)
    (hf : X.fn x = true ∨ X.env.scope.names.lookup x = some .local := by first | exact .inl rfl | exact .inr rfl | assumption) : PS X (.Assign [.Name x pos'] e pos) (LS X.K c W (setD i t)) :=
  PS_imp (ps_set (i := i) hN hi hx he hs hf) fun D σ H ⟨δ, tmp, Dd, S, q, k, kr, kb, kc, w⟩ => ⟨δ, tmp, _, _, S, q, fun v x δ' H' q' ⟨F, ow, S'⟩ => by
    obtain ⟨F', S2, _⟩ := S'.top_frz
    exact k _ _ _ q' (S2.set' ni), w⟩
theorem psd_setO {i : Nat} {x : Str} {e : Expr} {t : TD} {pos pos' : Pos} (he : PE X e (LE X.K c W t)) (ni : i ∉ c.sl) (hN : X.N.Nodup) (hi : X.N[i]? = some x) (hx : Loc X.env.scope x) (hs : swapsWith e (some (.Name x pos')) pos.line X.env = pure false := by rfl)
    (hf : X.fn x = true ∨ X.env.scope.names.lookup x = some .local := by first | exact .inl rfl | exact .inr rfl | assumption) : PS X (.Assign [.Name x pos'] e pos) (LS X.K c W (setO i t)) :=
  PS_imp (ps_set (i := i) hN hi hx he hs hf) fun D σ H ⟨δ, tmp, Dd, S, q, k, kr, kb, kc, w⟩ => ⟨δ, tmp, _, _, S, q, fun v x δ' H' q' ⟨F, ow, S'⟩ => k _ _ _ q' (S'.set' ni), w⟩
/-- a row of values kept as they are -/
def LK (K : PySem.W.Frag) (c : Fc) (W : WX) (t : DSt → (List DV → DSt → Prop) → XD → Prop) : TA := fun σ H Q => ∃ δ tmp Qd Ed, Stt K c δ tmp σ H ∧ t δ Qd Ed ∧ (∀ vs xs δ' H', Qd xs δ' → vs.length = xs.length → Stt K c δ' ((vs.zip xs).reverse ++ tmp) σ H' → Q vs H') ∧ WD K c W tmp Ed
abbrev TDK := DSt → (List DV → DSt → Prop) → XD → Prop
def nilK : TDK := fun δ Q _ => Q [] δ
def consK (t : TD) (r : TDK) : TDK := fun δ Q E => t δ (fun x δ1 => r δ1 (fun xs δ2 => Q (x :: xs) δ2) E) E
theorem pka_nil : PA X [] (LK X.K c W nilK) := PA_imp pa_nil fun σ H Q ⟨δ, tmp, Qd, Ed, S, q, k, w⟩ => k [] [] δ H q rfl S
theorem pka_cons {e : Expr} {es : List Expr} {t : TD} {r : TDK} (he : PE X e (LE X.K c W t)) (hr : PA X es (LK X.K c W r)) (hs : starEach (e :: es) X.env = (false, eval e X.env) :: starEach es X.env := by rfl) : PA X (e :: es) (LK X.K c W (consK t r)) :=
  PA_imp (pa_cons he hr hs) fun σ H Q ⟨δ, tmp, Qd, Ed, S, t, k, w⟩ => ⟨δ, tmp, _, Ed, S, t, fun v x δ1 H1 q1 S1 => ⟨δ1, _, _, Ed, S1, q1, fun vs xs δ2 H2 q2 hl S2 => k _ _ _ _ q2 (congrArg (· + 1) hl) (by
    show Stt X.K c δ2 (((v, x) :: vs.zip xs).reverse ++ tmp) σ H2
    rw [List.reverse_cons, List.append_assoc]
    exact S2), w.push⟩, w⟩
/-- which of a row of values is frozen -/
def asD (own : Bool) (x : DV) : DV := if own then x else .d x.toD
def parD (i j : Nat) (oi oj : Bool) (t : TDK) : TDS := fun D δ => t δ (fun xs δ1 => ∃ x y, xs = [x, y] ∧ D.nx ((δ1.set j (some (asD oj y))).set i (some (asD oi x)))) D.ex
theorem SttF.top_as {K : PySem.W.Frag} {F H : Hp} {ow : Addr → Option Hold} {δ : DSt} {tmp : List (V × DV)} {σ : L2.St} {v : V} {x : DV} (S : SttF K c F ow δ ((v, x) :: tmp) σ H) (b : Bool) : ∃ F', SttF K c F' ow δ ((v, asD b x) :: tmp) σ H := by
  cases b
  · obtain ⟨F', S', _⟩ := S.top_frz
    exact ⟨F', S'⟩
  · exact ⟨F, S⟩
theorem psd_par {i j : Nat} {oi oj : Bool} {x y : Str} {a b : Expr} {t : TDK} {px py pt pos : Pos} {kt k2 pt2} (ha : PA X [a, b] (LK X.K c W t)) (ni : i ∉ c.sl) (nj : j ∉ c.sl) (h : ∀ {ta : TA}, PA X [a, b] ta → PS X (.Assign [.Tuple [.Name x px, .Name y py] k2 pt2] (.Tuple [a, b] kt pt) pos) (tPar i j ta)) (hij : i ≠ j) :
    PS X (.Assign [.Tuple [.Name x px, .Name y py] k2 pt2] (.Tuple [a, b] kt pt) pos) (LS X.K c W (parD i j oi oj t)) :=
  PS_imp (h ha) fun D σ H ⟨δ, tmp, Dd, S, q, k, kr, kb, kc, w⟩ => ⟨δ, tmp, _, _, S, q, fun vs xs δ' H' ⟨x, y, e, q'⟩ hl S' => by
    subst e
    match vs, hl with
    | [v, u], _ =>
      obtain ⟨F, ow, S'⟩ := S'
      have S2 : SttF X.K c F ow δ' ((u, y) :: (v, x) :: tmp) σ H' := S'
      obtain ⟨F3, S3⟩ := S2.top_as oj
      obtain ⟨F4, ow4, S4⟩ := S3.set' nj
      obtain ⟨F5, S5⟩ := S4.top_as oi
      refine ⟨v, u, rfl, k _ _ _ q' ?_⟩
      rw [List.set_comm _ _ hij]
      exact S5.set' ni, w⟩
/-! ### if -/
def ifD (c : TDT) (t u : TDS) : TDS := fun D δ => c δ (fun b δ1 => if b = true then t D δ1 else u D δ1) D.ex
theorem psd_if {e : Expr} {a b : List Stmt} {tc : TDT} {t u : TDS} {pos : Pos} (hc : PT X e (LT X.K c W tc)) (ha : PSs X a (LS X.K c W t)) (hb : PSs X b (LS X.K c W u)) : PS X (.If e a b pos) (LS X.K c W (ifD tc t u)) :=
  PS_imp (ps_if hc ha hb) fun D σ H ⟨δ, tmp, Dd, S, q, k, kr, kb, kc, w⟩ => ⟨δ, tmp, _, _, S, q, fun b δ' H' q' S' => by
    cases b
    · exact ⟨δ', tmp, Dd, S', q', k, kr, kb, kc, w⟩
    · exact ⟨δ', tmp, Dd, S', q', k, kr, kb, kc, w⟩, w⟩
def ifExpD (c : TDT) (t u : TD) : TD := fun δ Q E => c δ (fun b δ1 => if b = true then t δ1 Q E else u δ1 Q E) E
theorem pd_ifExp {e a b : Expr} {tc : TDT} {t u : TD} {pos : Pos} (hc : PT X e (LT X.K c W tc)) (ha : PE X a (LE X.K c W t)) (hb : PE X b (LE X.K c W u)) : PE X (.IfExp e a b pos) (LE X.K c W (ifExpD tc t u)) :=
  PE_imp (pe_ifExp hc ha hb) fun σ H Q ⟨δ, tmp, Qd, Ed, S, q, k, w⟩ => ⟨δ, tmp, _, _, S, q, fun b δ' H' q' S' => by
    cases b
    · exact ⟨δ', tmp, Qd, Ed, S', q', k, w⟩
    · exact ⟨δ', tmp, Qd, Ed, S', q', k, w⟩, w⟩
/-! ### and, or, not: tests -/
def notD (t : TDT) : TDT := fun δ Q E => t δ (fun b δ1 => Q (!b) δ1) E
def andD (t u : TDT) : TDT := fun δ Q E => t δ (fun b δ1 => if b = true then u δ1 Q E else Q false δ1) E
def orD (t u : TDT) : TDT := fun δ Q E => t δ (fun b δ1 => if b = true then Q true δ1 else u δ1 Q E) E
theorem ptd_not {a : Expr} {t : TDT} {pos : Pos} (ha : PT X a (LT X.K c W t)) : PT X (.UnaryOp .Not a pos) (LT X.K c W (notD t)) :=
  PT_imp (pt_not ha) fun σ H Q ⟨δ, tmp, Qd, Ed, S, q, k, w⟩ => ⟨δ, tmp, _, _, S, q, fun b δ' H' q' S' => k _ _ _ q' S', w⟩
theorem pwd_and1 {a : Expr} {t : TDT} {pos : Pos} (ha : PT X a (LT X.K c W t)) : PW X (.BoolOp .And [a] pos) (LT X.K c W t) := pw_and1 ha
theorem pwd_or1 {a : Expr} {t : TDT} {pos : Pos} (ha : PT X a (LT X.K c W t)) : PW X (.BoolOp .Or [a] pos) (LT X.K c W t) := pw_or1 ha
theorem pwd_and {a b : Expr} {rest : List Expr} {t u : TDT} {pos : Pos} (ha : PT X a (LT X.K c W t)) (hb : PW X (.BoolOp .And (b :: rest) pos) (LT X.K c W u)) : PW X (.BoolOp .And (a :: b :: rest) pos) (LT X.K c W (andD t u)) :=
  PW_imp (pw_and ha hb) fun σ H Q ⟨δ, tmp, Qd, Ed, S, q, k, w⟩ => ⟨δ, tmp, _, _, S, q, fun b δ' H' q' S' => by
    cases b
    · exact k _ _ _ q' S'
    · exact ⟨δ', tmp, Qd, Ed, S', q', k, w⟩, w⟩
theorem pwd_or {a b : Expr} {rest : List Expr} {t u : TDT} {pos : Pos} (ha : PT X a (LT X.K c W t)) (hb : PW X (.BoolOp .Or (b :: rest) pos) (LT X.K c W u)) : PW X (.BoolOp .Or (a :: b :: rest) pos) (LT X.K c W (orD t u)) :=
  PW_imp (pw_or ha hb) fun σ H Q ⟨δ, tmp, Qd, Ed, S, q, k, w⟩ => ⟨δ, tmp, _, _, S, q, fun b δ' H' q' S' => by
    cases b
    · exact ⟨δ', tmp, Qd, Ed, S', q', k, w⟩
    · exact k _ _ _ q' S', w⟩
/-! values by truth: bools alone -/
def boolE (t : TD) (k : Bool → DSt → Prop) (E : XD) (δ : DSt) : Prop := t δ (fun x δ1 => ∃ b, x = .d (.bl b) ∧ k b δ1) E
def notV (t : TD) : TD := fun δ Q E => boolE t (fun b δ1 => Q (.d (.bl (!b))) δ1) E δ
def andV (t u : TD) : TD := fun δ Q E => boolE t (fun b δ1 => if b = true then u δ1 Q E else Q (.d (.bl false)) δ1) E δ
theorem pd_not {a : Expr} {t : TD} {pos : Pos} (ha : PE X a (LE X.K c W t)) : PE X (.UnaryOp .Not a pos) (LE X.K c W (notV t)) :=
  PE_imp (pe_not ha) fun σ H Q ⟨δ, tmp, Qd, Ed, S, q, k, w⟩ => ⟨δ, tmp, _, _, S, q, fun v x δ' H' ⟨b, e, q'⟩ ⟨F, ow, S'⟩ => by
    subst e
    cases S'.top
    exact ⟨b, rfl, k _ _ _ _ q' ⟨F, ow, S'.pop.push (.bl _)⟩⟩, w⟩
theorem pd_one {op} {a : Expr} {t : TD} {pos : Pos} (ha : PE X a (LE X.K c W t)) : PE X (.BoolOp op [a] pos) (LE X.K c W t) := pe_one ha
theorem pd_and {a b : Expr} {rest : List Expr} {t u : TD} {pos : Pos} (ha : PE X a (LE X.K c W t)) (hb : PE X (.BoolOp .And (b :: rest) pos) (LE X.K c W u)) : PE X (.BoolOp .And (a :: b :: rest) pos) (LE X.K c W (andV t u)) :=
  PE_imp (pe_and ha hb) fun σ H Q ⟨δ, tmp, Qd, Ed, S, q, k, w⟩ => ⟨δ, tmp, _, _, S, q, fun v x δ' H' ⟨b, e, q'⟩ ⟨F, ow, S'⟩ => by
    subst e
    cases S'.top
    refine ⟨b, rfl, ?_⟩
    cases b
    · exact k _ _ _ _ q' ⟨F, ow, S'.pop.push (.bl _)⟩
    · exact ⟨δ', tmp, Qd, Ed, ⟨F, ow, S'.pop⟩, q', k, w⟩, w⟩
/-! ### moving an own name's object out -/
def mvarD (i : Nat) : TD := fun δ Q _ => ∃ x, δ[i]? = some (some x) ∧ Q x (δ.set i none)
theorem pd_mvar {i : Nat} {x : Str} {pos : Pos} (h : PE X (.Name x pos) (tVar i)) (ni : i ∉ c.sl) : PE X (.Name x pos) (LE X.K c W (mvarD i)) := PE_imp h fun σ H Q ⟨δ, tmp, Qd, Ed, ⟨F, ow, S⟩, ⟨x, e, q⟩, k, w⟩ => by
  obtain ⟨v, ow', e1, S'⟩ := S.move e ni
  exact ⟨v, e1, k v _ _ _ q ⟨F, ow', S'⟩⟩
/-! ### attributes -/
def fldD (C : Addr) (f : Str) (t : TD) : TD := fun δ Q E => t δ (fun o δ1 => ∃ fs d, o.toD = .obj C fs ∧ fs.lookup f = some d ∧ Q (.d d) δ1) E
theorem pd_fld {e : Expr} {C : Addr} {f : Str} {t : TD} {pos : Pos} (he : PE X e (LE X.K c W t)) (cl : Cls X.K C) (na : NoAttr X.K C f) (hb : attributeBase e f X.env (eval e X.env) = eval e X.env) : PE X (.Attribute e f pos) (LE X.K c W (fldD C f t)) :=
  PE_imp (pe_fld he hb) fun σ H Q ⟨δ, tmp, Qd, Ed, S, q, k, w⟩ => ⟨δ, tmp, _, _, S, q, fun v o δ' H' ⟨fs, d, eo, el, q'⟩ ⟨F, ow, S'⟩ => by
    obtain ⟨F', S2, _⟩ := S'.top_frz
    rw [eo] at S2
    cases S2.top with
    | @obj a _ dx vs _ s h =>
      obtain ⟨u, e1, r⟩ := (RepF.lookup h).2 d el
      exact ⟨a, C, dx, vs, u, rfl, S2.fh _ _ s, cl, na, e1, k _ _ _ _ q' ⟨F', ow, S2.pop.push r⟩⟩, w⟩
/-- of an object of the body's own -/
def fldO (C : Addr) (i : Nat) (f : Str) : TD := fun δ Q _ => ∃ fs d, δ[i]? = some (some (.own (.ins C fs))) ∧ fs.lookup f = some d ∧ Q (.d d) δ
theorem pd_fldO {i : Nat} {x : Str} {C : Addr} {f : Str} {pos px : Pos} (he : PE X (.Name x px) (tVar i)) (cl : Cls X.K C) (na : NoAttr X.K C f) (hb : attributeBase (.Name x px) f X.env (eval (.Name x px) X.env) = eval (.Name x px) X.env) : PE X (.Attribute (.Name x px) f pos) (LE X.K c W (fldO C i f)) :=
  PE_imp (pe_fld he hb) fun σ H Q ⟨δ, tmp, Qd, Ed, ⟨F, ow, S⟩, ⟨fs, d, ei, el, q⟩, k, w⟩ => by
    obtain ⟨v, e1, p, rfl, _, _, _, dx, vs, ep, r⟩ := S.sl _ _ ei
    obtain ⟨u, e2, ru⟩ := (RepF.lookup r).2 d el
    exact ⟨_, e1, p, C, dx, vs, u, rfl, ep, cl, na, e2, k _ _ _ _ q ⟨F, ow, S.push ru⟩⟩
def putD (f : Str) (d : D) : List (Str × D) → List (Str × D)
  | [] => [(f, d)]
  | (g, x) :: r => if g = f then (g, d) :: r else (g, x) :: putD f d r
theorem RepF.put {K : PySem.W.Frag} {F : Hp} {f : Str} {v : V} {d : D} (h : Rep K F v d) : ∀ {vs : List (Str × V)} {fs : List (Str × D)}, RepF K F vs fs → RepF K F (putF f v vs) (putD f d fs)
  | _, _, .nil => .cons h .nil
  | _, _, .cons (n := n) a t => by
    unfold putF putD
    by_cases e : n = f
    · rw [if_pos e, if_pos e]; exact .cons h t
    · rw [if_neg e, if_neg e]; exact .cons a (t.put h)
theorem RepF.length {K : PySem.W.Frag} {F : Hp} : ∀ {vs : List (Str × V)} {fs : List (Str × D)}, RepF K F vs fs → vs.length = fs.length
  | _, _, .nil => rfl
  | _, _, .cons _ t => congrArg (· + 1) t.length
def fldSet (C : Addr) (i : Nat) (f : Str) (t : TD) : TDS := fun D δ => t δ (fun y δ1 => ∃ fs, δ1[i]? = some (some (.own (.ins C fs))) ∧ fs.length < 1000 ∧ D.nx (δ1.set i (some (.own (.ins C (putD f y.toD fs)))))) D.ex
theorem psd_fld {i : Nat} {x : Str} {C : Addr} {f : Str} {value : Expr} {t : TD} {pos px pos' : Pos} (he : PE X (.Name x px) (tVar i)) (hv : PE X value (LE X.K c W t)) (cl : Cls X.K C) (na : NoAttr X.K C f) (hs : swapsWith value (some (.Attribute (.Name x px) f pos')) pos.line X.env = pure false) :
    PS X (.Assign [.Attribute (.Name x px) f pos'] value pos) (LS X.K c W (fldSet C i f t)) :=
  PS_imp (ps_fld he hv hs) fun D σ H ⟨δ, tmp, Dd, S, q, k, kr, kb, kc, w⟩ => ⟨δ, tmp, _, _, S, q, fun v y δ1 H1 ⟨fs, ei, lf, q'⟩ ⟨F, ow, S1⟩ => by
    obtain ⟨F2, S2, _⟩ := S1.top_frz
    obtain ⟨u, e1, p, rfl, _, _, _, dx, vs, ep, r⟩ := S2.sl _ _ ei
    refine ⟨_, e1, p, C, dx, vs, rfl, ep, cl, na, by rw [r.length]; exact lf, k _ _ _ q' ⟨F2, ow, S2.pop.write ei e1 ⟨dx, _, upd_same, r.put S2.top⟩⟩⟩, w⟩
end
end DL

set_option Elab.async false
set_option linter.all false
set_option maxRecDepth 100000
namespace DL
open PySem PySem.Spec PyProof.Rows L2
/-! ### scalars -/
def D.sc : D → Option V
  | .non => some .non
  | .bl b => some (.bl b)
  | .int i => some (.int i)
  | .str x => some (.str x)
  | _ => none
section
variable {K : PySem.W.Frag} {F F' H H' : Hp} {v : V} {d : D}
theorem Rep.sc (r : Rep K F v d) {x : V} (e : d.sc = some x) : v = x := by
  cases r <;> (first | (cases e; rfl) | cases e)
theorem made_d (s : Same F H) (r : Rep K F v d) : Made K F H F H v (.d d) := .d (Ext.refl s) r
/-! ### two operands -/
theorem op2_I0 {g : Int → Int → V} {gd : Int → Int → D} (h : ∀ i j F, Rep K F (g i j) (gd i j)) : Op2 K (rI0 g) (fun a b Q => ∃ i j, a = .int i ∧ b = .int j ∧ Q (.d (gd i j))) := fun x y a b F H Q Qd s rx ry ⟨i, j, e1, e2, q⟩ k => by
  subst e1 e2
  cases rx; cases ry
  exact ⟨i, j, rfl, rfl, k _ _ F H q (made_d s (h i j F))⟩
theorem op2_I {C : Int → Int → Prop} {g : Int → Int → V} {gd : Int → Int → D} (h : ∀ i j F, Rep K F (g i j) (gd i j)) : Op2 K (rI C g) (fun a b Q => ∃ i j, a = .int i ∧ b = .int j ∧ C i j ∧ Q (.d (gd i j))) := fun x y a b F H Q Qd s rx ry ⟨i, j, e1, e2, c, q⟩ k => by
  subst e1 e2
  cases rx; cases ry
  exact ⟨i, j, rfl, rfl, c, k _ _ F H q (made_d s (h i j F))⟩
/-- operations whose answer is a bool or an int, that make nothing -/
abbrev RD2s := D → D → (D → Prop) → Prop
def Op2s (K : PySem.W.Frag) (r : R2) (rd : RD2s) : Prop := ∀ x y a b F H Q Qd, Same F H → Rep K F x a → Rep K F y b → rd a b Qd → (∀ v z, Qd z → z.sc = some v → Q v H) → r x y H Q
theorem sc_rep {K : PySem.W.Frag} {F : Hp} {v : V} {z : D} (hs : ∀ x, z = .str x → PyData.strOk x = true) (e : z.sc = some v) : Rep K F v z := by
  cases z <;> (first | (cases e; first | exact .non | exact .bl _ | exact .int _ | exact .str (hs _ rfl)) | cases e)
def NoStr (z : D) : Prop := ∀ x, z = .str x → PyData.strOk x = true
theorem Op2s.op {r : R2} {rd : RD2s} (h : Op2s K r rd) : Op2 K r (fun a b Q => rd a b fun z => NoStr z ∧ Q (.d z)) := fun x y a b F H Q Qd s rx ry q k =>
  h x y a b F H Q _ s rx ry q fun v z ⟨n, qz⟩ e => k v _ F H qz (made_d s (sc_rep n e))
abbrev eqS (neg : Bool) : RD2s := fun a b Q => ∃ x y, a.sc = some x ∧ b.sc = some y ∧ scal x y = true ∧ Q (.bl (if neg then !decide (x = y) else decide (x = y)))
theorem op2_eq : Op2s K rEq (eqS false) := fun x y a b F H Q Qd s rx ry ⟨u, w, e1, e2, c, q⟩ k => by
  cases rx.sc e1; cases ry.sc e2
  exact ⟨c, k _ _ q rfl⟩
theorem op2_ne : Op2s K rNe (eqS true) := fun x y a b F H Q Qd s rx ry ⟨u, w, e1, e2, c, q⟩ k => by
  cases rx.sc e1; cases ry.sc e2
  exact ⟨c, k _ _ q rfl⟩
/-! == of data -/
mutual
def D.isPy : D → Bool
  | .non => true | .bl _ => true | .int _ => true | .str _ => true
  | .lst xs => isPyL xs | .ro xs => isPyL xs | .tup xs => isPyL xs | .rot xs => isPyL xs | .ktp xs => isPyL xs
  | _ => false
def isPyL : List D → Bool
  | [] => true
  | d :: ds => d.isPy && isPyL ds
end
mutual
def D.py : D → PyData
  | .non => .none | .bl b => .bool b | .int i => .int i | .str x => .str x
  | .lst xs => .list (pyL xs) | .ro xs => .list (pyL xs) | .tup xs => .tuple (pyL xs) | .rot xs => .tuple (pyL xs) | .ktp xs => .tuple (pyL xs)
  | _ => .none
def pyL : List D → List PyData
  | [] => []
  | d :: ds => d.py :: pyL ds
end
mutual
theorem Rep.dp : ∀ {v : V} {d : D}, Rep K F v d → d.isPy = true → Dp K F v d.py
  | _, _, .non, _ => .non
  | _, _, .bl b, _ => .bl b
  | _, _, .int i, _ => .int i
  | _, _, .str _, _ => .str _
  | _, _, .ty _, h => nomatch h
  | _, _, .adr _, h => nomatch h
  | _, _, .lst s r, h => .lst (SqL.of s) (r.dp h)
  | _, _, .ro s r, h => .lst s (r.dp h)
  | _, _, .tup s r, h => .tup (SqT.of s) (r.dp h)
  | _, _, .rot s _ _ r, h => .tup (.inl (.inr ⟨_, s⟩)) (r.dp h)
  | _, _, .ktp s r, h => .tup s (r.dp h)
  | _, _, .obj _ _, h => nomatch h
  | _, _, .dT _ _, h => nomatch h
  | _, _, .dK _ _, h => nomatch h
  | _, _, .exc0, h => nomatch h
  | _, _, .exc _ _, h => nomatch h
  | _, _, .gho _, h => nomatch h
  | _, _, .lkd _ _, h => nomatch h
theorem RepL.dp : ∀ {vs : List V} {ds : List D}, RepL K F vs ds → isPyL ds = true → DpAll K F vs (pyL ds)
  | _, _, .nil, _ => .nil
  | _, _, .cons r t, h => .cons (r.dp (Bool.and_eq_true _ _ ▸ h).1) (t.dp (Bool.and_eq_true _ _ ▸ h).2)
end
mutual
theorem Rep.lay : ∀ {v : V} {d : D}, Rep K F v d → d.isPy = true → d.py.canLay0 = true
  | _, _, .non, _ => by simp only [D.py, PyData.canLay0]
  | _, _, .bl b, _ => by simp only [D.py, PyData.canLay0]
  | _, _, .int i, _ => by simp only [D.py, PyData.canLay0]
  | _, _, .str k, _ => by simp only [D.py, PyData.canLay0]; exact k
  | _, _, .ty _, h => nomatch h
  | _, _, .adr _, h => nomatch h
  | _, _, .lst s r, h => by simp only [D.py, PyData.canLay0]; exact r.lay h
  | _, _, .ro s r, h => by simp only [D.py, PyData.canLay0]; exact r.lay h
  | _, _, .tup s r, h => by simp only [D.py, PyData.canLay0]; exact r.lay h
  | _, _, .rot s _ _ r, h => by simp only [D.py, PyData.canLay0]; exact r.lay h
  | _, _, .ktp s r, h => by simp only [D.py, PyData.canLay0]; exact r.lay h
  | _, _, .obj _ _, h => nomatch h
  | _, _, .dT _ _, h => nomatch h
  | _, _, .dK _ _, h => nomatch h
  | _, _, .exc0, h => nomatch h
  | _, _, .exc _ _, h => nomatch h
  | _, _, .gho _, h => nomatch h
  | _, _, .lkd _ _, h => nomatch h
theorem RepL.lay : ∀ {vs : List V} {ds : List D}, RepL K F vs ds → isPyL ds = true → PyData.canLayAll0 (pyL ds) = true
  | _, _, .nil, _ => by simp only [pyL, PyData.canLayAll0]
  | _, _, .cons r t, h => by
    simp only [pyL, PyData.canLayAll0]
    rw [r.lay (Bool.and_eq_true _ _ ▸ h).1, t.lay (Bool.and_eq_true _ _ ▸ h).2]
    rfl
end
mutual
theorem dp_mono (e : Same F F') : ∀ {v : V} {d : PyData}, Dp K F v d → Dp K F' v d
  | _, _, .non => .non
  | _, _, .bl b => .bl b
  | _, _, .int i => .int i
  | _, _, .str x => .str x
  | _, _, .lst s h => .lst (e.seq s) (dpAll_mono e h)
  | _, _, .tup s h => .tup (sqt_mono e s) (dpAll_mono e h)
theorem dpAll_mono (e : Same F F') : ∀ {v : List V} {d : List PyData}, DpAll K F v d → DpAll K F' v d
  | _, _, .nil => .nil
  | _, _, .cons h t => .cons (dp_mono e h) (dpAll_mono e t)
end
/-- data that may be compared -/
def Cmp (d : D) : Prop := d.isPy = true ∧ d.py.depth ≤ 64
theorem Rep.shp (r : Rep K F v d) (c : Cmp d) : SeqAt.shaped d.py = true := by
  unfold SeqAt.shaped
  rw [r.lay c.1, decide_eq_true c.2]
  rfl
abbrev eqP (neg : Bool) : RD2s := fun a b Q => Cmp a ∧ Cmp b ∧ Q (.bl (if neg then !PyData.eqv a.py b.py else PyData.eqv a.py b.py))
theorem op2_eqD : Op2s K (rEqD K) (eqP false) := fun x y a b F H Q Qd s rx ry ⟨c1, c2, q⟩ k =>
  ⟨a.py, b.py, dp_mono s (rx.dp c1.1), dp_mono s (ry.dp c2.1), rx.shp c1, ry.shp c2, k _ _ q rfl⟩
theorem op2_neD : Op2s K (rNeD K) (eqP true) := fun x y a b F H Q Qd s rx ry ⟨c1, c2, q⟩ k =>
  ⟨a.py, b.py, dp_mono s (rx.dp c1.1), dp_mono s (ry.dp c2.1), rx.shp c1, ry.shp c2, k _ _ q rfl⟩
/-! ### rows -/
/-- the items of a row -/
def D.its : D → Option (List D)
  | .lst xs => some xs
  | .ro xs => some xs
  | .tup xs => some xs
  | .rot xs => some xs
  | .ktp xs => some xs
  | _ => none
theorem Rep.row {xs : List D} (r : Rep K F v d) (e : d.its = some xs) : ∃ p vs, v = .ref p ∧ (SqL K F p vs ∨ SqT K F p vs) ∧ RepL K F vs xs := by
  cases r <;> (first | (cases e; first | exact ⟨_, _, rfl, .inl (SqL.of ‹_›), ‹_›⟩ | exact ⟨_, _, rfl, .inl ‹_›, ‹_›⟩ | exact ⟨_, _, rfl, .inr (SqT.of ‹_›), ‹_›⟩ | exact ⟨_, _, rfl, .inr ‹_›, ‹_›⟩ | exact ⟨_, _, rfl, .inr (.inl (.inr ⟨_, ‹_›⟩)), ‹_›⟩) | cases e)
theorem RepL.len : ∀ {vs : List V} {ds : List D}, RepL K F vs ds → vs.length = ds.length
  | _, _, .nil => rfl
  | _, _, .cons _ t => congrArg (· + 1) t.len
theorem RepL.get : ∀ {vs : List V} {ds : List D} {i : Nat} {d : D}, RepL K F vs ds → ds[i]? = some d → ∃ v, vs[i]? = some v ∧ Rep K F v d
  | _, _, 0, _, .cons h _, e => by cases e; exact ⟨_, rfl, h⟩
  | _, _, i + 1, _, .cons _ t, e => t.get (i := i) e
theorem RepL.app : ∀ {vs ws : List V} {ds es : List D}, RepL K F vs ds → RepL K F ws es → RepL K F (vs ++ ws) (ds ++ es)
  | _, _, _, _, .nil, h => h
  | _, _, _, _, .cons a t, h => .cons a (t.app h)
theorem RepL.set {v : V} {d : D} (r : Rep K F v d) : ∀ {vs : List V} {ds : List D} (i : Nat), RepL K F vs ds → RepL K F (vs.set i v) (ds.set i d)
  | _, _, _, .nil => .nil
  | _, _, 0, .cons _ t => .cons r t
  | _, _, i + 1, .cons a t => .cons a (t.set r i)
theorem RepL.erase : ∀ {vs : List V} {ds : List D} (i : Nat), RepL K F vs ds → RepL K F (vs.eraseIdx i) (ds.eraseIdx i)
  | _, _, _, .nil => .nil
  | _, _, 0, .cons _ t => t
  | _, _, i + 1, .cons a t => .cons a (t.erase i)
theorem RepL.take : ∀ {vs : List V} {ds : List D} (i : Nat), RepL K F vs ds → RepL K F (vs.take i) (ds.take i)
  | _, _, 0, _ => .nil
  | _, _, _ + 1, .nil => .nil
  | _, _, i + 1, .cons a t => .cons a (t.take i)
theorem RepL.drop : ∀ {vs : List V} {ds : List D} (i : Nat), RepL K F vs ds → RepL K F (vs.drop i) (ds.drop i)
  | _, _, 0, h => h
  | _, _, _ + 1, .nil => .nil
  | _, _, i + 1, .cons a t => t.drop i
theorem RepL.rep {vs : List V} {ds : List D} (h : RepL K F vs ds) : ∀ n : Nat, RepL K F (List.replicate n vs).flatten (List.replicate n ds).flatten
  | 0 => .nil
  | n + 1 => by
    rw [List.replicate_succ, List.replicate_succ, List.flatten_cons, List.flatten_cons]
    exact h.app (h.rep n)
theorem RepL.ats {vs : List V} {ds : List D} {i : Int} (h : RepL K F vs ds) (e : atI ds i = some d) : ∃ v, atI vs i = some v ∧ Rep K F v d := by
  unfold atI at e ⊢
  rw [h.len]
  cases q : ixN ds.length i with
  | none => rw [q] at e; cases e
  | some j => rw [q] at e; exact h.get e
def cutD (xs : List D) (lo hi : Option Int) : List D := (xs.drop (HT.sIx xs.length 0 lo)).take (HT.sIx xs.length xs.length hi - HT.sIx xs.length 0 lo)
theorem RepL.cut {vs : List V} {ds : List D} (lo hi : Option Int) (h : RepL K F vs ds) : RepL K F (cutV vs lo hi) (cutD ds lo hi) := by
  unfold cutV cutD
  rw [h.len]
  exact (h.drop _).take _
theorem sq_mono {F H : Hp} {p : Addr} {vs : List V} (s : Same F H) (h : SqL K F p vs ∨ SqT K F p vs) : SqL K H p vs ∨ SqT K H p vs := h.imp (fun h => s.seq h) fun h => sqt_mono s h
/-- a sign in a text -/
abbrev inSign (neg : Bool) : RD2s := fun a b Q => ∃ (c : Nat) (z : Str), a = .str ⟨#[c]⟩ ∧ b = .str z ∧ Q (.bl (if neg then !decide (c ∈ z.cps.toList) else decide (c ∈ z.cps.toList)))
theorem op2_inSign : Op2s K (fun x y H Q => ∃ (c : Nat) (z : Str), x = .str ⟨#[c]⟩ ∧ y = .str z ∧ Q (.bl (decide (c ∈ z.cps.toList))) H) (inSign false) := fun x y a b F H Q Qd s rx ry ⟨c, z, e1, e2, q⟩ k => by
  subst e1 e2
  cases rx; cases ry
  exact ⟨c, z, rfl, rfl, k _ _ q rfl⟩
/-- is None -/
abbrev isNS (neg : Bool) : RD2s := fun a b Q => ∃ t, b = .non ∧ (t = true ↔ a = .non) ∧ Q (.bl (if neg then !t else t))
theorem op2_isN : Op2s K (fun x y H Q => y = .non ∧ Q (.bl (decide (x = .non))) H) (isNS false) := fun x y a b F H Q Qd s rx ry ⟨t, e, ht, q⟩ k => by
  subst e
  cases ry
  refine ⟨rfl, ?_⟩
  have : decide (x = V.non) = t := by
    rw [Bool.eq_iff_iff, decide_eq_true_eq, ht]
    constructor
    · intro e; subst e; cases rx; rfl
    · intro e; subst e; cases rx; rfl
  rw [this]
  exact k _ _ q rfl
theorem op2_notN : Op2s K (fun x y H Q => y = .non ∧ Q (.bl (!decide (x = .non))) H) (isNS true) := fun x y a b F H Q Qd s rx ry ⟨t, e, ht, q⟩ k => by
  subst e
  cases ry
  refine ⟨rfl, ?_⟩
  have : decide (x = V.non) = t := by
    rw [Bool.eq_iff_iff, decide_eq_true_eq, ht]
    constructor
    · intro e; subst e; cases rx; rfl
    · intro e; subst e; cases rx; rfl
  rw [this]
  exact k _ _ q rfl
/-! what makes something new -/
theorem strOk_app {x y : Str} (h1 : PyData.strOk x = true) (h2 : PyData.strOk y = true) : PyData.strOk (x ++ y) = true := by
  unfold PyData.strOk at *
  show ((x.cps ++ y.cps).all _) = true
  rw [Array.all_append, h1, h2]
  rfl
theorem op2_addS : Op2 K (fun x y H Q => ∃ i j, x = .str i ∧ y = .str j ∧ i.length + j.length ≤ sizeLine ∧ Q (.str (i ++ j)) H) (fun a b Q => ∃ i j, a = .str i ∧ b = .str j ∧ i.length + j.length ≤ sizeLine ∧ Q (.d (.str (i ++ j)))) := fun x y a b F H Q Qd s rx ry ⟨i, j, e1, e2, z, q⟩ k => by
  subst e1 e2
  cases rx with
  | str k1 =>
    cases ry with
    | str k2 => exact ⟨i, j, rfl, rfl, z, k _ _ F H q (made_d s (.str (strOk_app k1 k2)))⟩
theorem made_list {p : Addr} {vs : List V} {ds : List D} (n : H p = none) (s : Same F H) (r : RepL K F vs ds) : Made K F H F (upd H p (.lst vs)) (.ref p) (.own (.lst ds)) := .own (ob := .lst vs) rfl n rfl rfl ⟨vs, upd_same, r⟩
theorem made_tup {p : Addr} {vs : List V} {ds : List D} (n : H p = none) (s : Same F H) (r : RepL K F vs ds) : Made K F H (upd F p (.tup vs)) (upd H p (.tup vs)) (.ref p) (.d (.tup ds)) :=
  .d (Ext.new s n) (.tup upd_same (r.mono (same_upd (Same.refl F) (s.free n))))
theorem op2_cat : Op2 K rCat (fun a b Q => ∃ xs ys, a = .lst xs ∧ b = .lst ys ∧ xs.length + ys.length ≤ sizeLine ∧ Q (.own (.lst (xs ++ ys)))) := fun x y a b F H Q Qd s rx ry ⟨xs, ys, e1, e2, z, q⟩ k => by
  subst e1 e2
  cases rx with
  | lst s1 r1 =>
    cases ry with
    | lst s2 r2 => exact ⟨_, _, _, _, rfl, rfl, s _ _ s1, s _ _ s2, by rw [r1.len, r2.len]; exact z, fun p n => k _ _ _ _ q (made_list n s (r1.app r2))⟩
theorem op2_rep : Op2 K rRep (fun a b Q => ∃ xs n, a = .lst xs ∧ b = .int n ∧ -(2 ^ 63) ≤ n ∧ n < 2 ^ 63 ∧ xs.length * n.toNat ≤ sizeLine ∧ Q (.own (.lst (List.replicate n.toNat xs).flatten))) := fun x y a b F H Q Qd s rx ry ⟨xs, n, e1, e2, z1, z2, z, q⟩ k => by
  subst e1 e2
  cases ry
  cases rx with
  | lst s1 r1 => exact ⟨_, _, _, rfl, rfl, s _ _ s1, z1, z2, by rw [r1.len]; exact z, fun p np => k _ _ _ _ q (made_list np s (r1.rep _))⟩
theorem RepL.nil_iff {vs : List V} {ds : List D} (h : RepL K F vs ds) : vs = [] ↔ ds = [] := by cases h <;> simp
theorem op2_catT : Op2 K (rCatA K) (fun a b Q => ∃ xs ys, a = .tup xs ∧ b = .tup ys ∧ xs.length + ys.length ≤ sizeLine ∧ Q (.d (.tup (xs ++ ys)))) := fun x y a b F H Q Qd s rx ry ⟨xs, ys, e1, e2, z, q⟩ k => by
  subst e1 e2
  cases rx with
  | tup s1 r1 =>
    cases ry with
    | tup s2 r2 =>
      refine ⟨_, _, _, _, rfl, rfl, SqT.of (s _ _ s1), SqT.of (s _ _ s2), by rw [r1.len, r2.len]; exact z, fun e => ?_, fun _ e => ?_, fun _ _ p n => k _ _ _ _ q (made_tup n s (r1.app r2))⟩
      · have : xs = [] := r1.nil_iff.mp e
        subst this
        exact k _ _ _ _ q (made_d s (.tup s2 r2))
      · have : ys = [] := r2.nil_iff.mp e
        subst this
        rw [List.append_nil] at q
        exact k _ _ _ _ q (made_d s (.tup s1 r1))
/-! ### an item -/
abbrev ixD : RD2 := fun a b Q => ∃ i, b = .int i ∧ ((∃ xs d, (a = .lst xs ∨ a = .ro xs) ∧ atI xs i = some d ∧ Q (.d d)))
theorem op2_ixL : Op2 K (rIxL K) ixD := fun x y a b F H Q Qd s rx ry ⟨i, e, xs, d, ha, at', q⟩ k => by
  subst e
  cases ry
  rcases ha with rfl | rfl
  · cases rx with
    | lst s1 r1 => obtain ⟨v, e1, r⟩ := r1.ats at'; exact ⟨_, _, i, v, rfl, rfl, s.seq (SqL.of s1), e1, k _ _ _ _ q (made_d s r)⟩
  · cases rx with
    | ro s1 r1 => obtain ⟨v, e1, r⟩ := r1.ats at'; exact ⟨_, _, i, v, rfl, rfl, s.seq s1, e1, k _ _ _ _ q (made_d s r)⟩
theorem op2_ixT : Op2 K (rIxT K) (fun a b Q => ∃ xs i d, a = .tup xs ∧ b = .int i ∧ atI xs i = some d ∧ Q (.d d)) := fun x y a b F H Q Qd s rx ry ⟨xs, i, d, e1, e2, at', q⟩ k => by
  subst e1 e2
  cases ry
  cases rx with
  | tup s1 r1 => obtain ⟨v, e1, r⟩ := r1.ats at'; exact ⟨_, _, i, v, rfl, rfl, SqT.of (s _ _ s1), e1, k _ _ _ _ q (made_d s r)⟩
theorem strOk_one {z : Str} {c : Nat} (h : PyData.strOk z = true) (e : c ∈ z.cps.toList) : PyData.strOk ⟨#[c]⟩ = true := by
  unfold PyData.strOk at *
  rw [Array.all_eq_true] at h
  obtain ⟨i, hi, rfl⟩ := List.mem_iff_getElem.mp e
  have := h i (by simpa using hi)
  simpa using this
end
section
variable {X : Cx} {c : Fc} {W : WX}
theorem pd_ix {a b : Expr} {r : R2} {rd : RD2} {ta tb : TD} {pos : Pos} (ho : IxR X r) (hd : Op2 X.K r rd) (ha : PE X a (LE X.K c W ta)) (hb : PE X b (LE X.K c W tb)) (hs : PlainIx b) : PE X (.Subscript a b pos) (LE X.K c W (opD rd ta tb)) :=
  PE_imp (pe_ix ho ha hb hs) (lift_op hd)
/-- of an own list in slot i -/
def ixO (i : Nat) (t : TD) : TD := fun δ Q E => ∃ o, δ[i]? = some (some (.own o)) ∧ t δ (fun k δ1 => ∃ xs j d, δ1[i]? = some (some (.own (.lst xs))) ∧ k.toD = .int j ∧ atI xs j = some d ∧ Q (.d d) δ1) E
theorem pd_ixO {i : Nat} {x : Str} {b : Expr} {t : TD} {pos px : Pos} (ha : PE X (.Name x px) (tVar i)) (hb : PE X b (LE X.K c W t)) (hs : PlainIx b) : PE X (.Subscript (.Name x px) b pos) (LE X.K c W (ixO i t)) :=
  PE_imp (pe_ix ix_list ha hb hs) fun σ H Q ⟨δ, tmp, Qd, Ed, ⟨F, ow, S⟩, ⟨o, eo, q⟩, k, w⟩ => by
    obtain ⟨v, e1, p, rfl, _⟩ := S.sl _ _ eo
    refine ⟨_, e1, δ, tmp, _, Ed, ⟨F, ow, S⟩, q, fun u y δ1 H1 ⟨xs, j, d, ei, ej, ed, q1⟩ ⟨F1, ow1, S1⟩ => ?_, w⟩
    obtain ⟨F2, S2, _⟩ := S1.top_frz
    obtain ⟨v', e2, p', rfl, _, _, _, vs, ep, r⟩ := S2.sl _ _ ei
    rw [e1] at e2
    cases e2
    rw [ej] at S2
    obtain ⟨z, ez, rz⟩ := r.ats ed
    cases S2.top
    exact ⟨p, vs, j, z, rfl, rfl, SqL.of ep, ez, k _ _ _ _ q1 ⟨F2, ow1, S2.pop.push rz⟩⟩
/-! ### built-ins -/
abbrev RDN := List D → (DV → Prop) → Prop
abbrev RDNs := List D → (D → Prop) → Prop
def CallN (K : PySem.W.Frag) (r : List V → Hp → VK → Prop) (rd : RDN) : Prop := ∀ xs ds F H Q Qd, Same F H → RepL K F xs ds → rd ds Qd → (∀ v dv F' H', Qd dv → Made K F H F' H' v dv → Q v H') → r xs H Q
def CallNs (K : PySem.W.Frag) (r : List V → Hp → VK → Prop) (rd : RDNs) : Prop := ∀ xs ds F H Q Qd, Same F H → RepL K F xs ds → rd ds Qd → (∀ v z, Qd z → z.sc = some v → Q v H) → r xs H Q
theorem CallNs.op {K : PySem.W.Frag} {r : List V → Hp → VK → Prop} {rd : RDNs} (h : CallNs K r rd) : CallN K r (fun ds Q => rd ds fun z => NoStr z ∧ Q (.d z)) := fun xs ds F H Q Qd s rx q k =>
  h xs ds F H Q _ s rx q fun v z ⟨n, qz⟩ e => k v _ F H qz (made_d s (sc_rep n e))
def builtD (rd : RDN) (ta : TDA) : TD := fun δ Q E => ta δ (fun as δ1 => ∃ ds, as = ds.map .d ∧ rd ds fun z => Q z δ1) E
theorem args_d {K : PySem.W.Frag} {F : Hp} {σ : L2.St} : ∀ {ds : List D} {vs : List V}, RepArgs K F σ vs (ds.map .d) → RepL K F vs ds
  | [], _, .nil => .nil
  | _ :: _, _, .d h t => .cons h (args_d t)
theorem lift_built {r : List V → Hp → VK → Prop} {rd : RDN} {ta : TDA} {K : PySem.W.Frag} (hd : CallN K r rd) : ∀ σ H Q, LE K c W (builtD rd ta) σ H Q → tCB r (LA K c W ta) σ H Q := fun σ H Q ⟨δ, tmp, Qd, Ed, S, t, k, w⟩ =>
  ⟨δ, tmp, _, Ed, S, t, fun vs as δ1 F ow H1 ⟨ds, e, q⟩ S1 ra => by
    subst e
    exact hd _ _ F H1 Q _ S1.fh (args_d ra) q fun v dv F' H' q' m => k _ _ _ _ q' (m.stt S1), w⟩
theorem pd_builtB {x : Str} {e : Expr} {es : List Expr} {p pos : Pos} {r : List V → Hp → VK → Prop} {rd : RDN} {ta : TDA} (h : ∀ {t : TA}, PA X (e :: es) t → PE X (.Call (.Name x p) (e :: es) [] pos) (tCB r t)) (hd : CallN X.K r rd) (ha : PA X (e :: es) (LA X.K c W ta)) :
    PE X (.Call (.Name x p) (e :: es) [] pos) (LE X.K c W (builtD rd ta)) := PE_imp (h ha) (lift_built hd)
/-- of the own list in slot i alone -/
def builtO (i : Nat) (rd : RDNs) : TD := fun δ Q _ => ∃ xs, δ[i]? = some (some (.own (.lst xs))) ∧ rd [.lst xs] fun z => NoStr z ∧ Q (.d z) δ
theorem pd_builtO {i : Nat} {x y : Str} {p pos py : Pos} {r : List V → Hp → VK → Prop} {rd : RDNs} (h : ∀ {t : TA}, PA X [.Name y py] t → PE X (.Call (.Name x p) [.Name y py] [] pos) (tCB r t)) (hd : CallNs X.K r rd) (hv : PE X (.Name y py) (tVar i)) (hs : starEach [.Name y py] X.env = (false, eval (.Name y py) X.env) :: starEach [] X.env := by rfl) :
    PE X (.Call (.Name x p) [.Name y py] [] pos) (LE X.K c W (builtO i rd)) := PE_imp (h (pa_cons hv pa_nil hs)) fun σ H Q ⟨δ, tmp, Qd, Ed, ⟨F, ow, S⟩, ⟨xs, ei, q⟩, k, w⟩ => by
  obtain ⟨v, e1, p, rfl, _, n, _, r⟩ := S.sl _ _ ei
  obtain ⟨u, eu, r'⟩ := OwnRep.freeze (o := .lst xs) r n S.fh
  exact ⟨_, e1, hd _ _ (upd F p u) H Q _ (same_upd1 S.fh eu) (.cons r' .nil) q fun v z ⟨n, qz⟩ e => k v _ _ _ qz ⟨F, ow, S.push (sc_rep n e)⟩⟩
end
section
variable {K : PySem.W.Frag} {F F' H H' : Hp} {v : V} {d : D}
abbrev lenS : RDNs := fun ds Q => ∃ a xs, ds = [a] ∧ a.its = some xs ∧ Q (.int xs.length)
theorem cn_len : CallNs K (fun xs H Q => ∃ p ys, xs = [.ref p] ∧ (SqL K H p ys ∨ SqT K H p ys) ∧ Q (.int ys.length) H) lenS := fun xs ds F H Q Qd s r ⟨a, ys, e1, e2, q⟩ k => by
  subst e1
  cases r with
  | cons r t =>
    cases t
    obtain ⟨p, vs, rfl, h, r2⟩ := r.row e2
    rw [← r2.len] at q
    exact ⟨p, vs, rfl, sq_mono s h, k _ _ q rfl⟩
abbrev lenStr : RDNs := fun ds Q => ∃ z, ds = [.str z] ∧ z.length ≤ sizeLine ∧ Q (.int z.length)
theorem cn_lenS : CallNs K (fun xs H Q => ∃ z, xs = [.str z] ∧ z.length ≤ sizeLine ∧ Q (.int z.length) H) lenStr := fun xs ds F H Q Qd s r ⟨z, e1, hz, q⟩ k => by
  subst e1
  cases r with
  | cons r t => cases t; cases r; exact ⟨z, rfl, hz, k _ _ q rfl⟩
abbrev int1S : RDNs := fun ds Q => ∃ i, ds = [.int i] ∧ Q (.int i)
theorem cn_int : CallNs K (fun xs H Q => (∃ i, xs = [.int i] ∧ Q (.int i) H) ∨ ∃ k, xs = [.bl k] ∧ Q (.int (if k then 1 else 0)) H) int1S := fun xs ds F H Q Qd s r ⟨i, e1, q⟩ k => by
  subst e1
  cases r with
  | cons r t => cases t; cases r; exact .inl ⟨i, rfl, k _ _ q rfl⟩
abbrev absS : RDNs := fun ds Q => ∃ i, ds = [.int i] ∧ Q (.int (if i < 0 then -i else i))
theorem cn_abs : CallNs K (fun xs H Q => ∃ i, xs = [.int i] ∧ Q (.int (if i < 0 then -i else i)) H) absS := fun xs ds F H Q Qd s r ⟨i, e1, q⟩ k => by
  subst e1
  cases r with
  | cons r t => cases t; cases r; exact ⟨i, rfl, k _ _ q rfl⟩
abbrev two (f : Int → Int → Int) : RDNs := fun ds Q => ∃ i j, ds = [.int i, .int j] ∧ Q (.int (f i j))
theorem cn_two {f : Int → Int → Int} : CallNs K (fun xs H Q => ∃ i j, xs = [.int i, .int j] ∧ Q (.int (f i j)) H) (two f) := fun xs ds F H Q Qd s r ⟨i, j, e1, q⟩ k => by
  subst e1
  cases r with
  | cons r t =>
    cases t with
    | cons r2 t => cases t; cases r; cases r2; exact ⟨i, j, rfl, k _ _ q rfl⟩
theorem repL_map {f : α → V} {g : α → D} (h : ∀ {F v a}, Rep K F v (g a) → v = f a) : ∀ {l : List α} {vs : List V}, RepL K F vs (l.map g) → vs = l.map f
  | [], _, .nil => rfl
  | a :: l, _, .cons r t => by rw [h r, repL_map h t]; rfl
theorem repL_int {l : List Int} {vs : List V} (r : RepL K F vs (l.map .int)) : vs = l.map V.int := repL_map (fun r => by cases r; rfl) r
theorem repL_bl {l : List Bool} {vs : List V} (r : RepL K F vs (l.map .bl)) : vs = l.map V.bl := repL_map (fun r => by cases r; rfl) r
abbrev allS (f : List Bool → Bool) : RDNs := fun ds Q => ∃ bs, (ds = [.lst (bs.map .bl)] ∨ ds = [.ro (bs.map .bl)]) ∧ Q (.bl (f bs))
theorem rep_lst {p : V} {xs : List D} (s : Same F H) (h : ([.lst xs] = ds) ∨ ([.ro xs] = ds)) {vs : List V} (r : RepL K F vs ds) : ∃ a ys, vs = [.ref a] ∧ SqL K H a ys ∧ RepL K F ys xs := by
  rcases h with rfl | rfl
  · cases r with
    | cons r t => cases t; cases r with
      | lst s1 r1 => exact ⟨_, _, rfl, s.seq (SqL.of s1), r1⟩
  · cases r with
    | cons r t => cases t; cases r with
      | ro s1 r1 => exact ⟨_, _, rfl, s.seq s1, r1⟩
theorem cn_all : CallNs K (rAll K) (allS fun bs => bs.all id) := fun xs ds F H Q Qd s r ⟨bs, e, q⟩ k => by
  obtain ⟨a, ys, rfl, h, r2⟩ := rep_lst (p := .non) s (e.imp Eq.symm Eq.symm) r
  cases repL_bl r2
  exact ⟨a, bs, rfl, h, k _ _ q rfl⟩
abbrev sumS : RDNs := fun ds Q => ∃ ns : List Int, (ds = [.lst (ns.map .int)] ∨ ds = [.ro (ns.map .int)]) ∧ Q (.int ns.sum)
theorem cn_sum : CallNs K (rSum K) sumS := fun xs ds F H Q Qd s r ⟨bs, e, q⟩ k => by
  obtain ⟨a, ys, rfl, h, r2⟩ := rep_lst (p := .non) s (e.imp Eq.symm Eq.symm) r
  cases repL_int r2
  exact ⟨a, bs, rfl, h, k _ _ q rfl⟩
/-- isinstance -/
inductive ClsD : D → Value → Prop where
  | ty (n : String) : ClsD (.ty n) (.type n)
  | own (C : Addr) : ClsD (.adr C) (.ref C)
inductive TyD (K : PySem.W.Frag) : D → Value → Prop where
  | non : TyD K .non (.type "NoneType")
  | bl (b : Bool) : TyD K (.bl b) (.type "bool")
  | int (i : Int) : TyD K (.int i) (.type "int")
  | str (x : Str) : TyD K (.str x) (.type "str")
  | lst (xs : List D) : TyD K (.lst xs) (.type "list")
  | tup (xs : List D) : TyD K (.tup xs) (.type "tuple")
  | rot (xs : List D) : TyD K (.rot xs) (.type "tuple")
  | ktp (xs : List D) : TyD K (.ktp xs) (.type "tuple")
  | obj {C : Addr} {fs : List (Str × D)} (cl : Cls K C) (i : SlX.SIsi K C) : TyD K (.obj C fs) (.ref C)
theorem sqt_ty {p : Addr} {vs : List V} (h : SqT K H p vs) : TyX K H (.ref p) (.type "tuple") := by
  rcases h with (h | ⟨o, h⟩) | ⟨o, its, n, e, cl, _⟩
  · exact .base (.tup h)
  · exact .fTuple h
  · exact .kTuple e cl
theorem tyD_x {t : Value} (s : Same F H) (r : Rep K F v d) (h : TyD K d t) : TyX K H v t := by
  cases h with
  | non => cases r; exact .base .non
  | bl b => cases r; exact .base (.bl b)
  | int i => cases r; exact .base (.int i)
  | str x => cases r; exact .base (.str x)
  | lst xs => cases r with | lst s1 _ => exact .base (.lst (s _ _ s1))
  | tup xs => cases r with | tup s1 _ => exact .base (.tup (s _ _ s1))
  | rot xs => cases r with | rot s1 _ _ _ => exact sqt_ty (sqt_mono s (.inl (.inr ⟨_, s1⟩)))
  | ktp xs => cases r with | ktp s1 _ => exact sqt_ty (sqt_mono s s1)
  | obj cl i => cases r with | obj s1 _ => exact .base (.ins (s _ _ s1) cl i.ca i.cn i.ct i.cm)
theorem clsD_v {u : Value} (r : Rep K F v d) (h : ClsD d u) : ClsV v u := by
  cases h with
  | ty n => cases r; exact .ty n
  | own C => cases r; exact .own C
abbrev isiS (K : PySem.W.Frag) : RDNs := fun ds Q => ∃ x c t u b, ds = [x, c] ∧ ClsD c u ∧ TyD K x t ∧ PySem.W.kitOne K t u = some b ∧ Q (.bl b)
theorem cn_isi : CallNs K (rIsi K) (isiS K) := fun xs ds F H Q Qd s r ⟨x, c, t, u, b, e, hc, ht, hk, q⟩ k => by
  subst e
  cases r with
  | cons r t =>
    cases t with
    | cons r2 t => cases t; exact ⟨_, _, _, u, b, rfl, clsD_v r2 hc, tyD_x s r ht, hk, k _ _ q rfl⟩
/-- of several classes -/
inductive ClsDs : List D → List Value → Prop where
  | nil : ClsDs [] []
  | cons {d : D} {u : Value} {ds : List D} {us : List Value} (h : ClsD d u) (t : ClsDs ds us) : ClsDs (d :: ds) (u :: us)
theorem clsDs_v : ∀ {ds : List D} {us : List Value} {vs : List V}, RepL K F vs ds → ClsDs ds us → Paired ClsV vs us
  | _, _, _, .nil, .nil => .nil
  | _, _, _, .cons r t, .cons h u => .cons (clsD_v r h) (clsDs_v t u)
/-- list(row), tuple(row) -/
abbrev listN : RDN := fun ds Q => ∃ a xs, ds = [a] ∧ a.its = some xs ∧ Q (.own (.lst xs))
theorem cn_list : CallN K (fun xs H Q => ∃ p ys, xs = [.ref p] ∧ (SqL K H p ys ∨ SqT K H p ys) ∧ ∀ l, H l = none → Q (.ref l) (upd H l (.lst ys))) listN := fun xs ds F H Q Qd s r ⟨a, ys, e1, e2, q⟩ k => by
  subst e1
  cases r with
  | cons r t =>
    cases t
    obtain ⟨p, vs, rfl, h, r2⟩ := r.row e2
    exact ⟨p, vs, rfl, sq_mono s h, fun l n => k _ _ _ _ q (made_list n s r2)⟩
abbrev tupleN : RDN := fun ds Q => ∃ a xs, ds = [a] ∧ (a = .lst xs ∨ a = .ro xs ∨ a = .tup xs) ∧ Q (.d (.tup xs))
theorem cn_tuple : CallN K (fun xs H Q => ∃ p ys, xs = [.ref p] ∧ ((SqL K H p ys ∧ ∀ l, H l = none → Q (.ref l) (upd H l (.tup ys))) ∨ (SqT K H p ys ∧ Q (.ref p) H))) tupleN := fun xs ds F H Q Qd s r ⟨a, ys, e1, e2, q⟩ k => by
  subst e1
  cases r with
  | cons r t =>
    cases t
    rcases e2 with rfl | rfl | rfl
    · cases r with | lst s1 r1 => exact ⟨_, _, rfl, .inl ⟨s.seq (SqL.of s1), fun l n => k _ _ _ _ q (made_tup n s r1)⟩⟩
    · cases r with | ro s1 r1 => exact ⟨_, _, rfl, .inl ⟨s.seq s1, fun l n => k _ _ _ _ q (made_tup n s r1)⟩⟩
    · cases r with | tup s1 r1 => exact ⟨_, _, rfl, .inr ⟨SqT.of (s _ _ s1), k _ _ _ _ q (made_d s (.tup s1 r1))⟩⟩
end
end DL

set_option Elab.async false
set_option linter.all false
set_option maxRecDepth 100000
namespace DL
open PySem PySem.Spec PyProof.Rows L2
section
variable {X : Cx} {c : Fc} {W : WX}
/-! ### displays, unary, chains, truth -/
def tupD (ta : TDA) : TD := fun δ Q E => ta δ (fun as δ1 => ∃ ds, as = ds.map .d ∧ ds.length ≤ sizeLine ∧ Q (.d (.tup ds)) δ1) E
theorem pd_tup {es : List Expr} {ta : TDA} {k : Nat} {pos : Pos} (h : ∀ {t : TA}, PA X es t → PE X (.Tuple es k pos) (tTup t)) (ha : PA X es (LA X.K c W ta)) : PE X (.Tuple es k pos) (LE X.K c W (tupD ta)) :=
  PE_imp (h ha) fun σ H Q ⟨δ, tmp, Qd, Ed, S, t, k, w⟩ => ⟨δ, tmp, _, Ed, S, t, fun vs as δ1 F ow H1 ⟨ds, e, hz, q⟩ S1 ra => by
    subst e
    have r := args_d ra
    exact ⟨by rw [r.len]; exact hz, fun p n => k _ _ _ _ q ((made_tup n S1.fh r).stt S1)⟩, w⟩
def lstD (ta : TDA) : TD := fun δ Q E => ta δ (fun as δ1 => ∃ ds, as = ds.map .d ∧ ds.length ≤ sizeLine ∧ Q (.own (.lst ds)) δ1) E
theorem pd_lst {es : List Expr} {ta : TDA} {pos : Pos} (h : ∀ {t : TA}, PA X es t → PE X (.List es pos) (tLst t)) (ha : PA X es (LA X.K c W ta)) : PE X (.List es pos) (LE X.K c W (lstD ta)) :=
  PE_imp (h ha) fun σ H Q ⟨δ, tmp, Qd, Ed, S, t, k, w⟩ => ⟨δ, tmp, _, Ed, S, t, fun vs as δ1 F ow H1 ⟨ds, e, hz, q⟩ S1 ra => by
    subst e
    have r := args_d ra
    exact ⟨by rw [r.len]; exact hz, fun p n => k _ _ _ _ q ((made_list n S1.fh r).stt S1)⟩, w⟩
def negD (t : TD) : TD := fun δ Q E => t δ (fun x δ1 => ∃ i, x.toD = .int i ∧ Q (.d (.int (-i))) δ1) E
theorem pd_neg {e : Expr} {t : TD} {pos : Pos} (he : PE X e (LE X.K c W t)) : PE X (.UnaryOp .USub e pos) (LE X.K c W (negD t)) :=
  PE_imp (pe_un un_neg he) fun σ H Q ⟨δ, tmp, Qd, Ed, S, t, k, w⟩ => ⟨δ, tmp, _, Ed, S, t, fun v x δ1 H1 ⟨i, e, q⟩ ⟨F, ow, S1⟩ => by
    obtain ⟨F2, S2, _⟩ := S1.top_frz
    rw [e] at S2
    cases S2.top
    exact ⟨i, rfl, k _ _ _ _ q ⟨F2, ow, S2.pop.push (.int _)⟩⟩, w⟩
def chainD (rd rd' : RD2) (ta tb tc : TD) : TD := fun δ Q E => ta δ (fun x δ1 => tb δ1 (fun y δ2 => rd x.toD y.toD fun z => ∃ k, z = .d (.bl k) ∧ if k = true then tc δ2 (fun w δ3 => rd' y.toD w.toD fun z' => Q z' δ3) E else Q (.d (.bl false)) δ2) E) E
theorem pd_chain {a b e : Expr} {op op' : CmpOp} {r r' : R2} {rd rd' : RD2} {ta tb tc : TD} {pos : Pos} (ho : OpR X (compareOp op) r) (hd : Op2 X.K r rd) (ho' : OpR X (compareOp op') r') (hd' : Op2 X.K r' rd') (ha : PE X a (LE X.K c W ta)) (hb : PE X b (LE X.K c W tb)) (hc : PE X e (LE X.K c W tc)) (hm : lastMarks [op, op'] [b, e] = false := by rfl) :
    PE X (.Compare a [op, op'] [b, e] pos) (LE X.K c W (chainD rd rd' ta tb tc)) := PE_imp (pe_chain ho ho' ha hb hc (hm := hm)) fun σ H Q ⟨δ, tmp, Qd, Ed, S, t, k, w⟩ => by
  refine ⟨δ, tmp, _, Ed, S, t, fun x a δ1 H1 t1 S1 => ?_, w⟩
  refine ⟨δ1, _, _, Ed, S1, t1, fun y b δ2 H2 t2 ⟨F, ow, S2⟩ => ?_, w.push⟩
  obtain ⟨F', S3, _⟩ := S2.top_frz2
  refine hd x y _ _ F' H2 _ _ S3.fh S3.pop.top S3.top t2 fun v dv F2 H3 ⟨kk, e, q⟩ m => ?_
  subst e
  cases m with
  | d e r =>
    cases r
    refine ⟨kk, rfl, ?_⟩
    have S4 := S3.ext e
    cases kk with
    | false => exact k _ _ _ _ q ⟨F2, ow, S4.pop.pop.push (.bl _)⟩
    | true =>
      have S5 : SttF X.K c F2 ow δ2 ((y, .d b.toD) :: tmp) σ H3 := S4.pop.pop.push S4.top
      refine ⟨δ2, _, _, Ed, ⟨F2, ow, S5⟩, q, fun u z δ3 H4 q2 ⟨F5, ow5, S6⟩ => ?_, w.push⟩
      obtain ⟨F7, S7, s7⟩ := S6.top_frz
      exact hd' y u _ _ F7 H4 Q _ S7.fh S7.pop.top S7.top q2 fun v dv F8 H5 q3 m => k _ _ _ _ q3 (m.stt S7.pop.pop)
/-- a test whose value is a bool -/
def tvD (t : TD) : TDT := fun δ Q E => boolE t Q E δ
theorem ptd_val {e : Expr} {t : TD} (he : PE X e (LE X.K c W t)) (h : ∀ {t : TE}, PE X e t → PT X e (tB t)) : PT X e (LT X.K c W (tvD t)) :=
  PT_imp (h he) fun σ H Q ⟨δ, tmp, Qd, Ed, S, q, k, w⟩ => ⟨δ, tmp, _, _, S, q, fun v x δ' H' ⟨b, e, q'⟩ ⟨F, ow, S'⟩ => by
    subst e
    cases S'.top
    exact ⟨b, rfl, k _ _ _ q' ⟨F, ow, S'.pop⟩⟩, w⟩
/-! ### what is walked -/
/-- from turn i on the iterator J hands back the items: whatever grows, while src stands for v -/
structure Serve (K : PySem.W.Frag) (J : It) (v : V) (src : D) (items : List D) : Prop where
  go : ∀ (i : Nat) (F H : Hp), Same F H → Rep K F v src → i < items.length → J.go i H
  stop : ∀ (i : Nat) (F H : Hp), Same F H → Rep K F v src → items.length ≤ i → J.stop i H
  yld : ∀ (i : Nat) (F H : Hp) (x : V) (H' : Hp), Same F H → Rep K F v src → J.yld i H x H' → ∀ d, items[i]? = some d → ∃ F', Ext F H F' H' ∧ Rep K F' x d
abbrev TDI := DSt → (List D → DSt → Prop) → XD → Prop
def LI (K : PySem.W.Frag) (c : Fc) (W : WX) (t : TDI) : TI := fun σ H R => ∃ δ tmp Qd Ed, Stt K c δ tmp σ H ∧ t δ Qd Ed ∧ (∀ J v src items δ' H', Qd items δ' → Serve K J v src items → Stt K c δ' ((v, .d src) :: tmp) σ H' → R J H') ∧ WD K c W tmp Ed
theorem PI_imp {tg e : Expr} {t t' : TI} (h : PI X tg e t) (f : ∀ σ H R, t' σ H R → t σ H R) : PI X tg e t' := ⟨fun pins s σ H R I q => h.run pins s σ H R I (f _ _ _ q)⟩
theorem serve_list {K : PySem.W.Frag} {p : Addr} {src : D} {items : List D} (e : src = .lst items ∨ src = .ro items) : Serve K (Itl K p) (.ref p) src items := by
  have sq : ∀ {F H : Hp}, Same F H → Rep K F (.ref p) src → ∃ vs, SqL K H p vs ∧ RepL K F vs items := fun {F H} s r => by
    rcases e with rfl | rfl
    · cases r with | lst s1 r1 => exact ⟨_, s.seq (SqL.of s1), r1⟩
    · cases r with | ro s1 r1 => exact ⟨_, s.seq s1, r1⟩
  refine ⟨fun i F H s r hi => ?_, fun i F H s r hi => ?_, fun i F H x H' s r y d hd => ?_⟩
  · obtain ⟨vs, h, rl⟩ := sq s r
    obtain ⟨v, e, _⟩ := rl.get (List.getElem?_eq_getElem hi)
    exact ⟨vs, v, h, e⟩
  · obtain ⟨vs, h, rl⟩ := sq s r
    exact ⟨vs, h, by rw [rl.len]; exact hi⟩
  · obtain ⟨vs, h, rl⟩ := sq s r
    obtain ⟨rfl, y⟩ := y
    obtain ⟨v, e, rv⟩ := rl.get hd
    rw [y vs h] at e
    cases e
    exact ⟨F, Ext.refl s, rv⟩
theorem serve_tup {K : PySem.W.Frag} {p : Addr} {items : List D} : Serve K (Itt K p) (.ref p) (.tup items) items := by
  have sq : ∀ {F H : Hp}, Same F H → Rep K F (.ref p) (.tup items) → ∃ vs, SqT K H p vs ∧ RepL K F vs items := fun {F H} s r => by
    cases r with | tup s1 r1 => exact ⟨_, SqT.of (s _ _ s1), r1⟩
  refine ⟨fun i F H s r hi => ?_, fun i F H s r hi => ?_, fun i F H x H' s r y d hd => ?_⟩
  · obtain ⟨vs, h, rl⟩ := sq s r
    obtain ⟨v, e, _⟩ := rl.get (List.getElem?_eq_getElem hi)
    exact ⟨vs, v, h, e⟩
  · obtain ⟨vs, h, rl⟩ := sq s r
    exact ⟨vs, h, by rw [rl.len]; exact hi⟩
  · obtain ⟨vs, h, rl⟩ := sq s r
    obtain ⟨rfl, y⟩ := y
    obtain ⟨v, e, rv⟩ := rl.get hd
    rw [y vs h] at e
    cases e
    exact ⟨F, Ext.refl s, rv⟩
def listI (t : TD) : TDI := fun δ Q E => t δ (fun x δ1 => ∃ xs, (x.toD = .lst xs ∨ x.toD = .ro xs) ∧ Q xs δ1) E
def tupI (t : TD) : TDI := fun δ Q E => t δ (fun x δ1 => ∃ xs, x.toD = .tup xs ∧ Q xs δ1) E
def strI (t : TD) : TDI := fun δ Q E => t δ (fun x δ1 => ∃ z, x.toD = .str z ∧ Q (z.cps.toList.map fun ch => .str ⟨#[ch]⟩) δ1) E
theorem pid_list {tg e : Expr} {t : TD} (he : PE X e (LE X.K c W t)) : PI X tg e (LI X.K c W (listI t)) :=
  PI_imp (pi_list he) fun σ H R ⟨δ, tmp, Qd, Ed, S, q, k, w⟩ => ⟨δ, tmp, _, _, S, q, fun v x δ' H' ⟨xs, e, q'⟩ ⟨F, ow, S'⟩ => by
    obtain ⟨F2, S2, _⟩ := S'.top_frz
    obtain ⟨p, vs, rfl, h, r⟩ := S2.top.row (xs := xs) (by rcases e with e | e <;> rw [e] <;> rfl)
    have h' : ∃ xs, SqL X.K H' p xs := by
      have r0 := S2.top
      rcases e with e | e
      · rw [e] at r0; cases r0 with | lst s1 _ => exact ⟨_, S2.fh.seq (SqL.of s1)⟩
      · rw [e] at r0; cases r0 with | ro s1 _ => exact ⟨_, S2.fh.seq s1⟩
    exact ⟨p, rfl, h', k _ _ _ xs _ _ q' (serve_list e) ⟨F2, ow, S2⟩⟩, w⟩
theorem pid_tup {tg e : Expr} {t : TD} (he : PE X e (LE X.K c W t)) : PI X tg e (LI X.K c W (tupI t)) :=
  PI_imp (pi_tup he) fun σ H R ⟨δ, tmp, Qd, Ed, S, q, k, w⟩ => ⟨δ, tmp, _, _, S, q, fun v x δ' H' ⟨xs, e, q'⟩ ⟨F, ow, S'⟩ => by
    obtain ⟨F2, S2, _⟩ := S'.top_frz
    rw [e] at S2
    have r0 := S2.top
    cases r0 with
    | tup s1 _ => exact ⟨_, rfl, ⟨_, SqT.of (S2.fh _ _ s1)⟩, k _ _ _ xs _ _ q' serve_tup ⟨F2, ow, S2⟩⟩, w⟩
theorem pid_str {tg e : Expr} {t : TD} (he : PE X e (LE X.K c W t)) : PI X tg e (LI X.K c W (strI t)) :=
  PI_imp (pi_str he) fun σ H R ⟨δ, tmp, Qd, Ed, S, q, k, w⟩ => ⟨δ, tmp, _, _, S, q, fun v x δ' H' ⟨z, e, q'⟩ ⟨F, ow, S'⟩ => by
    obtain ⟨F2, S2, _⟩ := S'.top_frz
    rw [e] at S2
    have r0 := S2.top
    cases r0 with
    | str k1 =>
      refine ⟨z, rfl, k _ _ _ _ _ _ q' ⟨fun i F H s r hi => ?_, fun i F H s r hi => ?_, fun i F H x H' s r y d hd => ?_⟩ ⟨F2, ow, S2⟩⟩
      · show i < z.cps.size
        simpa using hi
      · show z.cps.size ≤ i
        simpa using hi
      · obtain ⟨rfl, ch, hc, rfl⟩ := y
        have hc' : z.cps.toList[i]? = some ch := by simpa using hc
        rw [List.getElem?_map, hc'] at hd
        cases hd
        exact ⟨F, Ext.refl s, .str (strOk_one k1 (List.mem_of_getElem? hc'))⟩, w⟩
def upto (lo : Int) (n : Nat) : List D := (List.range n).map fun k => .int (lo + (k : Nat))
theorem serve_range {K : PySem.W.Frag} {lo : Int} {n : Nat} {v : V} {src : D} : Serve K (Itr lo n) v src (upto lo n) := by
  have hl : (upto lo n).length = n := by simp [upto]
  refine ⟨fun i F H s r hi => ?_, fun i F H s r hi => ?_, fun i F H x H' s r y d hd => ?_⟩
  · rw [hl] at hi; exact hi
  · rw [hl] at hi; exact hi
  · obtain ⟨rfl, rfl⟩ := y
    unfold upto at hd
    rw [List.getElem?_map] at hd
    cases q : (List.range n)[i]? with
    | none => rw [q] at hd; cases hd
    | some j =>
      rw [q] at hd
      cases hd
      have : j = i := by
        have := (List.getElem?_eq_some_iff.mp q).2
        simpa using this.symm
      subst this
      exact ⟨F, Ext.refl s, .int _⟩
def range1I (ta : TDA) : TDI := fun δ Q E => ta δ (fun as δ1 => ∃ j, as = [.d (.int j)] ∧ -(2 ^ 62) ≤ j ∧ j < 2 ^ 62 ∧ Q (upto 0 j.toNat) δ1) E
theorem pid_range1 {tg a : Expr} {ta : TDA} {p pos : Pos} (hg : Gl X "range") (hm : X.mg "range" = none) (ha : PA X [a] (LA X.K c W ta)) (hs : starEach [a] X.env = [(false, eval a X.env)] := by rfl) : PI X tg (.Call (.Name "range" p) [a] [] pos) (LI X.K c W (range1I ta)) :=
  PI_imp (pi_range1 hg hm ha hs) fun σ H R ⟨δ, tmp, Qd, Ed, S, q, k, w⟩ => ⟨δ, tmp, _, _, S, q, fun vs as δ' F ow H' ⟨j, e, h1, h2, q'⟩ S' ra => by
    subst e
    cases ra with
    | d h t => cases t; cases h; exact ⟨j, rfl, h1, h2, k _ .non .non _ _ _ q' serve_range ⟨F, ow, S'.push .non⟩⟩, w⟩
/-! ### targets -/
abbrev TDG := D → DSt → (DSt → Prop) → Prop
/-- a target, of frozen things -/
def LG (K : PySem.W.Frag) (c : Fc) (vs : List Nat) (g : TDG) : TG := fun v σ H Q => ∃ δ tmp x Qd, Stt K c δ ((v, .d x) :: tmp) σ H ∧ g x δ Qd ∧ ∀ δ' σ' H', Qd δ' → Stt K c δ' tmp σ' H' → wipe σ' vs = wipe σ vs → Q σ' H'
theorem wipe_set {σ : L2.St} {i : Nat} {x : Option V} : ∀ {vs : List Nat}, i ∈ vs → wipe (σ.set i x) vs = wipe σ vs
  | v :: vs, h => by
    unfold wipe
    by_cases e : i ∈ vs
    · rw [wipe_set e]
    · have : i = v := (List.mem_cons.mp h).elim id fun z => absurd z e
      subst this
      have aux : ∀ (vs : List Nat), (wipe (σ.set i x) vs).set i none = (wipe σ vs).set i none := fun vs => by
        induction vs with
        | nil => unfold wipe; rw [List.set_set]
        | cons a r ih =>
          unfold wipe
          by_cases q : a = i
          · subst q; rw [List.set_set, List.set_set]; exact ih
          · rw [List.set_comm _ _ q, List.set_comm _ _ q, ih]
      exact aux vs
theorem PG_imp {e : Expr} {t t' : TG} (h : PG X e t) (f : ∀ v σ H Q, t' v σ H Q → t v σ H Q) : PG X e t' := ⟨fun pins s σ H x u Q I r q => h.run pins s σ H x u Q I r (f _ _ _ _ q)⟩
def nameG (i : Nat) : TDG := fun x δ Q => Q (δ.set i (some (.d x)))
theorem pgd_name {i : Nat} {vs : List Nat} {e : Expr} (h : PG X e (gName i)) (ni : i ∉ c.sl) (iv : i ∈ vs) : PG X e (LG X.K c vs (nameG i)) :=
  PG_imp h fun v σ H Q ⟨δ, tmp, x, Qd, ⟨F, ow, S⟩, q, k⟩ => k _ _ _ q (S.set' ni) (wipe_set iv)
/-- the items of a tuple to names -/
def namesG : List Nat → List D → DSt → (DSt → Prop) → Prop
  | [], [], δ, Q => Q δ
  | i :: is, x :: xs, δ, Q => namesG is xs (δ.set i (some (.d x))) Q
  | _, _, _, _ => False
def tupG (is : List Nat) : TDG := fun x δ Q => ∃ xs, x = .tup xs ∧ namesG is xs δ Q
def gNames : List Nat → TGs
  | [] => gNil
  | i :: is => gCons (gName i) (gNames is)
theorem names_run {K : PySem.W.Frag} {c : Fc} {Q : L2.St → Hp → Prop} {tmp : List (V × DV)} {ws : List Nat} {w0 : L2.St} : ∀ {is : List Nat} {xs : List D} {vs : List V} {δ : DSt} {σ : L2.St} {F H : Hp} {ow : Addr → Option Hold} {Qd : DSt → Prop}, (∀ i ∈ is, i ∉ c.sl ∧ i ∈ ws) → wipe σ ws = w0 → SttF K c F ow δ tmp σ H → RepL K F vs xs → namesG is xs δ Qd → (∀ δ' σ' H', Qd δ' → Stt K c δ' tmp σ' H' → wipe σ' ws = w0 → Q σ' H') → gNames is vs σ H Q
  | [], [], _, δ, σ, F, H, ow, Qd, _, hw, S, .nil, q, k => ⟨rfl, k _ _ _ q ⟨F, ow, S⟩ hw⟩
  | i :: is, x :: xs, _, δ, σ, F, H, ow, Qd, hn, hw, S, .cons r t, q, k => by
    refine ⟨_, _, rfl, ?_⟩
    show gNames is _ _ H Q
    rcases Nat.lt_or_ge i δ.length with hi | hi
    · obtain ⟨ow', S'⟩ := (S.push r).set hi (hn i List.mem_cons_self).1
      exact names_run (fun j hj => hn j (List.mem_cons_of_mem _ hj)) ((wipe_set (hn i List.mem_cons_self).2).trans hw) S' t q k
    · have q' : namesG is xs (δ.set i (some (.d x))) Qd := q
      rw [List.set_eq_of_length_le hi] at q'
      rw [List.set_eq_of_length_le (by rw [S.len]; exact hi)]
      exact names_run (fun j hj => hn j (List.mem_cons_of_mem _ hj)) hw S t q' k
  | [], _ :: _, _, _, _, _, _, _, _, _, _, _, _, q, _ => q.elim
  | _ :: _, [], _, _, _, _, _, _, _, _, _, _, _, q, _ => q.elim
theorem names_len {Q : DSt → Prop} : ∀ {is : List Nat} {xs : List D} {δ : DSt}, namesG is xs δ Q → xs.length = is.length
  | [], [], _, _ => rfl
  | _ :: is, _ :: xs, _, q => congrArg (· + 1) (names_len (is := is) (xs := xs) q)
  | [], _ :: _, _, q => q.elim
  | _ :: _, [], _, q => q.elim
theorem pgd_tup {is vs : List Nat} {e : Expr} {n : Nat} (h : PG X e (gTup X.K n (gNames is))) (hn : n = is.length) (ni : ∀ i ∈ is, i ∉ c.sl ∧ i ∈ vs) : PG X e (LG X.K c vs (tupG is)) :=
  PG_imp h fun v σ H Q ⟨δ, tmp, x, Qd, ⟨F, ow, S⟩, ⟨xs, e, q⟩, k⟩ => by
    subst e
    have r0 := S.top
    cases r0 with
    | tup s1 r1 =>
      refine ⟨_, _, rfl, SqT.of (S.fh _ _ s1), ?_, names_run ni rfl S.pop r1 q k⟩
      rw [r1.len, hn]
      exact names_len q
/-! ### for -/
def forD (g : TDG) (tb : TDS) (D : EndsD) : List DL.D → DSt → Prop
  | [], δ => D.nx δ
  | x :: xs, δ => g x δ fun δ1 => tb { D with nx := forD g tb D xs, ct := forD g tb D xs, bk := D.nx } δ1
def forS (ti : TDI) (g : TDG) (tb : TDS) : TDS := fun D δ => ti δ (fun xs δ1 => forD g tb D xs δ1) D.ex
theorem psd_for {tg iter : Expr} {body : List Stmt} {ti : TDI} {g : TDG} {tb : TDS} {pos : Pos} (hp : PassesOwn (model X.prog X.w) X.A X.env X.xe) (hc : X.calm = true) (hi : PI X tg iter (LI X.K c W ti)) {vs : List Nat} (hg : PG X tg (LG X.K c vs g)) (hb : PSs X body (LS X.K c W tb))
    (hs : ∀ x, foldedSetIterable iter X.env x = pure x := by intro _; rfl) : PS X (.For tg iter body [] pos) (LS X.K c W (forS ti g tb)) :=
  PS_imp (ps_for hp hc hi hg hb hs) fun D σ H ⟨δ, tmp, Dd, S, q, k, kr, kb, kc, w⟩ => by
    refine ⟨δ, tmp, _, _, S, q, fun J v src items δ1 H1 q1 sv S1 => ?_, w⟩
    refine ⟨fun i m σ H => m = items.length - i ∧ i ≤ items.length ∧ ∃ δ, Stt X.K c δ ((v, .d src) :: tmp) σ H ∧ forD g tb Dd (items.drop i) δ, ⟨items.length, by simp, Nat.zero_le _, δ1, S1, q1⟩, ?_⟩
    rintro i m σ2 H2 ⟨rfl, hi, δ2, ⟨F2, ow2, S2⟩, q2⟩
    by_cases hlt : i < items.length
    · refine .inr ⟨sv.go i F2 H2 S2.fh S2.top hlt, fun σ H => i + 1 ≤ items.length ∧ ∃ δ, Stt X.K c δ ((v, .d src) :: tmp) σ H ∧ forD g tb Dd (items.drop (i + 1)) δ, fun σ' H' h => ⟨items.length - (i + 1), by omega, rfl, h⟩, fun x H' y => ?_⟩
      obtain ⟨F3, e3, r3⟩ := sv.yld i F2 H2 x H' S2.fh S2.top y _ (List.getElem?_eq_getElem hlt)
      rw [List.drop_eq_getElem_cons hlt] at q2
      refine ⟨δ2, (v, .d src) :: tmp, _, _, ⟨F3, ow2, (S2.ext e3).push r3⟩, q2, fun δ4 σ4 H4 q4 S4 _ => ⟨δ4, (v, .d src) :: tmp, _, S4, q4, fun δ5 σ5 H5 q5 S5 => ⟨hlt, δ5, S5, q5⟩, fun u z δ5 σ5 H5 q5 ⟨F5, ow5, S5⟩ => ?_, fun δ5 σ5 H5 q5 ⟨F5, ow5, S5⟩ => k δ5 σ5 H5 q5 ⟨F5, ow5, S5.pop⟩, fun δ5 σ5 H5 q5 S5 => ⟨hlt, δ5, S5, q5⟩, w.push⟩⟩
      -- the answer is on top of what is walked
      obtain ⟨F6, S6⟩ : ∃ F6 ow6, SttF X.K c F6 ow6 δ5 ((u, z) :: tmp) σ5 H5 := by
        have tm := S5.tm
        cases z with
        | d y => exact ⟨F5, ow5, { S5.pop.pop with tm := ⟨tm.1, tm.2.2⟩ }⟩
        | own o =>
          obtain ⟨p, rfl, e, b, n, r⟩ := tm.1
          have S7 := S5.pop.pop.reown (ow' := owSet ow5 p (.t tmp.length)) (fun k a z _ => owSet_ne fun y => by subst y; rw [e] at z; cases z) (fun k a hk z _ => owSet_ne fun y => by
            subst y; rw [e] at z; cases z
            have : tmp.length + 1 < tmp.length := hk
            omega)
          exact ⟨F5, _, { S7 with tm := ⟨⟨p, rfl, owSet_at, b, .inl n.t, r⟩, S7.tm⟩ }⟩
      exact kr u z δ5 σ5 H5 q5 ⟨F6, S6⟩
    · have e : i = items.length := by omega
      subst e
      rw [List.drop_length] at q2
      exact .inl ⟨sv.stop _ F2 H2 S2.fh S2.top (Nat.le_refl _), k _ _ _ q2 ⟨F2, ow2, S2.pop⟩⟩
/-! ### while: the invariant is the reader's -/
/-! ### list comprehensions -/
def wipeD (δ : DSt) : List Nat → DSt
  | [] => δ
  | v :: vs => (wipeD δ vs).set v none
abbrev W0 : WX := fun _ _ _ _ => False
abbrev noX : XD := fun _ _ => False
def lcD (g : TDG) (tt : TDT) (te : TD) (vs : List Nat) : List DL.D → List DL.D → DSt → (List DL.D → DSt → Prop) → Prop
  | [], acc, δ, Q => Q acc δ
  | x :: xs, acc, δ, Q => g x δ fun δ1 => tt δ1 (fun b δ2 => if b = true then te δ2 (fun y δ3 => acc.length < sizeLine ∧ lcD g tt te vs xs (acc ++ [y.toD]) (wipeD δ3 vs) Q) noX else lcD g tt te vs xs acc (wipeD δ2 vs) Q) noX
def compD (ti : TDI) (g : TDG) (tt : TDT) (te : TD) (vs : List Nat) : TD := fun δ Q E => ti δ (fun xs δ1 => lcD g tt te vs xs [] (wipeD δ1 vs) fun acc δ2 => Q (.own (.lst acc)) δ2) E
def yesD : TDT := fun δ Q _ => Q true δ
end
section
variable {K : PySem.W.Frag} {c : Fc} {F F' H H' : Hp} {ow : Addr → Option Hold} {δ : DSt} {tmp : List (V × DV)} {σ : L2.St} {i : Nat} {p : Addr}
theorem SttF.del (S : SttF K c F ow δ tmp σ H) (ni : i ∉ c.sl) : SttF K c F ow (δ.set i none) tmp (σ.set i none) H := by
  refine { S with len := by rw [List.length_set, List.length_set]; exact S.len, sl := fun j z q => ?_, ps := fun k j p q1 q2 => ?_ }
  · by_cases e : i = j
    · subst e
      rcases Nat.lt_or_ge i δ.length with h | h
      · rw [List.getElem?_set_self h] at q; cases q
      · rw [List.getElem?_eq_none (by rw [List.length_set]; exact h)] at q; cases q
    · rw [List.getElem?_set_ne e] at q ⊢
      exact S.sl j z q
  · rw [List.getElem?_set_ne (fun z => ni (by rw [z]; exact List.mem_of_getElem? q1))]
    exact S.ps k j p q1 q2
theorem SttF.wipe (S : SttF K c F ow δ tmp σ H) : ∀ {vs : List Nat}, (∀ i ∈ vs, i ∉ c.sl) → SttF K c F ow (wipeD δ vs) tmp (L2.wipe σ vs) H
  | [], _ => S
  | v :: vs, h => (S.wipe fun i hi => h i (List.mem_cons_of_mem _ hi)).del (h v List.mem_cons_self)
theorem wipeD_get : ∀ {vs : List Nat} {i : Nat} {x : DV}, (wipeD δ vs)[i]? = some (some x) → i ∉ vs
  | [], _, _, _ => fun h => nomatch h
  | v :: vs, i, x, e => fun h => by
    have e : ((wipeD δ vs).set v none)[i]? = some (some x) := e
    by_cases q : v = i
    · subst q
      rcases Nat.lt_or_ge v (wipeD δ vs).length with z | z
      · rw [List.getElem?_set_self z] at e; cases e
      · rw [List.getElem?_eq_none (by rw [List.length_set]; exact z)] at e; cases e
    · rw [List.getElem?_set_ne q] at e
      exact wipeD_get e ((List.mem_cons.mp h).elim (fun z => absurd z.symm q) id)
/-- the slots that are forgotten may be anything -/
theorem SttF.unwipe {vs : List Nat} (S : SttF K c F ow (wipeD δ vs) tmp (L2.wipe σ vs) H) (h : ∀ i ∈ vs, i ∉ c.sl) : SttF K c F ow (wipeD δ vs) tmp σ H := by
  refine { S with len := by rw [← S.len, wipe_length], sl := fun j z q => ?_, ps := fun k j p q1 q2 => ?_ }
  · obtain ⟨v, e, r⟩ := S.sl j z q
    rw [wipe_out (wipeD_get q)] at e
    exact ⟨v, e, r⟩
  · have := S.ps k j p q1 q2
    rwa [wipe_out fun z => h j z (List.mem_of_getElem? q1)] at this
/-- the own object on top of the stack is changed -/
theorem SttF.writeT {o o' : OC} {ob : HO} (S : SttF K c F ow δ ((.ref p, .own o) :: tmp) σ H) (r' : OwnRep K F (upd H p ob) p o') : SttF K c F ow δ ((.ref p, .own o') :: tmp) σ (upd H p ob) := by
  obtain ⟨p', e0, e, b, w, r⟩ := S.tm.1
  cases e0
  have keep : ∀ {h : Hold} {v : V} {x : DV}, RepV K c F H ow h v x → h ≠ .t tmp.length → RepV K c F (upd H p ob) ow h v x := fun {h v x} y ne => by
    cases x with
    | d z => exact y
    | own z =>
      obtain ⟨a, rfl, ea, ba, wa, ra⟩ := y
      exact ⟨a, rfl, ea, ba, wa, ra.mono (Same.refl F) (upd_ne fun t => by subst t; rw [e] at ea; cases ea; exact ne rfl)⟩
  have keepT : ∀ {l : List (V × DV)}, l.length ≤ tmp.length → RepTmp K c F H ow l → RepTmp K c F (upd H p ob) ow l := fun {l} => by
    induction l with
    | nil => exact fun _ _ => True.intro
    | cons a r ih =>
      obtain ⟨v, x⟩ := a
      exact fun hl y => ⟨keep y.1 (fun z => by have := Hold.t.inj z; have : r.length + 1 ≤ tmp.length := hl; omega), ih (Nat.le_of_succ_le hl) y.2⟩
  refine ⟨fun a u z => ?_, S.f0, S.fn, fun a u z n => ?_, fun a z => ?_, S.len, fun j z qz => ?_, ⟨⟨p, rfl, e, b, w, r'⟩, keepT (Nat.le_refl _) S.tm.2⟩, S.ps⟩
  · rw [upd_ne (ne_of_none z b)]
    exact S.fh _ _ z
  · rw [upd_ne (fun t => by subst t; rw [w.t] at z; cases z)]
    exact S.fr a u z n
  · by_cases t : a = p
    · subst t; rw [upd_same] at z; cases z
    · rw [upd_ne t] at z; exact S.up a z
  · obtain ⟨v, e2, r2⟩ := S.sl j z qz
    exact ⟨v, e2, keep r2 fun t => nomatch t⟩
end
section
variable {X : Cx} {c : Fc} {W : WX}
theorem lift_comp {K : PySem.W.Frag} {ti : TDI} {g : TDG} {tt : TDT} {te : TD} {vs : List Nat} (hv : ∀ i ∈ vs, i ∉ c.sl) : ∀ σ H Q, LE K c W (compD ti g tt te vs) σ H Q → tLc (LI K c W ti) (LG K c vs g) (LT K c W0 tt) (LE K c W0 te) vs σ H Q := fun σ H Q ⟨δ, tmp, Qd, Ed, S, q, k, w⟩ => by
  refine ⟨δ, tmp, _, _, S, q, fun J v src items δ1 H1 q1 sv ⟨F1, ow1, S1⟩ => ?_, w⟩
  intro D nD
  have S2 := (S1.wipe hv).pushNew (o := .lst []) nD ⟨[], upd_same, .nil⟩
  refine ⟨fun i m H => m = items.length - i ∧ i ≤ items.length ∧ ∃ δ acc, Stt K c (wipeD δ vs) ((.ref D, .own (.lst acc)) :: (v, .d src) :: tmp) (wipe σ vs) H ∧ lcD g tt te vs (items.drop i) acc (wipeD δ vs) fun acc δ2 => Qd (.own (.lst acc)) δ2,
    ⟨items.length, by simp, Nat.zero_le _, δ1, [], ⟨_, _, S2⟩, q1⟩, ?_⟩
  rintro i m H2 ⟨rfl, hi, δ2, acc, ⟨F2, ow2, S3⟩, q2⟩
  have src2 : Rep K F2 v src := S3.tm.2.1
  by_cases hlt : i < items.length
  · refine .inr ⟨sv.go i F2 H2 S3.fh src2 hlt, fun H => i + 1 ≤ items.length ∧ ∃ δ acc, Stt K c (wipeD δ vs) ((.ref D, .own (.lst acc)) :: (v, .d src) :: tmp) (wipe σ vs) H ∧ lcD g tt te vs (items.drop (i + 1)) acc (wipeD δ vs) fun acc δ2 => Qd (.own (.lst acc)) δ2,
      fun H' h => ⟨items.length - (i + 1), by omega, rfl, h⟩, fun x H' y => ?_⟩
    obtain ⟨F3, e3, r3⟩ := sv.yld i F2 H2 x H' S3.fh src2 y _ (List.getElem?_eq_getElem hlt)
    rw [List.drop_eq_getElem_cons hlt] at q2
    refine ⟨wipeD δ2 vs, (.ref D, .own (.lst acc)) :: (v, .d src) :: tmp, _, _, ⟨F3, ow2, (S3.ext e3).push r3⟩, q2, fun δ4 σ4 H4 q4 S4 hw => ?_⟩
    have hw' : wipe σ4 vs = wipe σ vs := by
      rw [hw]
      have idem : ∀ (l : List Nat), (∀ i ∈ l, i ∈ vs) → wipe (wipe σ l) vs = wipe σ vs := fun l => by
        induction l with
        | nil => exact fun _ => rfl
        | cons a r ih =>
          intro h
          show wipe ((wipe σ r).set a none) vs = _
          rw [wipe_set (h a List.mem_cons_self)]
          exact ih fun i hi => h i (List.mem_cons_of_mem _ hi)
      exact idem vs fun _ h => h
    refine ⟨hw', δ4, _, _, noX, S4, q4, fun b δ5 H5 q5 ⟨F5, ow5, S5⟩ => ?_, fun _ _ _ _ _ _ _ _ z => z.elim⟩
    cases b with
    | false =>
      have S6 := S5.wipe hv
      rw [hw'] at S6
      exact ⟨hlt, δ5, acc, ⟨_, _, S6⟩, q5⟩
    | true =>
      refine ⟨δ5, _, _, noX, ⟨F5, ow5, S5⟩, q5, fun u z δ6 H6 ⟨hz, q6⟩ ⟨F6, ow6, S6⟩ => ?_, fun _ _ _ _ _ _ _ _ z => z.elim⟩
      obtain ⟨F7, S7, s7⟩ := S6.top_frz
      obtain ⟨p', e0, _, _, _, ws, ep, rw'⟩ := S7.tm.2.1
      cases e0
      have S8 := S7.pop.writeT (o' := .lst (acc ++ [z.toD])) (ob := .lst (ws ++ [u])) ⟨_, upd_same, rw'.app (.cons S7.top .nil)⟩
      have S9 := S8.wipe hv
      rw [hw'] at S9
      exact ⟨ws, ep, by rw [rw'.len]; exact hz, hlt, δ6, _, ⟨_, _, S9⟩, q6⟩
  · have e : i = items.length := by omega
    subst e
    rw [List.drop_length] at q2
    refine .inl ⟨sv.stop _ F2 H2 S3.fh src2 (Nat.le_refl _), k _ _ _ _ q2 ?_⟩
    have S4 := S3.unwipe hv
    -- the list is moved down on the stack
    obtain ⟨p', e0, e, b, n, r⟩ := S4.tm.1
    cases e0
    have S5 := S4.pop.pop.reown (ow' := owSet ow2 D (.t tmp.length)) (fun k a z _ => owSet_ne fun y => by subst y; rw [e] at z; cases z) (fun k a hk z _ => owSet_ne fun y => by
      subst y; rw [e] at z; cases z
      have : tmp.length + 1 < tmp.length := hk
      omega)
    exact ⟨F2, _, { S5 with tm := ⟨⟨D, rfl, owSet_at, b, .inl n.t, r⟩, S5.tm⟩ }⟩
theorem PTs_imp {e : List Expr} {t t' : TT} (h : PTs X e t) (f : ∀ σ H Q, t' σ H Q → t σ H Q) : PTs X e t' := ⟨fun pins s σ H Q I q => h.run pins s σ H Q I (f _ _ _ q)⟩
theorem ptsd_nil : PTs X [] (LT X.K c W yesD) := PTs_imp pts_nil fun σ H Q ⟨δ, tmp, Qd, Ed, S, q, k, w⟩ => k _ _ _ q S
theorem ptsd_one {e : Expr} {t : TDT} (h : PT X e (LT X.K c W t)) : PTs X [e] (LT X.K c W t) := pts_one h
theorem pd_lc {elt tg iter : Expr} {ifs : List Expr} {scope : Scope} {own : List (Str × Nat)} {pos : Pos} {ti : TDI} {g : TDG} {tt : TDT} {te : TD} (hc : X.calm = true) (hN : X.N.Nodup) (hi : PI X tg iter (LI X.K c W ti)) (ok : BlkOk X.N X.env.scope scope own)
    (hg : ∀ (s : Shared) (H : Hp) (C : Addr) (cl : List (Str × Addr)) (fp : List Addr), PG (X.blk s H scope (compEnvC scope cl C X.env) fp) tg (LG X.K c (own.map (·.2)) g)) (ht : ∀ (s : Shared) (H : Hp) (C : Addr) (cl : List (Str × Addr)) (fp : List Addr), PTs (X.blk s H scope (compEnvC scope cl C X.env) fp) ifs (LT X.K c W0 tt))
    (he : ∀ (s : Shared) (H : Hp) (C : Addr) (cl : List (Str × Addr)) (fp : List Addr), PE (X.blk s H scope (compEnvC scope cl C X.env) fp) elt (LE X.K c W0 te)) (hv : ∀ i ∈ own.map (·.2), i ∉ c.sl) (hs : ∀ x, foldedSetIterable iter X.env x = pure x := by intro _; rfl) :
    PE X (.ListComp elt [⟨tg, iter, ifs, 0⟩] scope pos) (LE X.K c W (compD ti g tt te (own.map (·.2)))) := PE_imp (pe_lc hc hN hi ok hg ht he hs) (lift_comp hv)
/-- x = [..] on one line: the list is x's own, or frozen -/
def setLcD (i : Nat) (o : Bool) (t : TD) : TDS := fun D δ => t δ (fun x δ1 => D.nx (δ1.set i (some (asD o x)))) D.ex
theorem psd_setLc {i : Nat} {o : Bool} {y : Str} {py : Pos} {elt tg iter : Expr} {ifs : List Expr} {scope : Scope} {own : List (Str × Nat)} {pos spos : Pos} {ti : TDI} {g : TDG} {tt : TDT} {te : TD} (ni : i ∉ c.sl) (hc : X.calm = true) (hN : X.N.Nodup) (hy : X.N[i]? = some y) (hyl : X.env.scope.names.lookup y = some .local)
    (hsw : swapsWith (.ListComp elt [⟨tg, iter, ifs, 0⟩] scope pos) (some (.Name y py)) spos.line X.env = pure true) (hi : PI X tg iter (LI X.K c W ti)) (ok : BlkOk X.N X.env.scope scope own)
    (hg : ∀ (s : Shared) (H : Hp) (C : Addr) (cl : List (Str × Addr)) (fp : List Addr), PG (X.blk s H scope (compEnvC scope cl C X.env) fp) tg (LG X.K c (own.map (·.2)) g)) (ht : ∀ (s : Shared) (H : Hp) (C : Addr) (cl : List (Str × Addr)) (fp : List Addr), PTs (X.blk s H scope (compEnvC scope cl C X.env) fp) ifs (LT X.K c W0 tt))
    (he : ∀ (s : Shared) (H : Hp) (C : Addr) (cl : List (Str × Addr)) (fp : List Addr), PE (X.blk s H scope (compEnvC scope cl C X.env) fp) elt (LE X.K c W0 te)) (hv : ∀ i ∈ own.map (·.2), i ∉ c.sl) (hs : ∀ x, foldedSetIterable iter X.env x = pure x := by intro _; rfl) :
    PS X (.Assign [.Name y py] (.ListComp elt [⟨tg, iter, ifs, 0⟩] scope pos) spos) (LS X.K c W (setLcD i o (compD ti g tt te (own.map (·.2))))) :=
  PS_imp (ps_setLc (i := i) hc hN hy hyl hsw hi ok hg ht he hs) fun D σ H ⟨δ, tmp, Dd, S, q, k, kr, kb, kc, w⟩ => by
    show tLc _ _ _ _ _ σ H fun x H1 => gName i x σ H1 D.nx
    refine lift_comp hv _ _ _ ⟨δ, tmp, _, _, S, q, fun v x δ' H' q' ⟨F, ow, S'⟩ => ?_, w⟩
    obtain ⟨F', S2⟩ := S'.top_as o
    exact k _ _ _ q' (S2.set' ni)
end
end DL

set_option Elab.async false
set_option linter.all false
set_option maxRecDepth 100000
namespace DL
open PySem PySem.Spec PyProof.Rows L2
/-! ### a def's body keeps its promise -/
/-- the slots of the arguments that may change -/
def ownIx : List DV → Nat → List Nat
  | [], _ => []
  | .d _ :: r, k => ownIx r (k + 1)
  | .own _ :: r, k => k :: ownIx r (k + 1)
def startD (n : Nat) (as : List DV) : DSt := as.map some ++ List.replicate (n - as.length) none
def takeB (δ : DSt) : List Nat → List OC → Prop
  | [], os => os = []
  | i :: is, os => ∃ o r, os = o :: r ∧ δ[i]? = some (some (.own o)) ∧ takeB δ is r
def owOf : List DV → List V → Nat → Addr → Option Hold
  | .own _ :: as, .ref p :: vs, k => fun a => if a = p then some (.s k) else owOf as vs (k + 1) a
  | _ :: as, _ :: vs, k => owOf as vs (k + 1)
  | _, _, _ => fun _ => none
section
variable {K : PySem.W.Frag} {c : Fc} {F H : Hp}
theorem ArgsRep.len : ∀ {vs : List V} {as : List DV} {ps : List Addr}, ArgsRep K F H vs as ps → vs.length = as.length
  | _, _, _, .nil => rfl
  | _, _, _, .d _ t => congrArg (· + 1) t.len
  | _, _, _, .own _ _ _ t => congrArg (· + 1) t.len
theorem ArgsRep.plen : ∀ {vs : List V} {as : List DV} {ps : List Addr} {k : Nat}, ArgsRep K F H vs as ps → ps.length = (ownIx as k).length
  | _, _, _, _, .nil => rfl
  | _, _, _, k, .d _ t => t.plen (k := k + 1)
  | _, _, _, k, .own _ _ _ t => congrArg (· + 1) (t.plen (k := k + 1))
theorem owOf_in : ∀ {vs : List V} {as : List DV} {ps : List Addr} {k : Nat} {a : Addr} {h : Hold}, ArgsRep K F H vs as ps → owOf as vs k a = some h → a ∈ ps
  | _, _, _, _, _, _, .nil, e => nomatch e
  | _, _, _, k, a, h, .d _ t, e => owOf_in (k := k + 1) t e
  | _, _, _, k, a, h, .own (p := p) _ _ _ t, e => by
    have e : (if a = p then some (Hold.s k) else owOf _ _ (k + 1) a) = some h := e
    by_cases q : a = p
    · subst q; exact List.mem_cons_self
    · rw [if_neg q] at e; exact List.mem_cons_of_mem _ (owOf_in t e)
theorem ArgsRep.at' : ∀ {vs : List V} {as : List DV} {ps : List Addr} {k j : Nat} {x : DV}, ArgsRep K F H vs as ps → (∀ p ∈ ps, p ∈ c.ad) → (∀ i ∈ ownIx as k, i ∈ c.sl) → as[j]? = some x → ∃ v, vs[j]? = some v ∧ RepV K c F H (owOf as vs k) (.s (k + j)) v x
  | _, _, _, _, 0, _, .d h _, _, _, e => by cases e; exact ⟨_, rfl, h⟩
  | _, _, _, k, 0, _, .own n h _ _, hp, hs, e => by
    cases e
    exact ⟨_, rfl, _, rfl, if_pos rfl, n, .inr ⟨hp _ List.mem_cons_self, k, rfl, hs k List.mem_cons_self⟩, h⟩
  | _, _, _, k, j + 1, x, .d _ t, hp, hs, e => by
    obtain ⟨v, e1, r⟩ := t.at' (k := k + 1) (j := j) hp hs e
    refine ⟨v, e1, ?_⟩
    rw [show k + (j + 1) = k + 1 + j by omega]
    exact r
  | _, _, _, k, j + 1, x, .own (p := p) n h np t, hp, hs, e => by
    obtain ⟨v, e1, r⟩ := t.at' (k := k + 1) (j := j) (fun p hq => hp p (List.mem_cons_of_mem _ hq)) (fun i hi => hs i (List.mem_cons_of_mem _ hi)) e
    refine ⟨v, e1, ?_⟩
    rw [show k + (j + 1) = k + 1 + j by omega]
    refine r.reown fun q _ eq _ => ?_
    have : q ≠ p := fun z => np (by rw [← z]; exact owOf_in t eq)
    exact if_neg this
theorem ArgsRep.ix : ∀ {vs : List V} {as : List DV} {ps : List Addr} {k m i : Nat} {p : Addr}, ArgsRep K F H vs as ps → (ownIx as k)[m]? = some i → ps[m]? = some p → k ≤ i ∧ vs[i - k]? = some (.ref p)
  | _, _, _, k, m, i, p, .nil, e, _ => by simp [ownIx] at e
  | _, _, _, k, m, i, p, .d _ t, e, e' => by
    obtain ⟨h1, h2⟩ := t.ix (k := k + 1) e e'
    refine ⟨by omega, ?_⟩
    rw [show i - k = (i - (k + 1)) + 1 by omega]
    exact h2
  | _, _, _, k, 0, i, p, .own _ _ _ _, e, e' => by
    cases e; cases e'
    rw [Nat.sub_self]
    exact ⟨Nat.le_refl _, rfl⟩
  | _, _, _, k, m + 1, i, p, .own _ _ _ t, e, e' => by
    obtain ⟨h1, h2⟩ := t.ix (k := k + 1) (m := m) e e'
    refine ⟨by omega, ?_⟩
    rw [show i - k = (i - (k + 1)) + 1 by omega]
    exact h2
/-- at the entry -/
theorem entry {N : List Str} {vs : List V} {as : List DV} {ps : List Addr} (s : Same F H) (A : ArgsRep K F H vs as ps) : SttF K ⟨ownIx as 0, ps, F, H⟩ F (owOf as vs 0) (startD N.length as) [] (L2.start N vs) H := by
  have hl := A.len
  refine ⟨s, Same.refl F, fun a h => .inl h, fun a o e _ => e, fun a e => e, ?_, fun i x e => ?_, True.intro, fun m i p e1 e2 => ?_⟩
  · unfold L2.start startD
    rw [List.length_append, List.length_append, List.length_map, List.length_map, List.length_replicate, List.length_replicate, hl]
  · unfold startD at e
    rcases Nat.lt_or_ge i as.length with h | h
    · rw [List.getElem?_append_left (by rw [List.length_map]; exact h), List.getElem?_map, List.getElem?_eq_getElem h] at e
      have e := Option.some.inj (Option.some.inj e)
      obtain ⟨v, e1, r⟩ := A.at' (c := ⟨ownIx as 0, ps, F, H⟩) (k := 0) (j := i) (fun _ h => h) (fun _ h => h) (by rw [List.getElem?_eq_getElem h, e])
      refine ⟨v, ?_, by rw [Nat.zero_add] at r; exact r⟩
      unfold L2.start
      rw [List.getElem?_append_left (by rw [List.length_map, hl]; exact h), List.getElem?_map, e1]
      rfl
    · rw [List.getElem?_append_right (by rw [List.length_map]; exact h)] at e
      cases q : (List.replicate (N.length - as.length) (none : Option DV))[i - (as.map some).length]? with
      | none => rw [q] at e; cases e
      | some z =>
        rw [q] at e
        have := List.mem_of_getElem? q
        rw [(List.mem_replicate.mp this).2] at e
        cases e
  · obtain ⟨_, h⟩ := A.ix (k := 0) e1 e2
    have h : vs[i]? = some (.ref p) := h
    unfold L2.start
    rw [List.getElem?_append_left (by rw [List.length_map]; exact set_lt h), List.getElem?_map, h]
    rfl
theorem takeB_reps {F' H' : Hp} {ow : Addr → Option Hold} {δ : DSt} {tmp : List (V × DV)} {σ : L2.St} (S : SttF K c F' ow δ tmp σ H') : ∀ {is : List Nat} {ps : List Addr} {os : List OC}, ps.length = is.length → (∀ (k i : Nat) (p : Addr), is[k]? = some i → ps[k]? = some p → σ[i]? = some (some (.ref p))) → takeB δ is os → OwnsRep K F' H' ps os
  | [], [], _, _, _, e => by cases e; exact .nil
  | i :: is, p :: ps, _, hl, hs, ⟨o, r, e, ei, t⟩ => by
    subst e
    obtain ⟨v, e1, p', rfl, _, n, _, q⟩ := S.sl _ _ ei
    have e2 := hs 0 i p rfl rfl
    rw [e1] at e2
    cases e2
    exact .cons n q (takeB_reps S (Nat.succ.inj hl) (fun k i p a b => hs (k + 1) i p a b) t)
  | [], _ :: _, _, h, _, _ => nomatch h
  | _ :: _, [], _, h, _, _ => nomatch h
end
/-- what a def's end must bring -/
def endsD (sl : List Nat) (Qd : DV → List OC → Prop) (Ed : Ex → List OC → Prop) : EndsD where
  nx := fun δ => ∃ os, takeB δ sl os ∧ Qd (.d .non) os
  rt := fun x δ => ∃ os, takeB δ sl os ∧ Qd x os
  ex := fun x δ => ∃ os, takeB δ sl os ∧ Ed x os
section
variable {P : Program} {w : World} {K : PySem.W.Frag} {mg : Str → Option Value} {base : Heap}
theorem okD {x qual : Str} {st : Stmt} {f : Addr} {fd : FuncData} {N ps : List Str} {k : Nat} {sd : SpD} (G : Fun K x qual st f fd) (S : FnScope N ps (defScope st)) (sl : List Nat) (len : ∀ as Q E, sd as Q E → as.length = ps.length ∧ ownIx as 0 = sl)
    (hbody : ∃ t : TDS, (∀ (cdv : Value) (A : Around) (outer : List Env) (s : Shared) (H : Hp) (E : XK) (ad : List Addr) (F0 H0 : Hp), Room k (A.deeper (envOfC qual (defScope st) s.heap.objs.size f cdv)) →
        PSs (cxOf (L2.CX P w) P w K mg base N qual (defScope st) f cdv A outer s H E) (defBody st) (LS K ⟨sl, ad, F0, H0⟩ (fun cls d _ H => E cls d H) t)) ∧
      ∀ as Qd Ed, sd as Qd Ed → t (endsD sl Qd Ed) (startD N.length as)) :
    FnOk P w K mg base (L2.CX P w) (k + 1) f fd ps (spOf K sd) := by
  obtain ⟨t, ht, hq⟩ := hbody
  refine G.okX S (fun vs H Q E ⟨F, as, qs, Qd, Ed, _, A, h, _⟩ => by rw [A.len]; exact (len _ _ _ h).1) fun cdv A outer s H vs Q E hr ⟨F, as, qs, Qd, Ed, sm, ar, h, kq, ke⟩ => ?_
  have hsl := (len _ _ _ h).2
  have S0 := entry (N := N) sm ar
  rw [hsl] at S0
  have hpl : qs.length = sl.length := by rw [← hsl]; exact ar.plen
  have post : ∀ {δ' : DSt} {tmp : List (V × DV)} {σ' : L2.St} {F' H' : Hp} {ow' : Addr → Option Hold} {os : List OC}, SttF K ⟨sl, qs, F, H⟩ F' ow' δ' tmp σ' H' → takeB δ' sl os → Post K F H qs os F' H' := fun {δ' tmp σ' F' H' ow' os} S' tb =>
    ⟨S'.f0, S'.fh, S'.fr, S'.up, S'.fn, takeB_reps S' hpl S'.ps tb⟩
  refine ⟨_, ht cdv A outer s H E qs F H hr, startD N.length as, [], endsD sl Qd Ed, ⟨F, _, S0⟩, hq as Qd Ed h, fun δ' σ' H' ⟨os, tb, q⟩ ⟨F', ow', S'⟩ => ?_, fun v x δ' σ' H' ⟨os, tb, q⟩ ⟨F', ow', S'⟩ => ?_, fun _ _ _ z => z.elim, fun _ _ _ z => z.elim, fun x δ' σ' H' F' ow' cls d ⟨os, tb, q⟩ S' er => ?_⟩
  · exact kq .non (.d .non) os F' H' q (post S' tb) .non
  · refine kq v x os F' H' q (post S' tb) ?_
    cases x with
    | d y => exact S'.top
    | own o =>
      obtain ⟨p, rfl, e, b, n, r⟩ := S'.tm.1
      exact ⟨p, rfl, n.t, b, r⟩
  · exact ke cls d x os F' H' q (post S' tb) er
end
/-! ### own lists that change -/
section
variable {X : Cx} {c : Fc} {W : WX}
/-- xs[i] = e, xs the own list in slot j -/
def setItem (j : Nat) (ti te : TD) : TDS := fun D δ => ∃ o, δ[j]? = some (some (.own o)) ∧ te δ (fun y δ1 => ti δ1 (fun k δ2 => ∃ xs n m, δ2[j]? = some (some (.own (.lst xs))) ∧ k.toD = .int n ∧ ixN xs.length n = some m ∧ D.nx (δ2.set j (some (.own (.lst (xs.set m y.toD)))))) D.ex) D.ex
theorem psd_setItem {j : Nat} {x : Str} {e ei : Expr} {te ti : TD} {pos p2 p3 : Pos} (h : ∀ {te : TE} {g : TG}, PE X e te → PG X (.Subscript (.Name x p3) ei p2) g → PS X (.Assign [.Subscript (.Name x p3) ei p2] e pos) (tAsg te g))
    (hg : ∀ {to ti : TE} {t : TSet}, PE X (.Name x p3) to → PE X ei ti → PSet X t → PG X (.Subscript (.Name x p3) ei p2) (gSub to ti t)) (hv : PE X (.Name x p3) (tVar j)) (he : PE X e (LE X.K c W te)) (hi : PE X ei (LE X.K c W ti)) :
    PS X (.Assign [.Subscript (.Name x p3) ei p2] e pos) (LS X.K c W (setItem j ti te)) :=
  PS_imp (h he (hg hv hi set_list)) fun D σ H ⟨δ, tmp, Dd, ⟨F, ow, S⟩, ⟨o, eo, q⟩, k, kr, kb, kc, w⟩ => by
    obtain ⟨v, e1, p, rfl, _⟩ := S.sl _ _ eo
    refine ⟨δ, tmp, _, _, ⟨F, ow, S⟩, q, fun y d δ1 H1 q1 ⟨F1, ow1, S1⟩ => ?_, w⟩
    obtain ⟨F2, S2, _⟩ := S1.top_frz
    refine ⟨_, e1, δ1, _, _, _, ⟨F2, ow1, S2⟩, q1, fun u z δ2 H2 ⟨xs, n, m, ej, ek, em, q2⟩ ⟨F3, ow3, S3⟩ => ?_, w.push⟩
    obtain ⟨F4, S4, _⟩ := S3.top_frz
    rw [ek] at S4
    cases S4.top
    obtain ⟨v', e2, p', rfl, _, _, _, vs, ep, r⟩ := S4.sl _ _ ej
    rw [e1] at e2
    cases e2
    refine ⟨p, vs, n, m, rfl, rfl, ep, by rw [r.len]; exact em, k _ _ _ q2 ⟨F4, ow3, ?_⟩⟩
    exact (S4.pop.write (o' := .lst (xs.set m d.toD)) ej e1 ⟨_, upd_same, r.set S4.pop.top m⟩).pop
/-- a method of the own list in slot j: it changes, a value comes back -/
abbrev RDM := List D → List D → (D → List D → Prop) → Prop
def MtO (K : PySem.W.Frag) (r : V → List V → Hp → VK → Prop) (rd : RDM) : Prop := ∀ (p : Addr) (vs us : List V) (xs ds : List D) (F H : Hp) (Q : VK) (Qd : D → List D → Prop), Same F H → H p = some (.lst vs) → RepL K F vs xs → RepL K F us ds → rd xs ds Qd →
  (∀ v z ws zs, Qd z zs → Rep K F v z → RepL K F ws zs → Q v (upd H p (.lst ws))) → r (.ref p) us H Q
def methO (j : Nat) (rd : RDM) (ta : TDA) : TD := fun δ Q E => ∃ x0, δ[j]? = some (some (.own (.lst x0))) ∧ ta δ (fun as δ1 => ∃ ds xs, as = ds.map .d ∧ δ1[j]? = some (some (.own (.lst xs))) ∧ rd xs ds fun z zs => Q (.d z) (δ1.set j (some (.own (.lst zs))))) E
theorem pd_methO {j : Nat} {x m : Str} {es : List Expr} {ta : TDA} {r : V → List V → Hp → VK → Prop} {rd : RDM} {pos p2 p3 : Pos} (h : ∀ {to : TE} {t : TA}, PE X (.Name x p3) to → PA X es t → PE X (.Call (.Attribute (.Name x p3) m p2) es [] pos) (tBM X.K "list" r to t)) (hr : MtO X.K r rd)
    (hv : PE X (.Name x p3) (tVar j)) (ha : PA X es (LA X.K c W ta)) : PE X (.Call (.Attribute (.Name x p3) m p2) es [] pos) (LE X.K c W (methO j rd ta)) :=
  PE_imp (h hv ha) fun σ H Q ⟨δ, tmp, Qd, Ed, ⟨F, ow, S⟩, ⟨o, eo, q⟩, k, w⟩ => by
    obtain ⟨v, e1, p, rfl, _, _, _, vs0, ep0, _⟩ := S.sl _ _ eo
    refine ⟨_, e1, .inl ⟨rfl, vs0, SqL.of ep0⟩, δ, tmp, _, Ed, ⟨F, ow, S⟩, q, fun us as δ1 F1 ow1 H1 ⟨ds, xs, ea, ej, q1⟩ S1 ra => ?_, w⟩
    subst ea
    obtain ⟨v', e2, p', rfl, _, n, _, vs, ep, rr⟩ := S1.sl _ _ ej
    rw [e1] at e2
    cases e2
    exact hr p vs us xs ds F1 H1 Q _ S1.fh ep rr (args_d ra) q1 fun v z ws zs qz rz rws => k _ _ _ _ qz ⟨F1, ow1, (S1.write (o' := .lst zs) ej e1 ⟨_, upd_same, rws⟩).push rz⟩
end
section
variable {K : PySem.W.Frag}
abbrev appM : RDM := fun xs ds Q => ∃ d, ds = [d] ∧ xs.length < sizeLine ∧ Q .non (xs ++ [d])
theorem mo_append : MtO K rAppend appM := fun p vs us xs ds F H Q Qd s ep r ra ⟨d, e, hz, q⟩ k => by
  subst e
  cases ra with
  | cons ra t => cases t; exact ⟨p, vs, _, rfl, rfl, ep, by rw [r.len]; exact hz, k _ _ _ _ q .non (r.app (.cons ra .nil))⟩
abbrev popM : RDM := fun xs ds Q => ∃ i k d, ds = [.int i] ∧ -(2 ^ 63) ≤ i ∧ i < 2 ^ 63 ∧ seqIndex? i xs.length = some k ∧ xs[k]? = some d ∧ Q d (xs.eraseIdx k)
theorem mo_pop : MtO K rPopAt popM := fun p vs us xs ds F H Q Qd s ep r ra ⟨i, j, d, e, h1, h2, hk, hd, q⟩ k => by
  subst e
  cases ra with
  | cons ra t =>
    cases t; cases ra
    obtain ⟨v, ev, rv⟩ := r.get hd
    exact ⟨p, vs, i, j, v, rfl, rfl, ep, h1, h2, by rw [r.len]; exact hk, ev, k _ _ _ _ q rv (r.erase j)⟩
end
/-! ### what is raised -/
section
variable {X : Cx} {c : Fc} {W : WX}
theorem repF_zip {K : PySem.W.Frag} {F : Hp} : ∀ {ns : List Str} {vs : List V} {ds : List D}, RepL K F vs ds → RepF K F (ns.zip vs) (ns.zip ds)
  | [], _, _, .nil => .nil
  | [], _, _, .cons _ _ => .nil
  | n :: ns, _, _, .nil => .nil
  | n :: ns, _, _, .cons h t => .cons h (repF_zip t)
/-- an own exception without an __init__ of its own -/
def raise0D (B : Addr) : TDS := fun D δ => D.ex ⟨B, none⟩ δ
theorem psd_raise0 {e : Expr} {B : Addr} {pos2 : Pos} (hc : X.calm = true) (tk : Takes X W) (hk : PMk X e (fun _ H Q => Q (.ref B) none H)) : PS X (.Raise (some e) none pos2) (LS X.K c W (raise0D B)) :=
  PS_imp (ps_raise hc tk hk) fun D σ H ⟨δ, tmp, Dd, ⟨F, ow, S⟩, q, k, kr, kb, kc, w⟩ => w _ _ _ _ F ow _ _ q S ⟨rfl, rfl⟩
/-! ### try -/
end
end DL

set_option Elab.async false
set_option linter.all false
set_option maxRecDepth 100000
namespace DL
open PySem PySem.Spec PyProof.Rows L2
section
variable {X : Cx} {c : Fc} {W : WX}
/-! ### comparisons as tests -/
theorem ptd_cmp {a b : Expr} {op : CmpOp} {r : R2} {rd : RD2} {ta tb : TD} {pos : Pos} (ho : OpR X (compareOp op) r) (hd : Op2 X.K r rd) (ha : PE X a (LE X.K c W ta)) (hb : PE X b (LE X.K c W tb)) (hm : behindInMarks op b = false) : PT X (.Compare a [op] [b] pos) (LT X.K c W (tvD (opD rd ta tb))) :=
  PT_imp (pt_cmpR ho ha hb hm) fun σ H Q ⟨δ, tmp, Qd, Ed, S, q, k, w⟩ => lift_op hd σ H _ ⟨δ, tmp, _, Ed, S, q, fun v x δ' H' ⟨b, e, q'⟩ ⟨F, ow, S'⟩ => by
    subst e
    cases S'.top
    exact ⟨b, rfl, k _ _ _ q' ⟨F, ow, S'.pop⟩⟩, w⟩
theorem lift_chain {K : PySem.W.Frag} {r r' : R2} {rd rd' : RD2} {ta tb tc : TD} (hd : Op2 K r rd) (hd' : Op2 K r' rd') : ∀ σ H Q, LE K c W (chainD rd rd' ta tb tc) σ H Q → tChain r r' (LE K c W ta) (LE K c W tb) (LE K c W tc) σ H Q := fun σ H Q ⟨δ, tmp, Qd, Ed, S, t, k, w⟩ => by
  refine ⟨δ, tmp, _, Ed, S, t, fun x a δ1 H1 t1 S1 => ?_, w⟩
  refine ⟨δ1, _, _, Ed, S1, t1, fun y b δ2 H2 t2 ⟨F, ow, S2⟩ => ?_, w.push⟩
  obtain ⟨F', S3, _⟩ := S2.top_frz2
  refine hd x y _ _ F' H2 _ _ S3.fh S3.pop.top S3.top t2 fun v dv F2 H3 ⟨kk, e, q⟩ m => ?_
  subst e
  cases m with
  | d e r =>
    cases r
    refine ⟨kk, rfl, ?_⟩
    have S4 := S3.ext e
    cases kk with
    | false => exact k _ _ _ _ q ⟨F2, ow, S4.pop.pop.push (.bl _)⟩
    | true =>
      have S5 : SttF K c F2 ow δ2 ((y, .d b.toD) :: tmp) σ H3 := S4.pop.pop.push S4.top
      refine ⟨δ2, _, _, Ed, ⟨F2, ow, S5⟩, q, fun u z δ3 H4 q2 ⟨F5, ow5, S6⟩ => ?_, w.push⟩
      obtain ⟨F7, S7, s7⟩ := S6.top_frz
      exact hd' y u _ _ F7 H4 Q _ S7.fh S7.pop.top S7.top q2 fun v dv F8 H5 q3 m => k _ _ _ _ q3 (m.stt S7.pop.pop)
theorem ptd_chain {a b e : Expr} {op op' : CmpOp} {r r' : R2} {rd rd' : RD2} {ta tb tc : TD} {pos : Pos} (ho : OpR X (compareOp op) r) (hd : Op2 X.K r rd) (ho' : OpR X (compareOp op') r') (hd' : Op2 X.K r' rd') (ha : PE X a (LE X.K c W ta)) (hb : PE X b (LE X.K c W tb)) (hc : PE X e (LE X.K c W tc)) (hm : lastMarks [op, op'] [b, e] = false) :
    PT X (.Compare a [op, op'] [b, e] pos) (LT X.K c W (tvD (chainD rd rd' ta tb tc))) :=
  PT_imp (pt_chain ho ho' ha hb hc (hm := hm)) fun σ H Q ⟨δ, tmp, Qd, Ed, S, q, k, w⟩ => lift_chain hd hd' σ H _ ⟨δ, tmp, _, Ed, S, q, fun v x δ' H' ⟨b, e, q'⟩ ⟨F, ow, S'⟩ => by
    subst e
    cases S'.top
    exact ⟨b, rfl, k _ _ _ q' ⟨F, ow, S'.pop⟩⟩, w⟩
/-! ### a, b = e -/
def unpackD (t : TD) (g : TDG) : TDS := fun D δ => t δ (fun x δ1 => g x.toD δ1 D.nx) D.ex
theorem psd_unpack {tg e : Expr} {t : TD} {g : TDG} {vs : List Nat} {pos : Pos} (he : PE X e (LE X.K c W t)) (hg : PG X tg (LG X.K c vs g)) (h : ∀ {te : TE} {g : TG}, PE X e te → PG X tg g → PS X (.Assign [tg] e pos) (tAsg te g)) : PS X (.Assign [tg] e pos) (LS X.K c W (unpackD t g)) :=
  PS_imp (h he hg) fun D σ H ⟨δ, tmp, Dd, S, q, k, kr, kb, kc, w⟩ => ⟨δ, tmp, _, _, S, q, fun v x δ' H' q' ⟨F, ow, S'⟩ => by
    obtain ⟨F2, S2, _⟩ := S'.top_frz
    exact ⟨δ', tmp, _, _, ⟨F2, ow, S2⟩, q', fun δ3 σ3 H3 q3 S3 _ => k _ _ _ q3 S3⟩, w⟩
/-! ### lists and tuples, whichever it is -/
/-! ### enumerate, zip: pairs -/
def enumL (xs : List D) : List D := xs.zipIdx.map fun p => .tup [.int (p.2 : Nat), p.1]
def zipL (xs ys : List D) : List D := (xs.zip ys).map fun p => .tup [p.1, p.2]
theorem serve_enum {K : PySem.W.Frag} {p : Addr} {src : D} {items : List D} (e : src = .lst items ∨ src = .ro items) : Serve K (Ite K p) (.ref p) src (enumL items) := by
  have sq : ∀ {F H : Hp}, Same F H → Rep K F (.ref p) src → ∃ vs, SqL K H p vs ∧ RepL K F vs items := fun {F H} s r => by
    rcases e with rfl | rfl
    · cases r with | lst s1 r1 => exact ⟨_, s.seq (SqL.of s1), r1⟩
    · cases r with | ro s1 r1 => exact ⟨_, s.seq s1, r1⟩
  have hl : (enumL items).length = items.length := by simp [enumL]
  refine ⟨fun i F H s r hi => ?_, fun i F H s r hi => ?_, fun i F H x H' s r y d hd => ?_⟩
  · obtain ⟨vs, h, rl⟩ := sq s r
    rw [hl] at hi
    obtain ⟨v, e, _⟩ := rl.get (List.getElem?_eq_getElem hi)
    exact ⟨vs, v, h, e⟩
  · obtain ⟨vs, h, rl⟩ := sq s r
    exact ⟨vs, h, by rw [rl.len, ← hl]; exact hi⟩
  · obtain ⟨vs, h, rl⟩ := sq s r
    obtain ⟨T, z, rfl, nT, rfl, y⟩ := y
    have hi : i < items.length := by rw [← hl]; exact set_lt hd
    obtain ⟨v, e, rv⟩ := rl.get (List.getElem?_eq_getElem hi)
    rw [y vs h] at e
    cases e
    have : d = .tup [.int (i : Nat), items[i]] := by
      unfold enumL at hd
      rw [List.getElem?_map, List.getElem?_zipIdx, List.getElem?_eq_getElem hi] at hd
      simpa using hd.symm
    subst this
    exact ⟨_, Ext.new s nT, .tup upd_same (.cons (.int _) (.cons (rv.mono (same_upd (Same.refl F) (s.free nT))) .nil))⟩
def enumI (ta : TDA) : TDI := fun δ Q E => ta δ (fun as δ1 => ∃ x xs, as = [.d x] ∧ (x = .lst xs ∨ x = .ro xs) ∧ Q (enumL xs) δ1) E
theorem pid_enum {e : Expr} {ta : TDA} {p pos tpos : Pos} {elts : List Expr} {kk : Nat} (hg : Gl X "enumerate") (hm : X.mg "enumerate" = none) (ha : PA X [e] (LA X.K c W ta)) (hs : starEach [e] X.env = [(false, eval e X.env)] := by rfl) : PI X (.Tuple elts kk tpos) (.Call (.Name "enumerate" p) [e] [] pos) (LI X.K c W (enumI ta)) :=
  PI_imp (pi_enum hg hm ha hs) fun σ H R ⟨δ, tmp, Qd, Ed, S, q, k, w⟩ => ⟨δ, tmp, _, _, S, q, fun vs as δ' F ow H' ⟨x, xs, e, hx, q'⟩ S' ra => by
    subst e
    cases ra with
    | d h t =>
      cases t
      have h0 := h
      rcases hx with rfl | rfl
      · cases h with | lst s1 r1 => exact ⟨_, _, rfl, S'.fh.seq (SqL.of s1), k _ _ _ _ _ _ q' (serve_enum (.inl rfl)) ⟨F, ow, S'.push h0⟩⟩
      · cases h with | ro s1 r1 => exact ⟨_, _, rfl, S'.fh.seq s1, k _ _ _ _ _ _ q' (serve_enum (.inr rfl)) ⟨F, ow, S'.push h0⟩⟩, w⟩
/-! ### slices -/
abbrev TDO := DSt → (Option Int → DSt → Prop) → XD → Prop
def LO (K : PySem.W.Frag) (c : Fc) (W : WX) (t : TDO) : TO := fun σ H Q => ∃ δ tmp Qd Ed, Stt K c δ tmp σ H ∧ t δ Qd Ed ∧ (∀ i δ' H', Qd i δ' → Stt K c δ' tmp σ H' → Q i H') ∧ WD K c W tmp Ed
theorem PO_imp {e : Option Expr} {t t' : TO} (h : PO X e t) (f : ∀ σ H Q, t' σ H Q → t σ H Q) : PO X e t' := ⟨fun pins s σ H Q I q => h.run pins s σ H Q I (f _ _ _ q)⟩
def noneO : TDO := fun δ Q _ => Q none δ
def someO (t : TD) : TDO := fun δ Q E => t δ (fun x δ1 => ∃ i, x.toD = .int i ∧ Q (some i) δ1) E
theorem pod_none : PO X none (LO X.K c W noneO) := PO_imp po_none fun σ H Q ⟨δ, tmp, Qd, Ed, S, q, k, w⟩ => k _ _ _ q S
theorem pod_some {e : Expr} {t : TD} (he : PE X e (LE X.K c W t)) : PO X (some e) (LO X.K c W (someO t)) := PO_imp (po_some he) fun σ H Q ⟨δ, tmp, Qd, Ed, S, q, k, w⟩ =>
  ⟨δ, tmp, _, Ed, S, q, fun v x δ' H' ⟨i, e, q'⟩ ⟨F, ow, S'⟩ => by
    obtain ⟨F2, S2, _⟩ := S'.top_frz
    rw [e] at S2
    cases S2.top
    exact ⟨i, rfl, k _ _ _ q' ⟨F2, ow, S2.pop⟩⟩, w⟩
abbrev RDS := D → Option Int → Option Int → (DV → Prop) → Prop
def SlD (K : PySem.W.Frag) (r : V → Option Int → Option Int → Hp → VK → Prop) (rd : RDS) : Prop := ∀ x a lo hi F H Q Qd, Same F H → Rep K F x a → rd a lo hi Qd → (∀ v dv F' H', Qd dv → Made K F H F' H' v dv → Q v H') → r x lo hi H Q
def sliceD (rd : RDS) (t : TD) (tl th : TDO) : TD := fun δ Q E => t δ (fun x δ1 => tl δ1 (fun l δ2 => th δ2 (fun h δ3 => rd x.toD l h fun z => Q z δ3) E) E) E
theorem pd_sliceR {e : Expr} {lo hi : Option Expr} {r : V → Option Int → Option Int → Hp → VK → Prop} {rd : RDS} {t : TD} {tl th : TDO} {p2 pos : Pos} (hr : SlR X r) (hd : SlD X.K r rd) (he : PE X e (LE X.K c W t)) (hl : PO X lo (LO X.K c W tl)) (hh : PO X hi (LO X.K c W th)) :
    PE X (.Subscript e (.Slice lo hi none p2) pos) (LE X.K c W (sliceD rd t tl th)) := PE_imp (pe_slice hr he hl hh) fun σ H Q ⟨δ, tmp, Qd, Ed, S, q, k, w⟩ =>
  ⟨δ, tmp, _, Ed, S, q, fun v x δ1 H1 q1 S1 => ⟨δ1, _, _, Ed, S1, q1, fun l δ2 H2 q2 S2 => ⟨δ2, _, _, Ed, S2, q2, fun h δ3 H3 q3 ⟨F, ow, S3⟩ => by
    obtain ⟨F2, S4, _⟩ := S3.top_frz
    exact hd v _ l h F2 H3 Q _ S4.fh S4.top q3 fun u dv F5 H5 q5 m => k _ _ _ _ q5 (m.stt S4.pop), w.push⟩, w.push⟩, w⟩
abbrev sliceL : RDS := fun a lo hi Q => ∃ xs, (a = .lst xs ∨ a = .ro xs) ∧ Q (.own (.lst (cutD xs lo hi)))
theorem sld_list {K : PySem.W.Frag} : SlD K (rSlL K) sliceL := fun x a lo hi F H Q Qd s r ⟨xs, e, q⟩ k => by
  rcases e with rfl | rfl
  · cases r with | lst s1 r1 => exact ⟨_, _, rfl, s.seq (SqL.of s1), fun p n => k _ _ _ _ q (made_list n s (r1.cut lo hi))⟩
  · cases r with | ro s1 r1 => exact ⟨_, _, rfl, s.seq s1, fun p n => k _ _ _ _ q (made_list n s (r1.cut lo hi))⟩
theorem pd_slice {e : Expr} {lo hi : Option Expr} {t : TD} {tl th : TDO} {p2 pos : Pos} (he : PE X e (LE X.K c W t)) (hl : PO X lo (LO X.K c W tl)) (hh : PO X hi (LO X.K c W th)) : PE X (.Subscript e (.Slice lo hi none p2) pos) (LE X.K c W (sliceD sliceL t tl th)) := pd_sliceR sl_list sld_list he hl hh
/-! ### dicts by tuples of ints and texts -/
/-- a tuple of ints and texts as a key -/
def keyD : List Key → D := fun ks => .tup (ks.map fun | .inl i => .int i | .inr x => .str x)
theorem keyD_V {K : PySem.W.Frag} {F H : Hp} {v : V} {ks : List Key} (s : Same F H) (r : Rep K F v (keyD ks)) : ∃ b, v = .ref b ∧ H b = some (.tup (ks.map kV)) := by
  unfold keyD at r
  cases r with
  | tup s1 r1 =>
    refine ⟨_, rfl, ?_⟩
    rw [s _ _ s1]
    congr 2
    exact repL_map (f := kV) (fun {F v a} r => by cases a <;> (cases r; rfl)) r1
def valD (kvs : List (List Key × D)) (k : List Key) : Option D := (kvs.find? fun p => decide (p.1 = k)).map (·.2)
end
end DL

set_option Elab.async false
set_option linter.all false
set_option maxRecDepth 100000
/-! readings step by step -/
namespace DR
open PySem PySem.Spec PyProof.Rows L2 DL
section
variable {δ : DSt} {Q : DK} {E : XD} {D : EndsD}
theorem seq {t u : TDS} (h : t { D with nx := u D } δ) : seqD t u D δ := h
theorem next (h : D.nx δ) : nextD D δ := h
theorem drop {t : TD} (h : t δ (fun _ δ1 => D.nx δ1) D.ex) : dropD t D δ := h
theorem ret {t : TD} (h : t δ D.rt D.ex) : retD t D δ := h
theorem set {i : Nat} {t : TD} (h : t δ (fun x δ1 => D.nx (δ1.set i (some (.d x.toD)))) D.ex) : setD i t D δ := h
theorem setO {i : Nat} {t : TD} (h : t δ (fun x δ1 => D.nx (δ1.set i (some x))) D.ex) : DL.setO i t D δ := h
theorem setLc {i : Nat} {o : Bool} {t : TD} (h : t δ (fun x δ1 => D.nx (δ1.set i (some (asD o x)))) D.ex) : setLcD i o t D δ := h
theorem par {i j : Nat} {oi oj : Bool} {t : TDK} (h : t δ (fun xs δ1 => ∃ x y, xs = [x, y] ∧ D.nx ((δ1.set j (some (asD oj y))).set i (some (asD oi x)))) D.ex) : parD i j oi oj t D δ := h
theorem unpack {t : TD} {g : TDG} (h : t δ (fun x δ1 => g x.toD δ1 D.nx) D.ex) : unpackD t g D δ := h
theorem nilk {Q : List DV → DSt → Prop} (h : Q [] δ) : nilK δ Q E := h
theorem consk {t : TD} {r : TDK} {Q : List DV → DSt → Prop} (h : t δ (fun x δ1 => r δ1 (fun xs δ2 => Q (x :: xs) δ2) E) E) : consK t r δ Q E := h
theorem if_ {c : TDT} {t u : TDS} (h : c δ (fun b δ1 => if b = true then t D δ1 else u D δ1) D.ex) : ifD c t u D δ := h
theorem ifE {c : TDT} {t u : TD} (h : c δ (fun b δ1 => if b = true then t δ1 Q E else u δ1 Q E) E) : ifExpD c t u δ Q E := h
theorem not {t : TDT} {Q : Bool → DSt → Prop} (h : t δ (fun b δ1 => Q (!b) δ1) E) : notD t δ Q E := h
theorem and {t u : TDT} {Q : Bool → DSt → Prop} (h : t δ (fun b δ1 => if b = true then u δ1 Q E else Q false δ1) E) : andD t u δ Q E := h
theorem or {t u : TDT} {Q : Bool → DSt → Prop} (h : t δ (fun b δ1 => if b = true then Q true δ1 else u δ1 Q E) E) : orD t u δ Q E := h
theorem tv {t : TD} {Q : Bool → DSt → Prop} (h : t δ (fun x δ1 => ∃ b, x = .d (.bl b) ∧ Q b δ1) E) : tvD t δ Q E := h
theorem notv {t : TD} (h : t δ (fun x δ1 => ∃ b, x = .d (.bl b) ∧ Q (.d (.bl (!b))) δ1) E) : notV t δ Q E := h
theorem andv {t u : TD} (h : t δ (fun x δ1 => ∃ b, x = .d (.bl b) ∧ if b = true then u δ1 Q E else Q (.d (.bl false)) δ1) E) : andV t u δ Q E := h
theorem const {d : DL.D} (h : Q (.d d) δ) : constD d δ Q E := h
theorem var {i : Nat} {x : DL.D} (e : δ[i]? = some (some (.d x))) (h : Q (.d x) δ) : varD i δ Q E := ⟨x, e, h⟩
theorem fvar {i : Nat} {x : DV} (e : δ[i]? = some (some x)) (h : Q (.d x.toD) (δ.set i (some (.d x.toD)))) : fvarD i δ Q E := ⟨x, e, h⟩
theorem mvar {i : Nat} {x : DV} (e : δ[i]? = some (some x)) (h : Q x (δ.set i none)) : mvarD i δ Q E := ⟨x, e, h⟩
theorem op {rd : RD2} {ta tb : TD} (h : ta δ (fun x δ1 => tb δ1 (fun y δ2 => rd x.toD y.toD fun z => Q z δ2) E) E) : opD rd ta tb δ Q E := h
theorem chain {rd rd' : RD2} {ta tb tc : TD} (h : ta δ (fun x δ1 => tb δ1 (fun y δ2 => rd x.toD y.toD fun z => ∃ k, z = .d (.bl k) ∧ if k = true then tc δ2 (fun w δ3 => rd' y.toD w.toD fun z' => Q z' δ3) E else Q (.d (.bl false)) δ2) E) E) : chainD rd rd' ta tb tc δ Q E := h
theorem neg {t : TD} (h : t δ (fun x δ1 => ∃ i, x.toD = .int i ∧ Q (.d (.int (-i))) δ1) E) : negD t δ Q E := h
theorem nil {Q : List AV → DSt → Prop} (h : Q [] δ) : nilD δ Q E := h
theorem cons {t : TD} {r : TDA} {Q : List AV → DSt → Prop} (h : t δ (fun x δ1 => r δ1 (fun as δ2 => Q (.d x.toD :: as) δ2) E) E) : consD t r δ Q E := h
theorem consO {i : Nat} {r : TDA} {Q : List AV → DSt → Prop} (h : r δ (fun as δ2 => Q (.o i :: as) δ2) E) : DL.consO i r δ Q E := h
theorem call {sd : SpD} {ta : TDA} (h : ta δ (fun as δ1 => ∃ xs, argsOf δ1 as xs ∧ (slotsOf as).Nodup ∧ sd xs (fun r os => Q r (putBack δ1 (slotsOf as) os)) (fun x os => E x (putBack δ1 (slotsOf as) os))) E) : callD sd ta δ Q E := h
theorem built {rd : RDN} {ta : TDA} (h : ta δ (fun as δ1 => ∃ ds, as = ds.map .d ∧ rd ds fun z => Q z δ1) E) : builtD rd ta δ Q E := h
theorem builtO {i : Nat} {rd : RDNs} {xs : List DL.D} (e : δ[i]? = some (some (.own (.lst xs)))) (h : rd [.lst xs] fun z => NoStr z ∧ Q (.d z) δ) : DL.builtO i rd δ Q E := ⟨xs, e, h⟩
theorem tup {ta : TDA} (h : ta δ (fun as δ1 => ∃ ds, as = ds.map .d ∧ ds.length ≤ sizeLine ∧ Q (.d (.tup ds)) δ1) E) : tupD ta δ Q E := h
theorem lst {ta : TDA} (h : ta δ (fun as δ1 => ∃ ds, as = ds.map .d ∧ ds.length ≤ sizeLine ∧ Q (.own (.lst ds)) δ1) E) : lstD ta δ Q E := h
theorem ixo {i : Nat} {t : TD} {o : OC} (e : δ[i]? = some (some (.own o))) (h : t δ (fun k δ1 => ∃ xs j d, δ1[i]? = some (some (.own (.lst xs))) ∧ k.toD = .int j ∧ atI xs j = some d ∧ Q (.d d) δ1) E) : ixO i t δ Q E := ⟨o, e, h⟩
theorem setItem {j : Nat} {ti te : TD} {o : OC} (e : δ[j]? = some (some (.own o))) (h : te δ (fun y δ1 => ti δ1 (fun k δ2 => ∃ xs n m, δ2[j]? = some (some (.own (.lst xs))) ∧ k.toD = .int n ∧ ixN xs.length n = some m ∧ D.nx (δ2.set j (some (.own (.lst (xs.set m y.toD)))))) D.ex) D.ex) : DL.setItem j ti te D δ := ⟨o, e, h⟩
theorem meth {j : Nat} {rd : RDM} {ta : TDA} {x0 : List DL.D} (e : δ[j]? = some (some (.own (.lst x0)))) (h : ta δ (fun as δ1 => ∃ ds xs, as = ds.map .d ∧ δ1[j]? = some (some (.own (.lst xs))) ∧ rd xs ds fun z zs => Q (.d z) (δ1.set j (some (.own (.lst zs))))) E) : methO j rd ta δ Q E := ⟨x0, e, h⟩
theorem fld {C : Addr} {f : Str} {t : TD} (h : t δ (fun o δ1 => ∃ fs d, o.toD = .obj C fs ∧ fs.lookup f = some d ∧ Q (.d d) δ1) E) : fldD C f t δ Q E := h
theorem fldo {C : Addr} {i : Nat} {f : Str} {fs : List (Str × DL.D)} {d : DL.D} (e : δ[i]? = some (some (.own (.ins C fs)))) (l : fs.lookup f = some d) (h : Q (.d d) δ) : fldO C i f δ Q E := ⟨fs, d, e, l, h⟩
theorem fldset {C : Addr} {i : Nat} {f : Str} {t : TD} (h : t δ (fun y δ1 => ∃ fs, δ1[i]? = some (some (.own (.ins C fs))) ∧ fs.length < 1000 ∧ D.nx (δ1.set i (some (.own (.ins C (putD f y.toD fs)))))) D.ex) : fldSet C i f t D δ := h
theorem for_ {ti : TDI} {g : TDG} {tb : TDS} (h : ti δ (fun xs δ1 => forD g tb D xs δ1) D.ex) : forS ti g tb D δ := h
theorem comp {ti : TDI} {g : TDG} {tt : TDT} {te : TD} {vs : List Nat} (h : ti δ (fun xs δ1 => lcD g tt te vs xs [] (wipeD δ1 vs) fun acc δ2 => Q (.own (.lst acc)) δ2) E) : compD ti g tt te vs δ Q E := h
theorem yes {Q : Bool → DSt → Prop} (h : Q true δ) : yesD δ Q E := h
theorem nameg {i : Nat} {x : DL.D} {Q : DSt → Prop} (h : Q (δ.set i (some (.d x)))) : nameG i x δ Q := h
theorem tupg {is : List Nat} {xs : List DL.D} {Q : DSt → Prop} (h : namesG is xs δ Q) : tupG is (.tup xs) δ Q := ⟨xs, rfl, h⟩
theorem namesC {i : Nat} {is : List Nat} {x : DL.D} {xs : List DL.D} {Q : DSt → Prop} (h : namesG is xs (δ.set i (some (.d x))) Q) : namesG (i :: is) (x :: xs) δ Q := h
theorem namesN {Q : DSt → Prop} (h : Q δ) : namesG [] [] δ Q := h
theorem listi {t : TD} {Q : List DL.D → DSt → Prop} (h : t δ (fun x δ1 => ∃ xs, (x.toD = .lst xs ∨ x.toD = .ro xs) ∧ Q xs δ1) E) : listI t δ Q E := h
theorem tupi {t : TD} {Q : List DL.D → DSt → Prop} (h : t δ (fun x δ1 => ∃ xs, x.toD = .tup xs ∧ Q xs δ1) E) : tupI t δ Q E := h
theorem stri {t : TD} {Q : List DL.D → DSt → Prop} (h : t δ (fun x δ1 => ∃ z, x.toD = .str z ∧ Q (z.cps.toList.map fun ch => .str ⟨#[ch]⟩) δ1) E) : strI t δ Q E := h
theorem range1 {ta : TDA} {Q : List DL.D → DSt → Prop} (h : ta δ (fun as δ1 => ∃ j, as = [.d (.int j)] ∧ -(2 ^ 62) ≤ j ∧ j < 2 ^ 62 ∧ Q (upto 0 j.toNat) δ1) E) : range1I ta δ Q E := h
theorem iteT {A B : Prop} (h : A) : if true = true then A else B := h
theorem iteF {A B : Prop} (h : B) : if false = true then A else B := h
theorem nit {A B : Prop} (h : B) : if (!true) = true then A else B := h
theorem nif {A B : Prop} (h : A) : if (!false) = true then A else B := h
/-- an open test -/
theorem split {p : Prop} [Decidable p] {A B : Prop} (h1 : p → A) (h2 : ¬ p → B) : if decide p = true then A else B := by
  by_cases h : p
  · rw [if_pos (decide_eq_true h)]; exact h1 h
  · rw [if_neg (by rw [decide_eq_false h]; exact Bool.false_ne_true)]; exact h2 h
end
theorem args_n {δ : DSt} : argsOf δ [] [] := rfl
theorem args_d {δ : DSt} {x : DL.D} {r : List AV} {t : List DV} (h : argsOf δ r t) : argsOf δ (.d x :: r) (.d x :: t) := ⟨t, rfl, h⟩
theorem args_o {δ : DSt} {i : Nat} {o : OC} {r : List AV} {t : List DV} (e : δ[i]? = some (some (.own o))) (h : argsOf δ r t) : argsOf δ (.o i :: r) (.own o :: t) := ⟨o, t, e, rfl, h⟩
theorem nost_i {i : Int} : NoStr (.int i) := fun _ e => nomatch e
theorem nost_b {b : Bool} : NoStr (.bl b) := fun _ e => nomatch e
theorem start {t : TDS} {D : EndsD} {δ δ' : DSt} (e : δ = δ') (h : t D δ') : t D δ := by rw [e]; exact h
theorem tk_n {δ : DSt} : takeB δ [] [] := rfl
theorem tk_c {δ : DSt} {i : Nat} {is : List Nat} {o : OC} {os : List OC} (e : δ[i]? = some (some (.own o))) (h : takeB δ is os) : takeB δ (i :: is) (o :: os) := ⟨o, os, rfl, e, h⟩
theorem rt {sl : List Nat} {Qd : DV → List OC → Prop} {Ed : Ex → List OC → Prop} {x : DV} {δ : DSt} {os : List OC} (t : takeB δ sl os) (q : Qd x os) : (endsD sl Qd Ed).rt x δ := ⟨os, t, q⟩
theorem nx {sl : List Nat} {Qd : DV → List OC → Prop} {Ed : Ex → List OC → Prop} {δ : DSt} {os : List OC} (t : takeB δ sl os) (q : Qd (.d .non) os) : (endsD sl Qd Ed).nx δ := ⟨os, t, q⟩
theorem ex {sl : List Nat} {Qd : DV → List OC → Prop} {Ed : Ex → List OC → Prop} {x : Ex} {δ : DSt} {os : List OC} (t : takeB δ sl os) (q : Ed x os) : (endsD sl Qd Ed).ex x δ := ⟨os, t, q⟩
end DR
namespace DL
open PySem PySem.Spec PyProof.Rows L2
/-- a def as its callers know it -/
structure DefD (P : Program) (w : World) (K : PySem.W.Frag) (mg : Str → Option Value) (base : Heap) (x : Str) (k : Nat) (ps : List Str) (sd : SpD) where
  f : Addr
  fd : FuncData
  ok : FnOk P w K mg base (L2.CX P w) k f fd ps (spOf K sd)
  mg : mg x = some (.ref f)
  kp : PySem.W.keepIn K (.ref f) = true
  b : Binds K fd ps []
end DL

set_option Elab.async false
set_option linter.all false
set_option maxRecDepth 100000
namespace DL
open PySem PySem.Spec PyProof.Rows L2
/-! ### dicts by tuples -/
section
variable {K : PySem.W.Frag} {F H : Hp}
theorem repT_get {k : List Key} : ∀ {vs : List (List Key × V)} {ds : List (List Key × D)}, RepT K F vs ds → (valD ds k = none → valV vs k = none) ∧ ∀ d, valD ds k = some d → ∃ v, valV vs k = some v ∧ Rep K F v d
  | _, _, .nil => ⟨fun _ => rfl, fun d h => nomatch h⟩
  | _, _, .cons (n := n) (v := v) (d := d) (vs := vs) (ds := ds) h t => by
    by_cases e : n = k
    · have e1 : valD ((n, d) :: ds) k = some d := by simp [valD, List.find?_cons, e]
      rw [e1, valV_pos (p := (n, v)) e]
      exact ⟨(fun z => nomatch z), fun d z => by cases z; exact ⟨v, rfl, h⟩⟩
    · have e1 : valD ((n, d) :: ds) k = valD ds k := by simp [valD, List.find?_cons, e]
      rw [e1, valV_neg (p := (n, v)) e]
      exact repT_get t
end
section
variable {X : Cx} {c : Fc} {W : WX}
def getO (j : Nat) (ti : TD) : TD := fun δ Q E => ∃ o, δ[j]? = some (some (.own o)) ∧ ti δ (fun k δ1 => ∃ kvs ks d, δ1[j]? = some (some (.own (.dT kvs))) ∧ k.toD = keyD ks ∧ valD kvs ks = some d ∧ Q (.d d) δ1) E
theorem pd_getO {j : Nat} {x : Str} {i : Expr} {ti : TD} {pos px : Pos} (h : ∀ {to ti : TE}, PE X (.Name x px) to → PE X i ti → PE X (.Subscript (.Name x px) i pos) (tDGet to ti)) (hv : PE X (.Name x px) (tVar j)) (hi : PE X i (LE X.K c W ti)) : PE X (.Subscript (.Name x px) i pos) (LE X.K c W (getO j ti)) :=
  PE_imp (h hv hi) fun σ H Q ⟨δ, tmp, Qd, Ed, ⟨F, ow, S⟩, ⟨o, eo, q⟩, k, w⟩ => by
    obtain ⟨v, e1, p, rfl, _⟩ := S.sl _ _ eo
    refine ⟨_, e1, δ, tmp, _, Ed, ⟨F, ow, S⟩, q, fun u y δ1 H1 ⟨kvs, ks, d, ej, ek, ed, q1⟩ ⟨F1, ow1, S1⟩ => ?_, w⟩
    obtain ⟨F2, S2, _⟩ := S1.top_frz
    obtain ⟨v', e2, p', rfl, _, _, _, vs, ep, r⟩ := S2.sl _ _ ej
    rw [e1] at e2
    cases e2
    rw [ek] at S2
    obtain ⟨b, rfl, eb⟩ := keyD_V S2.fh S2.top
    obtain ⟨z, ez, rz⟩ := (repT_get r).2 d ed
    refine ⟨p, z, rfl, ?_, k _ _ _ _ q1 ⟨F2, ow1, S2.pop.push rz⟩⟩
    rw [← ez]
    exact DGet.t ep eb
/-! ### a property that raises nothing -/
def propD (C : Addr) (sd : SpD) (to : TD) : TD := fun δ Q E => to δ (fun o δ1 => ∃ fs, o.toD = .obj C fs ∧ sd [.d (.obj C fs)] (fun r os => Q r δ1) (fun _ _ => False)) E
theorem pd_prop {e : Expr} {C p f0 : Addr} {f : Str} {k : Nat} {fd : FuncData} {ps : List Str} {sd : SpD} {to : TD} {pos : Pos} (he : PE X e (LE X.K c W to)) (cl : Cls X.K C) (hp : PropOf X.K C f p f0) (G : FnOk X.prog X.w X.K X.mg X.base (L2.CX X.prog X.w) k f0 fd ps (spOf X.K sd)) (hr : Room (k + 1) X.A) (hb : Binds X.K fd ps [])
    (hab : attributeBase e f X.env (eval e X.env) = eval e X.env) : PE X (.Attribute e f pos) (LE X.K c W (propD C sd to)) :=
  PE_imp (pe_prop he cl hp G hr hb .nil (passL (X := X.nox)) hab) fun σ H Q ⟨δ, tmp, Qd, Ed, S, q, k, w⟩ => ⟨δ, tmp, _, Ed, S, q, fun v o δ1 H1 ⟨fs, eo, q1⟩ ⟨F, ow, S1⟩ => by
    obtain ⟨F2, S2, _⟩ := S1.top_frz
    rw [eo] at S2
    have r0 := S2.top
    cases r0 with
    | @obj a _ dx vs _ s h =>
      exact ⟨a, dx, vs, rfl, S2.fh _ _ s, F2, _, [], _, _, S2.fh, .d S2.top .nil, q1, fun v r os F' H' q P rr => k v r _ H' q (ret_push (is := []) S2.pop rfl (fun k i p e => by simp at e) List.nodup_nil P rr), fun _ _ _ _ _ _ z _ _ => z.elim⟩, w⟩
end
end DL

set_option Elab.async false
set_option linter.all false
set_option maxRecDepth 100000
/-! loops by what stays true -/
namespace DR
open PySem PySem.Spec PyProof.Rows L2 DL
theorem cut {t u : TDS} {D : EndsD} {δ : DSt} (I : DSt → Prop) (h1 : ∀ N : DSt → Prop, (∀ δ, I δ → N δ) → t { D with nx := N } δ) (h2 : ∀ δ, I δ → u D δ) : seqD t u D δ := h1 _ h2
theorem icut {ti : TDI} {E : XD} {δ : DSt} {Q : List DL.D → DSt → Prop} (I : List DL.D → DSt → Prop) (h1 : ∀ N : List DL.D → DSt → Prop, (∀ xs δ, I xs δ → N xs δ) → ti δ N E) (h2 : ∀ xs δ, I xs δ → Q xs δ) : ti δ Q E := h1 _ h2
theorem for_inv {g : TDG} {tb : TDS} {D : EndsD} {xs : List DL.D} {δ : DSt} (I : Nat → DSt → Prop) (h0 : I 0 δ)
    (hs : ∀ i x δ (N : DSt → Prop), xs[i]? = some x → I i δ → (∀ δ', I (i + 1) δ' → N δ') → g x δ (fun δ1 => tb { D with nx := N, ct := N, bk := D.nx } δ1))
    (hn : ∀ δ, I xs.length δ → D.nx δ) : forD g tb D xs δ := by
  have go : ∀ (m i : Nat) δ, i + m = xs.length → I i δ → forD g tb D (xs.drop i) δ := fun m => by
    induction m with
    | zero =>
      intro i δ e h
      have e : i = xs.length := e
      subst e
      rw [List.drop_length]
      exact hn δ h
    | succ m ih =>
      intro i δ e h
      have hl : i < xs.length := by omega
      rw [List.drop_eq_getElem_cons hl]
      exact hs i _ δ _ (List.getElem?_eq_getElem hl) h fun δ' h' => ih (i + 1) δ' (by omega) h'
  exact go xs.length 0 δ (Nat.zero_add _) h0
theorem lc_inv {g : TDG} {tt : TDT} {te : TD} {vs : List Nat} {xs : List DL.D} {δ : DSt} {Q : List DL.D → DSt → Prop} (J : Nat → List DL.D → DSt → Prop) (h0 : J 0 [] δ)
    (hs : ∀ i x acc δ (N : List DL.D → DSt → Prop), xs[i]? = some x → J i acc δ → (∀ acc' δ', J (i + 1) acc' δ' → N acc' δ') →
      g x δ (fun δ1 => tt δ1 (fun b δ2 => if b = true then te δ2 (fun y δ3 => acc.length < sizeLine ∧ N (acc ++ [y.toD]) (wipeD δ3 vs)) noX else N acc (wipeD δ2 vs)) noX))
    (hn : ∀ acc δ, J xs.length acc δ → Q acc δ) : lcD g tt te vs xs [] δ Q := by
  have go : ∀ (m i : Nat) acc δ, i + m = xs.length → J i acc δ → lcD g tt te vs (xs.drop i) acc δ Q := fun m => by
    induction m with
    | zero =>
      intro i acc δ e h
      have e : i = xs.length := e
      subst e
      rw [List.drop_length]
      exact hn acc δ h
    | succ m ih =>
      intro i acc δ e h
      have hl : i < xs.length := by omega
      rw [List.drop_eq_getElem_cons hl]
      exact hs i _ acc δ (fun a d => lcD g tt te vs (xs.drop (i + 1)) a d Q) (List.getElem?_eq_getElem hl) h fun acc' δ' h' => ih (i + 1) acc' δ' (by omega) h'
  exact go xs.length 0 [] δ (Nat.zero_add _) h0
/-- each item gives one or none, and nothing else changes -/
theorem lc_filter {g : TDG} {tt : TDT} {te : TD} {vs : List Nat} {xs : List DL.D} {δ : DSt} {Q : List DL.D → DSt → Prop} (f : DL.D → Option DL.D)
    (hs : ∀ x (acc : List DL.D) (N : List DL.D → DSt → Prop), x ∈ xs → acc.length < xs.length → N (acc ++ (f x).toList) δ →
      g x δ (fun δ1 => tt δ1 (fun b δ2 => if b = true then te δ2 (fun y δ3 => acc.length < sizeLine ∧ N (acc ++ [y.toD]) (wipeD δ3 vs)) noX else N acc (wipeD δ2 vs)) noX))
    (hn : Q (xs.filterMap f) δ) : lcD g tt te vs xs [] δ Q := by
  refine lc_inv (fun i acc δ' => δ' = δ ∧ acc = (xs.take i).filterMap f) ⟨rfl, by rw [List.take_zero]; rfl⟩ (fun i x acc δ' N hx ⟨e1, e2⟩ k => ?_) fun acc δ' ⟨e1, e2⟩ => by subst e1; rw [e2, List.take_length]; exact hn
  subst e1
  have hl : i < xs.length := by
    rcases Nat.lt_or_ge i xs.length with h | h
    · exact h
    · rw [List.getElem?_eq_none h] at hx; cases hx
  have hle : acc.length ≤ i := by
    rw [e2]
    exact Nat.le_trans (List.length_filterMap_le ..) (by rw [List.length_take]; exact Nat.min_le_left ..)
  refine hs x acc N (List.mem_of_getElem? hx) (by omega) (k _ _ ⟨rfl, ?_⟩)
  rw [List.take_succ, hx, List.filterMap_append, ← e2]
  show _ = acc ++ [x].filterMap f
  cases e : f x <;> simp [e]
theorem lc_map {g : TDG} {tt : TDT} {te : TD} {vs : List Nat} {xs : List DL.D} {δ : DSt} {Q : List DL.D → DSt → Prop} (f : DL.D → DL.D)
    (hs : ∀ x (acc : List DL.D) (N : List DL.D → DSt → Prop), x ∈ xs → acc.length < xs.length → N (acc ++ [f x]) δ →
      g x δ (fun δ1 => tt δ1 (fun b δ2 => if b = true then te δ2 (fun y δ3 => acc.length < sizeLine ∧ N (acc ++ [y.toD]) (wipeD δ3 vs)) noX else N acc (wipeD δ2 vs)) noX))
    (hn : Q (xs.map f) δ) : lcD g tt te vs xs [] δ Q :=
  lc_filter (fun x => some (f x)) (fun x acc N hx hl n => hs x acc N hx hl n) (by rw [List.filterMap_eq_map']; exact hn)
end DR

set_option Elab.async false
set_option linter.all false
set_option maxRecDepth 100000
namespace DR
open PySem PySem.Spec PyProof.Rows L2 DL
theorem map_at {α β : Type} {f : α → β} {l : List α} {i : Nat} {y : β} (h : (l.map f)[i]? = some y) : ∃ x, l[i]? = some x ∧ y = f x := by
  rw [List.getElem?_map] at h
  cases q : l[i]? with
  | none => rw [q] at h; cases h
  | some x => rw [q] at h; cases h; exact ⟨x, rfl, rfl⟩
theorem at_lt {α : Type} {l : List α} {i : Nat} {x : α} (h : l[i]? = some x) : i < l.length := by
  rcases Nat.lt_or_ge i l.length with h1 | h1
  · exact h1
  · rw [List.getElem?_eq_none h1] at h; cases h
/-- the items stand for others -/
theorem lc_filterM {α : Type} {g : TDG} {tt : TDT} {te : TD} {vs : List Nat} {l : List α} {r : α → DL.D} {δ : DSt} {Q : List DL.D → DSt → Prop} (f : α → Option DL.D)
    (hs : ∀ x (acc : List DL.D) (N : List DL.D → DSt → Prop), x ∈ l → acc.length < l.length → N (acc ++ (f x).toList) δ →
      g (r x) δ (fun δ1 => tt δ1 (fun b δ2 => if b = true then te δ2 (fun y δ3 => acc.length < sizeLine ∧ N (acc ++ [y.toD]) (wipeD δ3 vs)) noX else N acc (wipeD δ2 vs)) noX))
    (hn : Q (l.filterMap f) δ) : lcD g tt te vs (l.map r) [] δ Q := by
  refine lc_inv (fun i acc δ' => δ' = δ ∧ acc = (l.take i).filterMap f) ⟨rfl, by rw [List.take_zero]; rfl⟩ (fun i x acc δ' N hx ⟨e1, e2⟩ k => ?_) fun acc δ' ⟨e1, e2⟩ => by subst e1; rw [e2, List.length_map, List.take_length]; exact hn
  subst e1
  obtain ⟨x, hy, rfl⟩ := map_at hx
  have hl := at_lt hy
  have hle : acc.length ≤ i := by
    rw [e2]
    exact Nat.le_trans (List.length_filterMap_le ..) (by rw [List.length_take]; exact Nat.min_le_left ..)
  refine hs x acc N (List.mem_of_getElem? hy) (by omega) (k _ _ ⟨rfl, ?_⟩)
  rw [List.take_succ, hy, List.filterMap_append, ← e2]
  show _ = acc ++ [x].filterMap f
  cases e : f x <;> simp [e]
theorem lc_mapM {α : Type} {g : TDG} {tt : TDT} {te : TD} {vs : List Nat} {l : List α} {r : α → DL.D} {δ : DSt} {Q : List DL.D → DSt → Prop} (f : α → DL.D)
    (hs : ∀ x (acc : List DL.D) (N : List DL.D → DSt → Prop), x ∈ l → acc.length < l.length → N (acc ++ [f x]) δ →
      g (r x) δ (fun δ1 => tt δ1 (fun b δ2 => if b = true then te δ2 (fun y δ3 => acc.length < sizeLine ∧ N (acc ++ [y.toD]) (wipeD δ3 vs)) noX else N acc (wipeD δ2 vs)) noX))
    (hn : Q (l.map f) δ) : lcD g tt te vs (l.map r) [] δ Q :=
  lc_filterM (fun x => some (f x)) (fun x acc N hx hl n => hs x acc N hx hl n) (by rw [List.filterMap_eq_map']; exact hn)
end DR
namespace DR
open PySem PySem.Spec PyProof.Rows L2 DL
section
variable {δ : DSt} {Q : DK} {E : XD} {D : EndsD}
theorem getO {j : Nat} {ti : TD} {o : OC} (e : δ[j]? = some (some (.own o))) (h : ti δ (fun k δ1 => ∃ kvs ks d, δ1[j]? = some (some (.own (.dT kvs))) ∧ k.toD = keyD ks ∧ valD kvs ks = some d ∧ Q (.d d) δ1) E) : DL.getO j ti δ Q E := ⟨o, e, h⟩
theorem prop {C : Addr} {sd : SpD} {to : TD} (h : to δ (fun o δ1 => ∃ fs, o.toD = .obj C fs ∧ sd [.d (.obj C fs)] (fun r os => Q r δ1) (fun _ _ => False)) E) : propD C sd to δ Q E := h
end
end DR
/-! own objects lent to a def that doesn't change them, for an answer without addresses -/
namespace DL
open PySem PySem.Spec PyProof.Rows L2
def Pln : D → Prop
  | .non => True
  | .bl _ => True
  | .int _ => True
  | .str _ => True
  | .ty _ => True
  | .adr _ => True
  | _ => False
def PlnV : DV → Prop
  | .d x => Pln x
  | .own (.lst ds) => ∀ d ∈ ds, Pln d
  | .own (.ins _ fs) => ∀ p ∈ fs, Pln p.2
  | .own (.dT kvs) => ∀ p ∈ kvs, Pln p.2
  | .own (.dK kvs) => ∀ p ∈ kvs, Pln p.2
  | .own (.tab _ _) => False
section
variable {K : PySem.W.Frag} {F F' F'' H H' : Hp}
theorem Pln.rep {v : V} {d : D} (p : Pln d) (r : Rep K F v d) : Rep K F' v d := by
  cases r with
  | non => exact .non
  | bl b => exact .bl b
  | int i => exact .int i
  | str k => exact .str k
  | ty n => exact .ty n
  | adr a => exact .adr a
  | _ => exact p.elim
theorem pln_l : ∀ {vs : List V} {ds : List D}, (∀ d ∈ ds, Pln d) → RepL K F vs ds → RepL K F' vs ds
  | _, _, _, .nil => .nil
  | _, _, h, .cons r t => .cons ((h _ List.mem_cons_self).rep r) (pln_l (fun d hd => h d (List.mem_cons_of_mem _ hd)) t)
theorem pln_f : ∀ {vs : List (Str × V)} {ds : List (Str × D)}, (∀ p ∈ ds, Pln p.2) → RepF K F vs ds → RepF K F' vs ds
  | _, _, _, .nil => .nil
  | _, _, h, .cons r t => .cons ((h _ List.mem_cons_self).rep r) (pln_f (fun d hd => h d (List.mem_cons_of_mem _ hd)) t)
theorem pln_t : ∀ {vs : List (List Key × V)} {ds : List (List Key × D)}, (∀ p ∈ ds, Pln p.2) → RepT K F vs ds → RepT K F' vs ds
  | _, _, _, .nil => .nil
  | _, _, h, .cons r t => .cons ((h _ List.mem_cons_self).rep r) (pln_t (fun d hd => h d (List.mem_cons_of_mem _ hd)) t)
theorem pln_k : ∀ {vs : List (Key × V)} {ds : List (Key × D)}, (∀ p ∈ ds, Pln p.2) → RepK K F vs ds → RepK K F' vs ds
  | _, _, _, .nil => .nil
  | _, _, h, .cons r t => .cons ((h _ List.mem_cons_self).rep r) (pln_k (fun d hd => h d (List.mem_cons_of_mem _ hd)) t)
theorem PlnV.own {p : Addr} {o : OC} (h : PlnV (.own o)) (r : OwnRep K F H p o) : OwnRep K F' H p o := by
  cases o with
  | lst ds => obtain ⟨vs, e, r⟩ := r; exact ⟨vs, e, pln_l h r⟩
  | ins C fs => obtain ⟨dx, vs, e, r⟩ := r; exact ⟨dx, vs, e, pln_f h r⟩
  | dT kvs => obtain ⟨vs, e, r⟩ := r; exact ⟨vs, e, pln_t h r⟩
  | dK kvs => obtain ⟨vs, e, r⟩ := r; exact ⟨vs, e, pln_k h r⟩
  | tab P q => exact h.elim
/-- the own objects among the arguments -/
def ownsIn : List DV → List OC
  | [] => []
  | .d _ :: r => ownsIn r
  | .own o :: r => o :: ownsIn r
def frzV (x : DV) : DV := .d x.toD
theorem lend : ∀ {vs : List V} {as : List DV} {ps : List Addr}, Same F H → ArgsRep K F H vs as ps →
    ∃ F1, Same F F1 ∧ Same F1 H ∧ ArgsRep K F1 H vs (as.map frzV) [] ∧ (∀ a, F1 a ≠ none → F a ≠ none ∨ a ∈ ps) ∧ OwnsRep K F H ps (ownsIn as) ∧ (∀ p ∈ ps, F p = none)
  | _, _, _, s, .nil => ⟨F, Same.refl F, s, .nil, fun a h => .inl h, .nil, fun p h => nomatch h⟩
  | _, _, _, s, .d h t => by
    obtain ⟨F1, s1, s2, a, n, o, q⟩ := lend s t
    exact ⟨F1, s1, s2, .d (h.mono s1) a, n, o, q⟩
  | _, _, _, s, .own (p := p) (o := o) n h np t => by
    obtain ⟨F1, s1, s2, a, n1, os, q⟩ := lend s t
    have hp : F1 p = none := by
      cases z : F1 p with
      | none => rfl
      | some u => exact ((n1 p (by rw [z]; exact fun y => nomatch y)).elim (fun y => y n) np).elim
    obtain ⟨u, eu, r⟩ := (h.mono (H' := H) s1 rfl).freeze hp s2
    have sF : Same F1 (upd F1 p u) := same_upd (Same.refl F1) hp
    refine ⟨upd F1 p u, s1.trans sF, same_upd1 s2 eu, .d r ?_, fun b hb => ?_, .cons n h os, fun b hb => (List.mem_cons.mp hb).elim (fun e => by rw [e]; exact n) (q b)⟩
    · exact go sF a
    · by_cases e : b = p
      · exact .inr (by rw [e]; exact List.mem_cons_self)
      · rw [upd_ne e] at hb
        exact (n1 b hb).imp id (List.mem_cons_of_mem _)
where
  go {F1 F2 : Hp} (s : Same F1 F2) : ∀ {vs : List V} {as : List DV} {ps : List Addr}, ArgsRep K F1 H vs (as.map frzV) ps → ArgsRep K F2 H vs (as.map frzV) ps
    | _, [], _, .nil => .nil
    | _, _ :: _, _, .d h t => .d (h.mono s) (go s t)
/-- a promise for lent arguments -/
def lent (sd : SpD) : SpD := fun as Q _ => sd (as.map frzV) (fun r os => os = [] ∧ PlnV r ∧ Q r (ownsIn as)) (fun _ _ => False)
theorem spOf_lent {sd : SpD} (vs : List V) (H : Hp) (Q : VK) (E : XK) (h : spOf K (lent sd) vs H Q E) : spOf K sd vs H Q E := by
  obtain ⟨F, as, ps, Qd, Ed, s, ar, hs, kq, ke⟩ := h
  obtain ⟨F1, s1, s2, a, n1, os, np⟩ := lend s ar
  refine ⟨F1, as.map frzV, [], _, _, s2, a, hs, fun v x os' F' H' ⟨_, hp, hq⟩ P r => ?_, fun _ _ _ _ _ _ z _ _ => z.elim⟩
  have sFF' := s1.trans P.f
  let F'' : Hp := fun b => if b ∈ ps then none else F' b
  have f1 : ∀ b, b ∈ ps → F'' b = none := fun b h => if_pos h
  have f2 : ∀ b, b ∉ ps → F'' b = F' b := fun b h => if_neg h
  have sF : Same F F'' := fun b u e => by
    have hb : b ∉ ps := fun z => by rw [np b z] at e; cases e
    rw [f2 b hb]
    exact sFF' _ _ e
  refine kq v x _ F'' H' hq ⟨sF, fun b u e => ?_, fun b u e _ => P.fr b u e (fun z => nomatch z), P.up, fun b hb => ?_, ?_⟩ ?_
  · by_cases hb : b ∈ ps
    · rw [f1 b hb] at e; cases e
    · rw [f2 b hb] at e; exact P.fh _ _ e
  · by_cases hb' : b ∈ ps
    · rw [f1 b hb'] at hb; exact (hb rfl).elim
    · rw [f2 b hb'] at hb
      exact (P.nw b hb).elim (fun z => (n1 b z).elim .inl fun y => (hb' y).elim) .inr
  · have go : ∀ {qs : List Addr} {us : List OC}, (∀ q ∈ qs, q ∈ ps) → OwnsRep K F H qs us → OwnsRep K F'' H' qs us := fun {qs us} hq o => by
      induction o with
      | nil => exact .nil
      | @cons q o qs us n h t ih =>
        refine .cons (f1 _ (hq _ List.mem_cons_self)) (h.mono sF ?_) (ih fun q h => hq q (List.mem_cons_of_mem _ h))
        cases e : H q with
        | none => exact absurd e h.has
        | some u => exact P.fr q u e (fun z => nomatch z)
    exact go (fun _ h => h) os
  · cases x with
    | d y => exact hp.rep r
    | own o =>
      obtain ⟨p, e, n, b, q⟩ := r
      refine ⟨p, e, n, ?_, hp.own q⟩
      by_cases hb : p ∈ ps
      · exact f1 p hb
      · rw [f2 p hb]; exact b
end
end DL

set_option Elab.async false
set_option linter.all false
set_option maxRecDepth 100000
namespace DL
open PySem PySem.Spec PyProof.Rows L2
section
variable {X : Cx} {c : Fc} {W : WX}
/-! ### a list or a tuple -/
def seqO (t : TD) : TDI := fun δ Q E => listI t δ Q E ∨ tupI t δ Q E
theorem pid_seq {tg e : Expr} {t : TD} (he : PE X e (LE X.K c W t)) : PI X tg e (LI X.K c W (seqO t)) :=
  ⟨fun pins s σ H R I ⟨δ, tmp, Qd, Ed, S, q, k, w⟩ => q.elim (fun q => (pid_list he).run pins s σ H R I ⟨δ, tmp, Qd, Ed, S, q, k, w⟩) fun q => (pid_tup he).run pins s σ H R I ⟨δ, tmp, Qd, Ed, S, q, k, w⟩⟩
/-! ### zip -/
theorem zip_at {xs ys : List D} {i : Nat} {d : D} (h : (zipL xs ys)[i]? = some d) : ∃ x y, xs[i]? = some x ∧ ys[i]? = some y ∧ d = .tup [x, y] := by
  unfold zipL at h
  rw [List.getElem?_map] at h
  cases q : (xs.zip ys)[i]? with
  | none => rw [q] at h; cases h
  | some p =>
    rw [q] at h
    cases h
    obtain ⟨a, b⟩ := p
    obtain ⟨h1, h2⟩ := List.getElem?_zip_eq_some.mp q
    exact ⟨a, b, h1, h2, rfl⟩
theorem zip_len {xs ys : List D} : (zipL xs ys).length = min xs.length ys.length := by simp [zipL]
theorem row_l {K : PySem.W.Frag} {F H : Hp} {p : Addr} {x : D} {xs : List D} (e : x = .lst xs ∨ x = .ro xs) (s : Same F H) (r : Rep K F (.ref p) x) : ∃ vs, SqL K H p vs ∧ RepL K F vs xs := by
  rcases e with rfl | rfl
  · cases r with | lst s1 r1 => exact ⟨_, s.seq (SqL.of s1), r1⟩
  · cases r with | ro s1 r1 => exact ⟨_, s.seq s1, r1⟩
theorem row_t {K : PySem.W.Frag} {F H : Hp} {p : Addr} {xs : List D} (s : Same F H) (r : Rep K F (.ref p) (.tup xs)) : ∃ vs, SqT K H p vs ∧ RepL K F vs xs := by
  cases r with | tup s1 r1 => exact ⟨_, SqT.of (s _ _ s1), r1⟩
theorem gho2 {K : PySem.W.Frag} {F : Hp} {v : V} {a b : V} {x y : D} (r : Rep K F v (.gho [a, b] [x, y])) : Rep K F a x ∧ Rep K F b y := by
  cases r with
  | gho h =>
    cases h with
    | cons h1 t =>
      cases t with
      | cons h2 t => exact ⟨h1, h2⟩
theorem serve_zip {K : PySem.W.Frag} {a b : Addr} {x y : D} {xs ys : List D} (ex : x = .lst xs ∨ x = .ro xs) (ey : y = .lst ys ∨ y = .ro ys) : Serve K (Itz K a b) (.int 0) (.gho [.ref a, .ref b] [x, y]) (zipL xs ys) := by
  refine ⟨fun i F H s r hi => ?_, fun i F H s r hi => ?_, fun i F H z H' s r q d hd => ?_⟩
  · obtain ⟨vs, h1, l1⟩ := row_l ex s (gho2 r).1
    obtain ⟨us, h2, l2⟩ := row_l ey s (gho2 r).2
    rw [zip_len] at hi
    obtain ⟨v, e1, _⟩ := l1.get (List.getElem?_eq_getElem (show i < xs.length by omega))
    obtain ⟨u, e2, _⟩ := l2.get (List.getElem?_eq_getElem (show i < ys.length by omega))
    exact ⟨vs, us, v, u, h1, h2, e1, e2⟩
  · obtain ⟨vs, h1, l1⟩ := row_l ex s (gho2 r).1
    obtain ⟨us, h2, l2⟩ := row_l ey s (gho2 r).2
    rw [zip_len] at hi
    exact ⟨vs, us, h1, h2, by rw [l1.len, l2.len]; omega⟩
  · obtain ⟨vs, h1, l1⟩ := row_l ex s (gho2 r).1
    obtain ⟨us, h2, l2⟩ := row_l ey s (gho2 r).2
    obtain ⟨T, v, u, rfl, nT, rfl, y1, y2⟩ := q
    obtain ⟨d1, d2, g1, g2, rfl⟩ := zip_at hd
    obtain ⟨v', e1, r1⟩ := l1.get g1
    obtain ⟨u', e2, r2⟩ := l2.get g2
    rw [y1 vs h1] at e1
    rw [y2 us h2] at e2
    cases e1; cases e2
    have sF : Same F (upd F T (.tup [v, u])) := same_upd (Same.refl F) (s.free nT)
    exact ⟨_, Ext.new s nT, .tup upd_same (.cons (r1.mono sF) (.cons (r2.mono sF) .nil))⟩
theorem serve_zipT {K : PySem.W.Frag} {a b : Addr} {xs ys : List D} : Serve K (RZ.ItzT K a b) (.int 0) (.gho [.ref a, .ref b] [.tup xs, .tup ys]) (zipL xs ys) := by
  refine ⟨fun i F H s r hi => ?_, fun i F H s r hi => ?_, fun i F H z H' s r q d hd => ?_⟩
  · obtain ⟨vs, h1, l1⟩ := row_t s (gho2 r).1
    obtain ⟨us, h2, l2⟩ := row_t s (gho2 r).2
    rw [zip_len] at hi
    obtain ⟨v, e1, _⟩ := l1.get (List.getElem?_eq_getElem (show i < xs.length by omega))
    obtain ⟨u, e2, _⟩ := l2.get (List.getElem?_eq_getElem (show i < ys.length by omega))
    exact ⟨vs, us, v, u, h1, h2, e1, e2⟩
  · obtain ⟨vs, h1, l1⟩ := row_t s (gho2 r).1
    obtain ⟨us, h2, l2⟩ := row_t s (gho2 r).2
    rw [zip_len] at hi
    exact ⟨vs, us, h1, h2, by rw [l1.len, l2.len]; omega⟩
  · obtain ⟨vs, h1, l1⟩ := row_t s (gho2 r).1
    obtain ⟨us, h2, l2⟩ := row_t s (gho2 r).2
    obtain ⟨T, v, u, rfl, nT, rfl, y1, y2⟩ := q
    obtain ⟨d1, d2, g1, g2, rfl⟩ := zip_at hd
    obtain ⟨v', e1, r1⟩ := l1.get g1
    obtain ⟨u', e2, r2⟩ := l2.get g2
    rw [y1 vs h1] at e1
    rw [y2 us h2] at e2
    cases e1; cases e2
    have sF : Same F (upd F T (.tup [v, u])) := same_upd (Same.refl F) (s.free nT)
    exact ⟨_, Ext.new s nT, .tup upd_same (.cons (r1.mono sF) (.cons (r2.mono sF) .nil))⟩
def zipI (ta : TDA) : TDI := fun δ Q E => ta δ (fun as δ1 => ∃ x y xs ys, as = [.d x, .d y] ∧ (((x = .lst xs ∨ x = .ro xs) ∧ (y = .lst ys ∨ y = .ro ys)) ∨ (x = .tup xs ∧ y = .tup ys)) ∧ Q (zipL xs ys) δ1) E
theorem pid_zip {e e2 : Expr} {ta : TDA} {p pos tpos : Pos} {elts : List Expr} {kk : Nat} (hg : Gl X "zip") (hm : X.mg "zip" = none) (ha : PA X [e, e2] (LA X.K c W ta))
    (hs : starEach [e, e2] X.env = (false, eval e X.env) :: starEach [e2] X.env := by rfl) (hpl : (backTo pos (starEach [e2] X.env)).any (·.1) = false := by rfl) : PI X (.Tuple elts kk tpos) (.Call (.Name "zip" p) [e, e2] [] pos) (LI X.K c W (zipI ta)) :=
  PI_imp (RZ.pi_zipA hg hm ha hs hpl) fun σ H R ⟨δ, tmp, Qd, Ed, S, q, k, w⟩ => ⟨δ, tmp, _, _, S, q, fun vs as δ' F ow H' ⟨x, y, xs, ys, e, hx, q'⟩ S' ra => by
    subst e
    cases ra with
    | d h t =>
      cases t with
      | d h2 t =>
        cases t
        rcases hx with ⟨hx, hy⟩ | ⟨rfl, rfl⟩
        · have h0 := h
          have h20 := h2
          obtain ⟨a, us, rfl, g1, _⟩ := h.row (xs := xs) (by rcases hx with e | e <;> rw [e] <;> rfl)
          obtain ⟨b, ws, rfl, g2, _⟩ := h2.row (xs := ys) (by rcases hy with e | e <;> rw [e] <;> rfl)
          obtain ⟨us, g1, _⟩ := row_l hx S'.fh h
          obtain ⟨ws, g2, _⟩ := row_l hy S'.fh h2
          exact ⟨a, b, us, ws, rfl, .inl ⟨g1, g2, k _ _ _ _ _ _ q' (serve_zip hx hy) ⟨F, ow, S'.push (.gho (.cons h0 (.cons h20 .nil)))⟩⟩⟩
        · have h0 := h
          have h20 := h2
          cases h with
          | tup s1 r1 =>
            cases h2 with
            | tup s2 r2 => exact ⟨_, _, _, _, rfl, .inr ⟨SqT.of (S'.fh _ _ s1), SqT.of (S'.fh _ _ s2), k _ _ _ _ _ _ q' serve_zipT ⟨F, ow, S'.push (.gho (.cons h0 (.cons h20 .nil)))⟩⟩⟩, w⟩
end
end DL
namespace DR
open PySem PySem.Spec PyProof.Rows L2 DL
section
variable {δ : DSt} {E : XD} {Q : List DL.D → DSt → Prop}
theorem zipi {ta : TDA} (h : ta δ (fun as δ1 => ∃ x y xs ys, as = [.d x, .d y] ∧ (((x = .lst xs ∨ x = .ro xs) ∧ (y = .lst ys ∨ y = .ro ys)) ∨ (x = .tup xs ∧ y = .tup ys)) ∧ Q (zipL xs ys) δ1) E) : zipI ta δ Q E := h
theorem seqL {t : TD} (h : listI t δ Q E) : seqO t δ Q E := .inl h
theorem seqT {t : TD} (h : tupI t δ Q E) : seqO t δ Q E := .inr h
end
end DR

set_option Elab.async false
set_option linter.all false
set_option maxRecDepth 100000
namespace DL
open PySem PySem.Spec PyProof.Rows L2
section
variable {K : PySem.W.Frag} {F : Hp}
abbrev isiTS (K : PySem.W.Frag) : RDNs := fun ds Q => ∃ x cs t us b, ds = [x, .tup cs] ∧ ClsDs cs us ∧ TyD K x t ∧ PySem.W.kitAny K t us = some b ∧ Q (.bl b)
theorem cn_isiT : CallNs K (rIsiT K) (isiTS K) := fun xs ds F H Q Qd s r ⟨x, cs, t, us, b, e, hc, ht, hk, q⟩ k => by
  subst e
  cases r with
  | cons r t =>
    cases t with
    | cons r2 t =>
      cases t
      cases r2 with
      | tup s1 r1 => exact ⟨_, _, _, _, us, b, rfl, s _ _ s1, clsDs_v r1 hc, tyD_x s r ht, hk, k _ _ q rfl⟩
end
end DL

set_option Elab.async false
set_option linter.all false
set_option maxRecDepth 100000
namespace DL
open PySem PySem.Spec PyProof.Rows L2
theorem repL_str {K : PySem.W.Frag} {F : Hp} {l : List Str} {vs : List V} (r : RepL K F vs (l.map .str)) : vs = l.map V.str := repL_map (fun r => by cases r; rfl) r
section
variable {X : Cx} {c : Fc} {W : WX}
/-- len(set(t)) of a tuple of texts -/
def lenSetD (t : TD) : TD := fun δ Q E => t δ (fun x δ1 => ∃ xs : List Str, x.toD = .tup (xs.map .str) ∧ xs.length ≤ 1000 ∧ Q (.d (.int ((RS.uniq xs).length : Nat))) δ1) E
theorem pd_lenSet {e a : Expr} {t : TD} (h : ∀ {ta : TE}, PE X a ta → PE X e (RS.tLenSetT X.K ta)) (ha : PE X a (LE X.K c W t)) : PE X e (LE X.K c W (lenSetD t)) :=
  PE_imp (h ha) fun σ H Q ⟨δ, tmp, Qd, Ed, S, q, k, w⟩ => ⟨δ, tmp, _, Ed, S, q, fun v x δ1 H1 ⟨xs, ex, hl, q1⟩ ⟨F, ow, S1⟩ => by
    obtain ⟨F2, S2, _⟩ := S1.top_frz
    rw [ex] at S2
    have r := S2.top
    cases r with
    | tup s1 r1 =>
      have e := repL_str r1
      subst e
      exact ⟨_, xs, rfl, SqT.of (S2.fh _ _ s1), hl, k _ _ _ _ q1 ⟨F2, ow, S2.pop.push (.int _)⟩⟩, w⟩
end
end DL
namespace DR
open PySem PySem.Spec PyProof.Rows L2 DL
theorem lenSet {δ : DSt} {Q : DK} {E : XD} {t : TD} (h : t δ (fun x δ1 => ∃ xs : List Str, x.toD = .tup (xs.map .str) ∧ xs.length ≤ 1000 ∧ Q (.d (.int ((RS.uniq xs).length : Nat))) δ1) E) : lenSetD t δ Q E := h
end DR

set_option Elab.async false
set_option linter.all false
set_option maxRecDepth 100000
namespace DL
open PySem PySem.Spec PyProof.Rows L2
section
variable {K : PySem.W.Frag} {c : Fc} {W : WX} {F H : Hp} {ow : Addr → Option Hold} {δ : DSt} {tmp : List (V × DV)} {σ : L2.St} {p : Addr} {o : OC} {v : V} {d : D}
end
section
variable {X : Cx} {c : Fc} {W : WX}
end
end DL
namespace DR
open PySem PySem.Spec PyProof.Rows L2 DL
end DR

set_option Elab.async false
set_option linter.all false
set_option maxRecDepth 100000
namespace DL
open PySem PySem.Spec PyProof.Rows L2
theorem units65 {k : Nat} {A : Around} (r : Room k A) : A.units + 65 < cLine := by have := r.un; omega
section
variable {X : Cx} {c : Fc} {W : WX}
/-- x in xs, xs the own list in slot j: items of any depth -/
def inLO (j : Nat) (n : Bool) (ti : TD) : TD := fun δ Q E => ti δ (fun x δ1 => ∃ xs, δ1[j]? = some (some (.own (.lst xs))) ∧ Cmp x.toD ∧ Cmp (.lst xs) ∧ Q (.d (.bl (n != ((pyL xs).any fun z => PyData.eqv z x.toD.py)))) δ1) E
theorem inLO_run {K : PySem.W.Frag} {j : Nat} {n : Bool} {ti : TD} {r : R2} (hr : ∀ x y H Q d ds, Dp K H x d → Dp K H y (.list ds) → SeqAt.shaped d = true → SeqAt.shaped (.list ds) = true → Q (V.bl (n != (ds.any fun z => PyData.eqv z d))) H → r x y H Q) : ∀ σ H Q, LE K c W (inLO j n ti) σ H Q → tOp r (LE K c W ti) (tVar j) σ H Q :=
  fun σ H Q ⟨δ, tmp, Qd, Ed, S, q, k, w⟩ => ⟨δ, tmp, _, Ed, S, q, fun u y δ1 H1 ⟨xs, ej, cx, cl, q1⟩ ⟨F1, ow1, S1⟩ => by
    obtain ⟨F2, S2, _⟩ := S1.top_frz
    obtain ⟨v', e2, p', rfl, _, _, _, vs, ep, rl⟩ := S2.sl _ _ ej
    have hl : isPyL xs = true := cl.1
    have lay : SeqAt.shaped (D.py (.lst xs)) = true := by
      unfold SeqAt.shaped
      rw [decide_eq_true cl.2]
      have := rl.lay hl
      simp only [D.py, PyData.canLay0]
      rw [this]
      rfl
    exact ⟨_, e2, hr u (.ref p') H1 Q y.toD.py (pyL xs) (dp_mono S2.fh (S2.top.dp cx.1)) (.lst (SqL.of ep) (dpAll_mono S2.fh (rl.dp hl))) (S2.top.shp cx) lay (k _ _ _ _ q1 ⟨F2, ow1, S2.pop.push (.bl _)⟩)⟩, w⟩
theorem ptd_inLO_t {j : Nat} {x : Str} {i : Expr} {ti : TD} {pos px : Pos} (hu : X.A.units + 65 < cLine) (hi : PE X i (LE X.K c W ti)) (hv : PE X (.Name x px) (tVar j)) : PT X (.Compare i [.In] [.Name x px] pos) (LT X.K c W (tvD (inLO j false ti))) :=
  PT_imp (pt_cmpR (op_inD hu) hi hv rfl) fun σ H Q ⟨δ, tmp, Qd, Ed, S, q, k, w⟩ => inLO_run (j := j) (n := false) (ti := ti) (fun x y H Q d ds h1 h2 h3 h4 h5 => ⟨d, ds, h1, h2, h3, h4, by rw [Bool.false_bne] at h5; exact h5⟩) σ H _ ⟨δ, tmp, (fun x δ1 => ∃ b, x = .d (.bl b) ∧ Qd b δ1), Ed, S, q, fun v x δ' H' ⟨b, e, q'⟩ ⟨F, ow, S'⟩ => by
    subst e
    cases S'.top
    exact ⟨b, rfl, k _ _ _ q' ⟨F, ow, S'.pop⟩⟩, w⟩
end
end DL
namespace DR
open PySem PySem.Spec PyProof.Rows L2 DL
theorem inLO {δ : DSt} {Q : DK} {E : XD} {j : Nat} {n : Bool} {ti : TD} (h : ti δ (fun x δ1 => ∃ xs, δ1[j]? = some (some (.own (.lst xs))) ∧ Cmp x.toD ∧ Cmp (.lst xs) ∧ Q (.d (.bl (n != ((pyL xs).any fun z => PyData.eqv z x.toD.py)))) δ1) E) : DL.inLO j n ti δ Q E := h
theorem enumi {δ : DSt} {E : XD} {Q : List DL.D → DSt → Prop} {ta : TDA} (h : ta δ (fun as δ1 => ∃ x xs, as = [.d x] ∧ (x = .lst xs ∨ x = .ro xs) ∧ Q (enumL xs) δ1) E) : enumI ta δ Q E := h
theorem enum_at {xs : List DL.D} {i : Nat} {d : DL.D} (h : (enumL xs)[i]? = some d) : ∃ x, xs[i]? = some x ∧ d = .tup [.int (i : Nat), x] := by
  unfold enumL at h
  rw [List.getElem?_map, List.getElem?_zipIdx] at h
  cases q : xs[i]? with
  | none => rw [q] at h; cases h
  | some x =>
    rw [q] at h
    refine ⟨x, rfl, ?_⟩
    simpa using h.symm
end DR

set_option Elab.async false
set_option linter.all false
set_option maxRecDepth 100000
/-! several except clauses, each with a name -/
namespace DL
open PySem PySem.Spec PyProof.Rows L2
section
variable {X : Cx} {bd : List Stmt} {g : ExceptHandler} {gs : List ExceptHandler} {qs : List Clause} {pos : Pos} {tb : WX → TS} {out : WX}
end
/-! in data -/
end DL
namespace DR
open PySem PySem.Spec PyProof.Rows L2 DL
end DR

set_option Elab.async false
set_option linter.all false
set_option maxRecDepth 100000
/-! operators, subscripts and comparisons by own defs -/
namespace DL
open PySem PySem.Spec PyProof.Rows L2
section
variable {X : Cx} {k : Nat} {f C : Addr} {fd : FuncData} {ps : List Str} {sp : Sp} {E : L2.St → XK} {a b : Expr} {ta tb : TE} {pos : Pos} {r : L2.St → R2}
/-- as OpR, but what is raised may be wished for at the slots -/
def OpS (X : Cx) (g : Value → Value → Sem Value) (r : L2.St → R2) : Prop := ∀ (pins : List (Addr × Obj)) (t : Shared) (τ : L2.St) (G : Hp) (x y : V) (v u : Value) (Q : VK), Inv X pins τ G t → RelV x v → RelV y u → r τ x y G Q → wpAny (model X.prog X.w) X.A (g v u) (EP X pins τ Q) X.xe t
def tOpS (r : L2.St → R2) (ta tb : TE) : TE := fun τ G Q => ta τ G fun x G1 => tb τ G1 fun y G2 => r τ x y G2 Q
theorem pe_opS {op : Operator} (ho : OpS X (binaryOp op) r) (ha : PE X a ta) (hb : PE X b tb) : PE X (.BinOp a op b pos) (tOpS r ta tb) :=
  ⟨fun pins t τ G Q I h => wpAny_BinOp (binT ha hb I h fun v u t2 x y G2 I2 rx ry q => ho pins t2 τ G2 x y v u Q I2 rx ry q)⟩
/-- both of the class C -/
def rBoth (C : Addr) (sp : Sp) (E : L2.St → XK) : L2.St → R2 := fun τ x y G Q => ∃ p d us q e ws, x = .ref p ∧ y = .ref q ∧ G p = some (.ins C d us) ∧ G q = some (.ins C e ws) ∧ sp [x, y] G Q (E τ)
theorem op_both {op : Operator} (sf : PySem.W.selfFirst X.K C = true) (hs : PySem.W.findIn X.K (.ref C) (PySem.dunder op.info.2) = some (some (.ref f))) (hf : PySem.W.isFn X.K (.ref f) = true) (F : FnOk X.prog X.w X.K X.mg X.base (L2.CX X.prog X.w) k f fd ps sp) (room : Room k X.A) (bd : Binds X.K fd ps [])
    (hx : ∀ τ, PassesAt (L2.CX X.prog X.w) X τ (E τ)) : OpS X (binaryOp op) (rBoth C sp E) := by
  rintro pins t τ G x y v u Q I rx ry ⟨p, d, us, q, e, ws, rfl, rfl, hp, hq, h⟩
  obtain rfl : v = Value.ref p := rx
  obtain rfl : u = Value.ref q := ry
  obtain ⟨_, O, _⟩ := ins_get I.hok hp
  obtain ⟨_, J, _⟩ := O.look
  obtain ⟨_, O2, _⟩ := ins_get I.hok hq
  obtain ⟨_, J2, _⟩ := O2.look
  obtain ⟨_, fr⟩ := I.fr
  refine PySem.W.binop_K (op := op) fr I.ok.mod.kin J J2.type sf hs hf ?_
  exact wpAny_mono (run_fnS (E := E) F room bd (hx τ) I (.cons (show RelV (V.ref p) (Value.ref p) from rfl) (.cons (show RelV (V.ref q) (Value.ref q) from rfl) .nil)) h) (fun z t2 ⟨y, G2, I2, ry, qy⟩ => SlX.cmpback ry ⟨y, G2, I2, ry, qy⟩) fun _ _ z => z
end
section
variable {K : PySem.W.Frag} {c : Fc} {W : WX} {F H : Hp} {ow : Addr → Option Hold} {δ : DSt} {tmp : List (V × DV)} {σ : L2.St} {Q : VK} {Qd : DK} {Ed : XD} {sd : SpD}
theorem RepL.args : ∀ {vs : List V} {ds : List D}, RepL K F vs ds → ArgsRep K F H vs (ds.map .d) []
  | _, _, .nil => .nil
  | _, _, .cons h t => .d h t.args
/-- a call with data alone -/
theorem lift_data {vs : List V} {ds : List D} (S : SttF K c F ow δ tmp σ H) (r : RepL K F vs ds) (h : sd (ds.map .d) (fun r _ => Qd r δ) (fun x _ => Ed x δ)) (k : ∀ v x δ' H', Qd x δ' → Stt K c δ' ((v, x) :: tmp) σ H' → Q v H') (w : WD K c W tmp Ed) : spOf K sd vs H Q (WE W σ) :=
  ⟨F, _, [], _, _, S.fh, r.args, h, fun v x os F' H' q P rr => k v x δ H' q (ret_push (is := []) (ps := []) S rfl (fun _ _ _ z => nomatch z) .nil P rr), fun cls d x os F' H' q P er => w x δ σ H' F' ow cls d q (S.called (is := []) (ps := []) rfl (fun _ _ _ z => nomatch z) .nil P) er⟩
end
section
variable {X : Cx} {c : Fc} {W : WX} {k : Nat} {f C : Addr} {fd : FuncData} {ps : List Str} {sd : SpD} {a b : Expr} {ta tb : TD} {pos : Pos}
/-- a op b by an own def of the class of both -/
def bothD (C : Addr) (sd : SpD) (ta tb : TD) : TD := fun δ Q E => ta δ (fun x δ1 => tb δ1 (fun y δ2 => ∃ fs gs, x.toD = .obj C fs ∧ y.toD = .obj C gs ∧ sd [.d (.obj C fs), .d (.obj C gs)] (fun r _ => Q r δ2) (fun x _ => E x δ2)) E) E
structure BinOf (K : PySem.W.Frag) (C : Addr) (op : Operator) (f : Addr) : Prop where
  sf : PySem.W.selfFirst K C = true
  at_ : PySem.W.findIn K (.ref C) (PySem.dunder op.info.2) = some (some (.ref f))
  fn : PySem.W.isFn K (.ref f) = true
theorem pd_both {op : Operator} (B : BinOf X.K C op f) (G : FnOk X.prog X.w X.K X.mg X.base (L2.CX X.prog X.w) k f fd ps (spOf X.K sd)) (hr : Room k X.A) (hb : Binds X.K fd ps []) (tk : Takes X W) (he : PE X a (LE X.K c W ta)) (hg : PE X b (LE X.K c W tb)) :
    PE X (.BinOp a op b pos) (LE X.K c W (bothD C sd ta tb)) :=
  PE_imp (pe_opS (op_both (E := WE W) B.sf B.at_ B.fn G hr hb fun τ => passAt tk τ) he hg) fun σ H Q ⟨δ, tmp, Qd, Ed, S, t, k, w⟩ =>
    ⟨δ, tmp, _, Ed, S, t, fun v x δ1 H1 t1 S1 => ⟨δ1, _, _, Ed, S1, t1, fun u y δ2 H2 ⟨fs, gs, ex, ey, t2⟩ ⟨F, ow, S2⟩ => by
      obtain ⟨F', S3, _⟩ := S2.top_frz2
      rw [ex, ey] at S3
      have r1 := S3.pop.top
      have r2 := S3.top
      have both : ∃ p q, v = .ref p ∧ u = .ref q := by
        cases r1; cases r2; exact ⟨_, _, rfl, rfl⟩
      obtain ⟨p, q, rfl, rfl⟩ := both
      have s1 : ∃ d us, H2 p = some (.ins C d us) := by cases r1 with | obj s _ => exact ⟨_, _, S3.fh _ _ s⟩
      have s2 : ∃ d us, H2 q = some (.ins C d us) := by cases r2 with | obj s _ => exact ⟨_, _, S3.fh _ _ s⟩
      obtain ⟨d1, us1, h1⟩ := s1
      obtain ⟨d2, us2, h2⟩ := s2
      exact ⟨p, d1, us1, q, d2, us2, rfl, rfl, h1, h2, lift_data (ds := [.obj C fs, .obj C gs]) S3.pop.pop (.cons r1 (.cons r2 .nil)) t2 k w⟩, w.push⟩, w⟩
end
end DL
namespace DR
open PySem PySem.Spec PyProof.Rows L2 DL
theorem both {C : Addr} {sd : SpD} {ta tb : TD} {δ : DSt} {Q : DK} {E : XD} (h : ta δ (fun x δ1 => tb δ1 (fun y δ2 => ∃ fs gs, x.toD = .obj C fs ∧ y.toD = .obj C gs ∧ sd [.d (.obj C fs), .d (.obj C gs)] (fun r _ => Q r δ2) (fun x _ => E x δ2)) E) E) : bothD C sd ta tb δ Q E := h
end DR

set_option Elab.async false
set_option linter.all false
set_option maxRecDepth 100000
/-! == and != by an own def; classes called with keywords; defs with a star; classmethods -/
namespace DL
open PySem PySem.Spec PyProof.Rows L2
/-! ### == -/
section
variable {X : Cx} {k : Nat} {f C : Addr} {fd : FuncData} {ps : List Str} {sp : Sp}
end
/-! ### != -/
section
variable {X : Cx} {k : Nat} {f C : Addr} {fd : FuncData} {ps : List Str} {sp : Sp}
end
section
variable {K : PySem.W.Frag} {F H F' H' : Hp} {C : Addr} {sd : SpD}
theorem Post.nil {os : List OC} (P : Post K F H [] os F' H') : os = [] := by cases P.os; rfl
end
end DL

set_option Elab.async false
set_option linter.all false
set_option maxRecDepth 100000
/-! classes called with keywords, defs with a star, classmethods -/
namespace DL
open PySem PySem.Spec PyProof.Rows L2
section
variable {X : Cx} {k n : Nat} {f g C : Addr} {fd : FuncData} {ps ks : List Str} {sp : Sp} {E : L2.St → XK} {x m : Str} {p pos apos : Pos} {e o : Expr} {es : List Expr} {kws : List Keyword} {t tk : TA} {to : TE} {gU : List Value → List Value → List Value} {gV : List V → List V → List V} {i : Nat}
/-- a new instance by keywords too; what __init__ raises is wished for at the slots -/
def tNewK (C : Addr) (n m : Nat) (sp : Sp) (gV : List V → List V → List V) (E : L2.St → XK) (t tk : TA) : TE := fun τ G Q => t τ G fun vs G1 => tk τ G1 fun zs G2 => vs.length = n ∧ zs.length = m ∧ ∀ x dx, G2 x = none → G2 dx = none → dx ≠ x →
  sp (gV (.ref x :: vs) zs) (upd (upd G2 dx (.own x)) x (.ins C dx [])) (fun v G3 => v = .non ∧ Q (.ref x) G3) (E τ)
theorem run_newK {pins : List (Addr × Obj)} {τ : L2.St} {G : Hp} {s : Shared} {Q : VK} {us ws : List Value} {vs zs : List V} (M : Mk X.K C f) (F : FnOk X.prog X.w X.K X.mg X.base (L2.CX X.prog X.w) k f fd ps sp) (room : Room (k + 1) X.A) (kb : KBn X.K fd ps (n + 1) ks gU gV) (hx : PassesAt (L2.CX X.prog X.w) X τ (E τ))
    (I : Inv X pins τ G s) (rv : Vals vs us) (rz : Vals zs ws) (lv : vs.length = n) (lz : zs.length = ks.length)
    (h : ∀ x dx, G x = none → G dx = none → dx ≠ x → sp (gV (.ref x :: vs) zs) (upd (upd G dx (.own x)) x (.ins C dx [])) (fun v G2 => v = .non ∧ Q (.ref x) G2) (E τ)) :
    wpAny (model X.prog X.w) X.A (call (.ref C) us (ks.zip ws)) (EP X pins τ Q) X.xe s := by
  let z := s.heap.objs.size
  have q0 := h (z + 1) z (I.hok.fresh (Nat.le_succ _)) (I.hok.fresh (Nat.le_refl _)) (Nat.ne_of_lt (Nat.lt_succ_self _))
  have J := Inv.made (C := C) I
  have rr : Vals (V.ref (z + 1) :: vs) (Value.ref (z + 1) :: us) := .cons rfl rv
  have hn : (Value.ref (z + 1) :: us).length = n + 1 := congrArg (· + 1) (rv.length.symm.trans lv)
  have run := F.run _ X.stack _ _ ⟨Value.ref (z + 1) :: us, ks.zip ws⟩ (gU (Value.ref (z + 1) :: us) ws) _ _ (E τ) (room.make C us (ks.zip ws)) (J.env0.make C us (ks.zip ws)) (kb.to _ (Value.ref (z + 1) :: us) ws J.kIn hn (rz.length.symm.trans lz)) (kb.rel rr rz) q0
  refine wpAny_call (make_map (f := f) I.kIn M.makes M.init (beq_iff_eq.mp M.fn) (codeAny_mono run fun fin s2 y => ?_))
  cases fin with
  | error er => exact hx pins _ _ er s2 J y
  | ok fl =>
    cases fl with
    | next => exact y.elim
    | brk => exact y.elim
    | cont => exact y.elim
    | ret u =>
      obtain ⟨v, G2, J2, rv2, ev, q3⟩ := J.after y
      subst ev
      exact ⟨rv2, ⟨V.ref (z + 1), G2, J2, rfl, q3⟩⟩
theorem pe_newK (M : Mk X.K C f) (F : FnOk X.prog X.w X.K X.mg X.base (L2.CX X.prog X.w) k f fd ps sp) (room : Room (k + 1) X.A) (hg : Gl X x) (hm : X.mg x = some (.ref C)) (kb : KBn X.K fd ps (n + 1) ks gU gV) (hx : ∀ τ, PassesAt (L2.CX X.prog X.w) X τ (E τ)) (ha : PA X (e :: es) t) (hk : PK X kws tk)
    (hall : (backToKw pos (keywordEach kws X.env)).all (·.1.isSome) = true := by rfl) (hks : (backToKw pos (keywordEach kws X.env)).filterMap (·.1) = ks := by rfl) (hdb : (x == ("__debug__" : Str)) = false := by decide)
    (he : starEach (e :: es) X.env = (false, eval e X.env) :: starEach es X.env := by rfl) (hpl : ((backTo pos (starEach (e :: es) X.env)).any (·.1) || (backToKw pos (keywordEach kws X.env)).any (·.1.isNone)) = false := by rfl) :
    PE X (.Call (.Name x p) (e :: es) kws pos) (tNewK C n ks.length sp gV E t tk) :=
  ⟨fun pins s τ G Q I h => wpAny_Call_Name_kw (ld_glob I hg hm (PySem.W.callWith_KW (h₀ := X.base) I.ok.mod.kin M.kp hall (thn (ha.run pos pins s τ G _ I h) fun us s1 ⟨vs, G1, I1, rv, q⟩ =>
    thn (hk.run pos pins s1 τ G1 _ I1 q) fun ws s2 ⟨zs, G2, I2, rz, lv, lz, q2⟩ => ⟨I2.kIn, by rw [hks]; exact run_newK M F room kb (hx τ) I2 rv rz lv lz q2⟩) hpl he) hdb)⟩
/-- .. the class in a slot -/
def tNewL (i : Nat) (C : Addr) (n m : Nat) (sp : Sp) (gV : List V → List V → List V) (E : L2.St → XK) (t tk : TA) : TE := fun τ G Q => τ[i]? = some (some (.ref C)) ∧ tNewK C n m sp gV E t tk τ G Q
theorem pe_newL (M : Mk X.K C f) (F : FnOk X.prog X.w X.K X.mg X.base (L2.CX X.prog X.w) k f fd ps sp) (room : Room (k + 1) X.A) (hN : X.N[i]? = some x) (hv : Vis X.env.scope x) (kb : KBn X.K fd ps (n + 1) ks gU gV) (hx : ∀ τ, PassesAt (L2.CX X.prog X.w) X τ (E τ)) (ha : PA X (e :: es) t) (hk : PK X kws tk)
    (hall : (backToKw pos (keywordEach kws X.env)).all (·.1.isSome) = true := by rfl) (hks : (backToKw pos (keywordEach kws X.env)).filterMap (·.1) = ks := by rfl) (hdb : (x == ("__debug__" : Str)) = false := by decide) (hcd : (x == ("__classdict__" : Str)) = false := by decide)
    (he : starEach (e :: es) X.env = (false, eval e X.env) :: starEach es X.env := by rfl) (hpl : ((backTo pos (starEach (e :: es) X.env)).any (·.1) || (backToKw pos (keywordEach kws X.env)).any (·.1.isNone)) = false := by rfl) :
    PE X (.Call (.Name x p) (e :: es) kws pos) (tNewL i C n ks.length sp gV E t tk) := by
  refine ⟨fun pins s τ G Q I ⟨hs, h⟩ => ?_⟩
  refine wpAny_Call_Name_kw (thn ((pe_var (pos := p) hN hv hdb hcd).run pins s τ G (fun v G1 => v = .ref C ∧ G1 = G) I ⟨.ref C, hs, rfl, rfl⟩) fun u s0 ⟨v, G0, I0, r0, q0⟩ => ?_)
  obtain ⟨rfl, rfl⟩ := q0
  obtain rfl : u = Value.ref C := r0
  exact PySem.W.callWith_KW (h₀ := X.base) I.ok.mod.kin M.kp hall (thn (ha.run pos pins s0 τ _ _ I0 h) fun us s1 ⟨vs, G1, I1, rv, q⟩ =>
    thn (hk.run pos pins s1 τ G1 _ I1 q) fun ws s2 ⟨zs, G2, I2, rz, lv, lz, q2⟩ => ⟨I2.kIn, by rw [hks]; exact run_newK M F room kb (hx τ) I2 rv rz lv lz q2⟩) hpl he
/-! ### a def by what its values are (a star among its parameters) -/
theorem run_R {pins : List (Addr × Obj)} {τ : L2.St} {G : Hp} {s : Shared} {Q : VK} {us : List Value} {vs : List V} (F : FnR X.prog X.w X.K X.mg X.base (L2.CX X.prog X.w) k f sp) (room : Room k X.A) (hx : PassesAt (L2.CX X.prog X.w) X τ (E τ)) (I : Inv X pins τ G s) (rv : Vals vs us) (h : sp vs G Q (E τ)) :
    codeAny (model X.prog X.w) X.A (.call (.ref f) ⟨us, []⟩) (fun fin s2 => match fin with | .ok (.ret v) => EP X pins τ Q v s2 | .ok _ => False | .error er => X.xe er s2) s := by
  refine codeAny_mono (F X.A X.stack s G us vs Q (E τ) room I.env0 rv h) fun fin s2 y => ?_
  cases fin with
  | error er => exact hx pins G s er s2 I y
  | ok fl =>
    cases fl with
    | next => exact y.elim
    | brk => exact y.elim
    | cont => exact y.elim
    | ret u => exact I.after y
theorem pe_callR (F : FnR X.prog X.w X.K X.mg X.base (L2.CX X.prog X.w) k f sp) (room : Room k X.A) (hg : Gl X x) (hm : X.mg x = some (.ref f)) (kp : PySem.W.keepIn X.K (.ref f) = true) (hx : ∀ τ, PassesAt (L2.CX X.prog X.w) X τ (E τ)) (ha : PA X (e :: es) t)
    (hdb : (x == ("__debug__" : Str)) = false := by decide) (he : starEach (e :: es) X.env = (false, eval e X.env) :: starEach es X.env := by rfl) (hpl : (backTo pos (starEach es X.env)).any (·.1) = false := by rfl) :
    PE X (.Call (.Name x p) (e :: es) [] pos) (fun τ G Q => t τ G fun vs G1 => sp vs G1 Q (E τ)) :=
  ⟨fun pins s τ G Q I h => wpAny_Call_Name_kw (ld_glob I hg hm (PySem.W.callWith_K (h₀ := X.base) I.ok.mod.kin kp (thn (ha.run pos pins s τ G _ I h) fun us s1 ⟨vs, G1, I1, rv, q⟩ => ⟨I1.kIn, wpAny_call (run_R F room (hx τ) I1 rv q)⟩) he hpl) hdb)⟩
/-! ### C.m(..), m a classmethod -/
theorem pe_clsm {mc : Value} {rp : Addr} {pl : Sem Bool} (ho : PE X o to) (cr : ClX.CRead X.K C mc) (cm : ClX.CMet X.K C mc m rp g) (F : FnR X.prog X.w X.K X.mg X.base (L2.CX X.prog X.w) k g sp) (room : Room k X.A) (hx : ∀ τ, PassesAt (L2.CX X.prog X.w) X τ (E τ)) (ha : PA X (e :: es) t)
    (hst : starEach (e :: es) X.env = (false, eval e X.env) :: starEach es X.env := by rfl) (hpl : (backTo pos (starEach es X.env)).any (·.1) = false := by rfl)
    (ht : eval (.Call (.Attribute o m apos) (e :: es) [] pos) X.env = (do
      let y ← eval o X.env
      standAt apos.atName
      let (u, ahead) ← holding [y] (getMethod y m pl)
      callWith pos u ahead (backTo pos (starEach (e :: es) X.env)) (backToKw pos (keywordEach [] X.env))) := by rfl) :
    PE X (.Call (.Attribute o m apos) (e :: es) [] pos) (fun τ G Q => to τ G fun x G1 => x = .ref C ∧ t τ G1 fun vs G2 => sp (.ref C :: vs) G2 Q (E τ)) := by
  refine ⟨fun pins s τ G Q I h => PySem.W.methodCall_KW (pl := pl) (thn (ho.run pins s τ G _ I h) fun u s1 ⟨x, G1, I1, rx, ex, q⟩ => ?_) ht⟩
  subst ex
  obtain rfl : u = Value.ref C := rx
  refine ClX.getmethcm_ok I1 cr cm fun s2 I2 => ?_
  refine ClX.callwith_cm I2 (ClX.base_none I1 (Nat.le_refl _)) cm.fi (thn (ha.run pos _ s2 τ G1 _ I2 q) fun us s3 ⟨vs, G2, I3, rv, q2⟩ => ⟨⟨ClX.pin_at I3, I3.kIn⟩, ?_⟩) hst hpl
  exact thn (wpAny_call (PySem.W.method_call (ClX.pin_at I3) (run_R (us := .ref C :: us) (vs := .ref C :: vs) F room (hx τ) I3 (.cons rfl rv) q2))) fun _ _ y => ClX.unpinE y
end
end DL

set_option Elab.async false
set_option linter.all false
set_option maxRecDepth 100000
/-! the same in data -/
namespace DL
open PySem PySem.Spec PyProof.Rows L2
section
variable {K : PySem.W.Frag} {c : Fc} {W : WX} {F H : Hp} {ow : Addr → Option Hold} {δ : DSt} {tmp : List (V × DV)} {σ : L2.St}
theorem SttF.pushL : ∀ {vs : List V} {ds : List D} {tmp : List (V × DV)}, SttF K c F ow δ tmp σ H → RepL K F vs ds → SttF K c F ow δ (vs.zip (ds.map .d) ++ tmp) σ H
  | _, _, _, S, .nil => S
  | _, _, _, S, .cons h t => (SttF.pushL S t).push h
theorem SttF.popL : ∀ {vs : List V} {ds : List D} {tmp : List (V × DV)}, vs.length = ds.length → SttF K c F ow δ (vs.zip (ds.map .d) ++ tmp) σ H → RepL K F vs ds ∧ SttF K c F ow δ tmp σ H
  | [], [], _, _, S => ⟨.nil, S⟩
  | v :: vs, d :: ds, tmp, hl, S => by
    have S' : SttF K c F ow δ ((v, .d d) :: (vs.zip (ds.map .d) ++ tmp)) σ H := S
    obtain ⟨r, S2⟩ := SttF.popL (Nat.succ.inj hl) S'.pop
    exact ⟨.cons S'.top r, S2⟩
theorem WD.pushL {Ed : XD} {l : List (V × DV)} (w : WD K c W tmp Ed) : WD K c W (l ++ tmp) Ed := by
  induction l with
  | nil => exact w
  | cons a l ih => obtain ⟨v, x⟩ := a; exact ih.push
theorem RepL.avs : ∀ {vs : List V} {ds : List D}, RepL K F vs ds → RepArgs K F σ vs (ds.map .d)
  | _, _, .nil => .nil
  | _, _, .cons h t => .d h t.avs
theorem argsOf_d : ∀ {ds : List D}, argsOf δ (ds.map .d) (ds.map .d)
  | [] => rfl
  | _ :: _ => ⟨_, rfl, argsOf_d⟩
theorem slots_d : ∀ {ds : List D}, slotsOf (ds.map .d) = []
  | [] => rfl
  | _ :: ds => slots_d (ds := ds)
end
section
variable {X : Cx} {c : Fc} {W : WX} {k n : Nat} {f g C : Addr} {fd : FuncData} {ps ks : List Str} {sd : SpD} {x m : Str} {p pos apos kpos : Pos} {e o : Expr} {es : List Expr} {kws : List Keyword} {t : TD} {ta tk : TDA} {nm : Option Str} {gU : List Value → List Value → List Value} {gV : List V → List V → List V} {i : Nat}
theorem PK_imp {t t' : TA} (h : PK X kws t) (f : ∀ σ H Q, t' σ H Q → t σ H Q) : PK X kws t' := ⟨fun pos pins s σ H Q I q => h.run pos pins s σ H Q I (f _ _ _ q)⟩
theorem pkd_nil : PK X [] (LA X.K c W nilD) := PK_imp pk_nil fun σ H Q ⟨δ, tmp, Qd, Ed, ⟨F, ow, S⟩, q, k, w⟩ => k [] [] δ F ow H q S .nil
theorem pkd_cons (he : PE X e (LE X.K c W t)) (hr : PK X kws (LA X.K c W tk)) : PK X (⟨nm, e, kpos⟩ :: kws) (LA X.K c W (consD t tk)) :=
  PK_imp (pk_cons he hr) fun σ H Q ⟨δ, tmp, Qd, Ed, S, t, k, w⟩ => ⟨δ, tmp, _, Ed, S, t, fun v x δ1 H1 q1 ⟨F, ow, S1⟩ => by
    obtain ⟨F', S2, _⟩ := S1.top_frz
    exact ⟨δ1, _, _, Ed, ⟨F', ow, S2⟩, q1, fun vs as δ2 F2 ow2 H2 q2 S3 ra => k _ _ _ _ _ _ q2 S3.pop (.d S3.top ra), w.push⟩, w⟩
/-- C(.., k = v, ..) of data alone; dd: the defaults behind -/
def newKD (C : Addr) (n m : Nat) (dd : List D) (sd : SpD) (ta tk : TDA) : TD := fun δ Q E => ta δ (fun as δ1 => ∃ ds, as = ds.map .d ∧ ds.length = n ∧ tk δ1 (fun zs δ2 => ∃ es, zs = es.map .d ∧ es.length = m ∧
  sd (.own (.ins C []) :: (ds ++ es ++ dd).map .d) (fun r os => r = .d .non ∧ ∃ fs os', os = .ins C fs :: os' ∧ Q (.d (.obj C fs)) δ2) (fun x os => ∃ o os', os = o :: os' ∧ E x δ2)) E) E
theorem lift_newK {K : PySem.W.Frag} {dv : List V} {dd : List D} {tA tB : TA} {m : Nat} (hA : tA = LA K c W ta) (hB : tB = LA K c W tk) (hd : ∀ F, RepL K F dv dd) (hg : ∀ v vs zs, gV (v :: vs) zs = v :: (vs ++ zs ++ dv)) : ∀ σ H Q, LE K c W (newKD C n m dd sd ta tk) σ H Q → tNewK C n m (spOf K sd) gV (WE W) tA tB σ H Q := by
  subst hA hB
  rintro σ H Q ⟨δ, tmp, Qd, Ed, S, t, k, w⟩
  refine ⟨δ, tmp, _, Ed, S, t, fun vs as δ1 F ow H1 ⟨ds, ea, ln, t1⟩ S1 ra => ?_, w⟩
  subst ea
  have r1 := args_d ra
  refine ⟨δ1, vs.zip (ds.map .d) ++ tmp, _, Ed, ⟨F, ow, S1.pushL r1⟩, t1, fun zs bs δ2 F2 ow2 H2 ⟨es, eb, lm, h⟩ S2 rb => ?_, w.pushL⟩
  subst eb
  have r2 := args_d rb
  obtain ⟨r1, S3⟩ := S2.popL r1.len
  refine ⟨r1.len.trans ln, r2.len.trans lm, fun y dy ny ndy ne => ?_⟩
  rw [hg]
  refine lift_make (as := (ds ++ es ++ dd).map .d) (xs := (ds ++ es ++ dd).map .d) (Qd := Qd) (Ed := Ed) S3 ((r1.app r2).app (hd F2)).avs argsOf_d (by rw [slots_d]; exact .nil) ?_ k w y dy ny ndy ne
  rw [slots_d]
  exact h
/-- the class called by its name -/
theorem pd_newK {dv : List V} {dd : List D} (M : Mk X.K C f) (G : FnOk X.prog X.w X.K X.mg X.base (L2.CX X.prog X.w) k f fd ps (spOf X.K sd)) (hr : Room (k + 1) X.A) (hg : Gl X x) (hm : X.mg x = some (.ref C)) (kb : KBn X.K fd ps (n + 1) ks gU gV) (hd : ∀ F, RepL X.K F dv dd) (hv : ∀ v vs zs, gV (v :: vs) zs = v :: (vs ++ zs ++ dv)) (tk0 : Takes X W)
    (ha : PA X (e :: es) (LA X.K c W ta)) (hk : PK X kws (LA X.K c W tk))
    (hall : (backToKw pos (keywordEach kws X.env)).all (·.1.isSome) = true := by rfl) (hks : (backToKw pos (keywordEach kws X.env)).filterMap (·.1) = ks := by rfl) (hdb : (x == ("__debug__" : Str)) = false := by decide)
    (he : starEach (e :: es) X.env = (false, eval e X.env) :: starEach es X.env := by rfl) (hpl : ((backTo pos (starEach (e :: es) X.env)).any (·.1) || (backToKw pos (keywordEach kws X.env)).any (·.1.isNone)) = false := by rfl) :
    PE X (.Call (.Name x p) (e :: es) kws pos) (LE X.K c W (newKD C n ks.length dd sd ta tk)) :=
  PE_imp (pe_newK (E := WE W) M G hr hg hm kb (fun τ => passAt tk0 τ) ha hk hall hks hdb he hpl) (lift_newK rfl rfl hd hv)
/-- the class in slot i -/
def newLD (i : Nat) (C : Addr) (n m : Nat) (dd : List D) (sd : SpD) (ta tk : TDA) : TD := fun δ Q E => δ[i]? = some (some (.d (.adr C))) ∧ newKD C n m dd sd ta tk δ Q E
theorem pd_newL {dv : List V} {dd : List D} (M : Mk X.K C f) (G : FnOk X.prog X.w X.K X.mg X.base (L2.CX X.prog X.w) k f fd ps (spOf X.K sd)) (hr : Room (k + 1) X.A) (hN : X.N[i]? = some x) (hvi : Vis X.env.scope x) (kb : KBn X.K fd ps (n + 1) ks gU gV) (hd : ∀ F, RepL X.K F dv dd) (hv : ∀ v vs zs, gV (v :: vs) zs = v :: (vs ++ zs ++ dv)) (tk0 : Takes X W)
    (ha : PA X (e :: es) (LA X.K c W ta)) (hk : PK X kws (LA X.K c W tk))
    (hall : (backToKw pos (keywordEach kws X.env)).all (·.1.isSome) = true := by rfl) (hks : (backToKw pos (keywordEach kws X.env)).filterMap (·.1) = ks := by rfl) (hdb : (x == ("__debug__" : Str)) = false := by decide) (hcd : (x == ("__classdict__" : Str)) = false := by decide)
    (he : starEach (e :: es) X.env = (false, eval e X.env) :: starEach es X.env := by rfl) (hpl : ((backTo pos (starEach (e :: es) X.env)).any (·.1) || (backToKw pos (keywordEach kws X.env)).any (·.1.isNone)) = false := by rfl) :
    PE X (.Call (.Name x p) (e :: es) kws pos) (LE X.K c W (newLD i C n ks.length dd sd ta tk)) :=
  PE_imp (pe_newL (E := WE W) (i := i) M G hr hN hvi kb (fun τ => passAt tk0 τ) ha hk hall hks hdb hcd he hpl) fun σ H Q ⟨δ, tmp, Qd, Ed, ⟨F, ow, S⟩, ⟨ei, t⟩, k, w⟩ => by
    obtain ⟨v, e1, r⟩ := S.sl _ _ ei
    cases (show Rep X.K F v (.adr C) from r)
    exact ⟨e1, lift_newK rfl rfl hd hv σ H Q ⟨δ, tmp, Qd, Ed, ⟨F, ow, S⟩, t, k, w⟩⟩
/-! ### by values alone -/
def callRD (sd : SpD) (ta : TDA) : TD := fun δ Q E => ta δ (fun as δ1 => ∃ ds : List D, as = ds.map .d ∧ sd (ds.map .d) (fun r _ => Q r δ1) (fun x _ => E x δ1)) E
theorem lift_R : ∀ σ H Q, LE X.K c W (callRD sd ta) σ H Q → LA X.K c W ta σ H fun vs H1 => spOf X.K sd vs H1 Q (WE W σ) := fun σ H Q ⟨δ, tmp, Qd, Ed, S, t, k, w⟩ =>
  ⟨δ, tmp, _, Ed, S, t, fun vs as δ1 F ow H1 ⟨ds, ea, h⟩ S1 ra => by
    subst ea
    exact lift_data S1 (args_d ra) h k w, w⟩
theorem pd_callR (G : FnR X.prog X.w X.K X.mg X.base (L2.CX X.prog X.w) k f (spOf X.K sd)) (hr : Room k X.A) (hg : Gl X x) (hm : X.mg x = some (.ref f)) (kp : PySem.W.keepIn X.K (.ref f) = true) (tk0 : Takes X W) (ha : PA X (e :: es) (LA X.K c W ta))
    (hdb : (x == ("__debug__" : Str)) = false := by decide) (he : starEach (e :: es) X.env = (false, eval e X.env) :: starEach es X.env := by rfl) (hpl : (backTo pos (starEach es X.env)).any (·.1) = false := by rfl) :
    PE X (.Call (.Name x p) (e :: es) [] pos) (LE X.K c W (callRD sd ta)) :=
  PE_imp (pe_callR (E := WE W) G hr hg hm kp (fun τ => passAt tk0 τ) ha hdb he hpl) lift_R
/-- C.m(..) -/
def clsmD (C : Addr) (sd : SpD) (to : TD) (ta : TDA) : TD := fun δ Q E => to δ (fun o δ1 => o.toD = .adr C ∧ ta δ1 (fun as δ2 => ∃ ds : List D, as = ds.map .d ∧ sd (.d (.adr C) :: ds.map .d) (fun r _ => Q r δ2) (fun x _ => E x δ2)) E) E
theorem pd_clsm {mc : Value} {rp : Addr} {pl : Sem Bool} {to : TD} (ho : PE X o (LE X.K c W to)) (cr : ClX.CRead X.K C mc) (cm : ClX.CMet X.K C mc m rp g) (G : FnR X.prog X.w X.K X.mg X.base (L2.CX X.prog X.w) k g (spOf X.K sd)) (hr : Room k X.A) (tk0 : Takes X W) (ha : PA X (e :: es) (LA X.K c W ta))
    (hst : starEach (e :: es) X.env = (false, eval e X.env) :: starEach es X.env := by rfl) (hpl : (backTo pos (starEach es X.env)).any (·.1) = false := by rfl)
    (ht : eval (.Call (.Attribute o m apos) (e :: es) [] pos) X.env = (do
      let y ← eval o X.env
      standAt apos.atName
      let (u, ahead) ← holding [y] (getMethod y m pl)
      callWith pos u ahead (backTo pos (starEach (e :: es) X.env)) (backToKw pos (keywordEach [] X.env))) := by rfl) :
    PE X (.Call (.Attribute o m apos) (e :: es) [] pos) (LE X.K c W (clsmD C sd to ta)) :=
  PE_imp (pe_clsm (E := WE W) ho cr cm G hr (fun τ => passAt tk0 τ) ha hst hpl ht) fun σ H Q ⟨δ, tmp, Qd, Ed, S, t, k, w⟩ =>
    ⟨δ, tmp, _, Ed, S, t, fun v y δ1 H1 ⟨ey, t1⟩ ⟨F, ow, S1⟩ => by
      obtain ⟨F', S2, _⟩ := S1.top_frz
      rw [ey] at S2
      have r := S2.top
      cases r
      exact ⟨rfl, δ1, tmp, _, Ed, ⟨F', ow, S2.pop⟩, t1, fun vs as δ2 F2 ow2 H2 ⟨ds, ea, h⟩ S3 ra => by
        subst ea
        exact lift_data (ds := .adr C :: ds) S3 (.cons (.adr C) (args_d ra)) h k w, w⟩, w⟩
end
/-! ### a def with a star -/
def starD (n : Nat) (sd : SpD) : SpD := fun as Q E => ∃ ds es : List D, as = (ds ++ es).map .d ∧ ds.length = n ∧ es.length ≤ sizeLine ∧ sd ((ds ++ [D.tup es]).map .d) (fun r _ => Q r []) (fun x _ => E x [])
section
variable {P : Program} {w : World} {K : PySem.W.Frag} {mg : Str → Option Value} {base : Heap}
theorem repL_split {F : Hp} : ∀ {ds es : List D} {vs : List V}, RepL K F vs (ds ++ es) → ∃ us ws, vs = us ++ ws ∧ RepL K F us ds ∧ RepL K F ws es
  | [], _, vs, r => ⟨[], vs, rfl, .nil, r⟩
  | _ :: _, _, _, .cons h t => by
    obtain ⟨us, ws, e, r1, r2⟩ := repL_split t
    exact ⟨_ :: us, ws, congrArg _ e, .cons h r1, r2⟩
theorem argsRep_d {F H : Hp} : ∀ {ds : List D} {vs : List V} {ps : List Addr}, ArgsRep K F H vs (ds.map .d) ps → RepL K F vs ds ∧ ps = []
  | [], _, _, .nil => ⟨.nil, rfl⟩
  | _ :: _, _, _, .d h t => ⟨.cons h (argsRep_d t).1, (argsRep_d t).2⟩
theorem okStar {x qual pv : Str} {st : Stmt} {f : Addr} {fd : FuncData} {N ps : List Str} {k : Nat} {sd : SpD} (G : Fun K x qual st f fd) (S : FnScope N (ps ++ [pv]) (defScope st)) (len : ∀ as Q E, sd as Q E → ownIx as 0 = [])
    (hb : ∀ (kV doc pm : Value) (an : Option Addr) (cdv ct : Value) (us rest : List Value), us.length = ps.length → bindArgs (PySem.W.fnOf x qual (defArgs st) (defBody st) (defScope st) .none kV doc pm an cdv ct) ⟨us ++ rest, []⟩ = (newTuple rest >>= fun t => pure (ps.zip us ++ [(pv, t)])))
    (hbody : ∃ t : TDS, (∀ (cdv : Value) (A : Around) (outer : List Env) (s : Shared) (H : Hp) (E : XK) (ad : List Addr) (F0 H0 : Hp), Room k (A.deeper (envOfC qual (defScope st) s.heap.objs.size f cdv)) →
        PSs (cxOf (L2.CX P w) P w K mg base N qual (defScope st) f cdv A outer s H E) (defBody st) (LS K ⟨[], ad, F0, H0⟩ (fun cls d _ H => E cls d H) t)) ∧
      ∀ as Qd Ed, sd as Qd Ed → t (endsD [] Qd Ed) (startD N.length as)) :
    FnR P w K mg base (L2.CX P w) (k + 1) f (spOf K (starD ps.length sd)) := by
  obtain ⟨t, ht, hq⟩ := hbody
  obtain ⟨oc, od, kV, doc, pm, an, cdv, ct, osl, rfl, lk, hcd⟩ := G.ex
  have body := StX.fn_star (CX := L2.CX P w) (sp := spOf K sd) (k := k) (mg := mg) (base := base) (w := w) (P := P) lk hcd S StX.cxUp (fun us rest hl => hb kV doc pm an cdv ct us rest hl) (fun A outer s H vs Q E hr ⟨F, as, qs, Qd, Ed, sm, ar, h, kq, ke⟩ => by
    have hsl := len _ _ _ h
    have S0 := entry (N := N) sm ar
    rw [hsl] at S0
    have hpl : qs.length = ([] : List Nat).length := by rw [← hsl]; exact ar.plen
    have hqs : qs = [] := List.length_eq_zero_iff.mp hpl
    subst hqs
    have post : ∀ {δ' : DSt} {tmp : List (V × DV)} {σ' : L2.St} {F' H' : Hp} {ow' : Addr → Option Hold} {os : List OC}, SttF K ⟨[], [], F, H⟩ F' ow' δ' tmp σ' H' → takeB δ' [] os → Post K F H [] os F' H' := fun {δ' tmp σ' F' H' ow' os} S' tb =>
      ⟨S'.f0, S'.fh, S'.fr, S'.up, S'.fn, takeB_reps S' hpl S'.ps tb⟩
    refine ⟨_, ht cdv A outer s H E [] F H hr, startD N.length as, [], endsD [] Qd Ed, ⟨F, _, S0⟩, hq as Qd Ed h, fun δ' σ' H' ⟨os, tb, q⟩ ⟨F', ow', S'⟩ => ?_, fun v x δ' σ' H' ⟨os, tb, q⟩ ⟨F', ow', S'⟩ => ?_, fun _ _ _ z => z.elim, fun _ _ _ z => z.elim, fun x δ' σ' H' F' ow' cls d ⟨os, tb, q⟩ S' er => ?_⟩
    · exact kq .non (.d .non) os F' H' q (post S' tb) .non
    · refine kq v x os F' H' q (post S' tb) ?_
      cases x with
      | d y => exact S'.top
      | own o =>
        obtain ⟨p, rfl, e, b, n, r⟩ := S'.tm.1
        exact ⟨p, rfl, n.t, b, r⟩
    · exact ke cls d x os F' H' q (post S' tb) er)
  refine body.imp fun vs H Q E ⟨F, as, qs, Qd, Ed, sm, ar, ⟨ds, es, ea, hn, hz, h⟩, kq, ke⟩ => ?_
  subst ea
  obtain ⟨r, rfl⟩ := argsRep_d ar
  obtain ⟨us, ws, rfl, r1, r2⟩ := repL_split r
  refine ⟨us, ws, rfl, r1.len.trans hn, by rw [r2.len]; exact hz, fun p hp => ?_⟩
  have e1 : Ext F H (upd F p (.tup ws)) (upd H p (.tup ws)) := Ext.new sm hp
  have back : ∀ {os : List OC} {F' H' : Hp}, Post K (upd F p (.tup ws)) (upd H p (.tup ws)) [] os F' H' → Post K F H [] [] F' H' := fun {os F' H'} Pq =>
    ⟨e1.f.trans Pq.f, Pq.fh, fun a u e _ => Pq.fr a u (e1.h _ _ e) (fun z => nomatch z), fun a z => e1.h.free (Pq.up a z), fun a z => (Pq.nw a z).elim (e1.nw a) fun y => .inr (e1.h.free y), .nil⟩
  refine ⟨upd F p (.tup ws), (ds ++ [D.tup es]).map .d, [], _, _, e1.fh, ?_, h, fun v x os F' H' q Pq rr => kq v x [] F' H' q (back Pq) ?_, fun cls d x os F' H' q Pq er => ke cls d x [] F' H' q (back Pq) er⟩
  · exact ((r1.mono e1.f).app (.cons (.tup upd_same (r2.mono e1.f)) .nil)).args
  · cases x with
    | d y => exact rr
    | own o =>
      obtain ⟨q, e, nq, b, z⟩ := rr
      exact ⟨q, e, e1.h.free nq, b, z⟩
/-- .. in data: dd the defaults -/
def dfltD (n : Nat) (dd : List D) (sd : SpD) : SpD := fun as Q E => ∃ ds : List D, as = ds.map .d ∧ ds.length = n ∧ sd ((ds ++ dd).map .d) (fun r _ => Q r []) (fun x _ => E x [])
end
end DL
namespace DR
open PySem PySem.Spec PyProof.Rows L2 DL
section
variable {δ : DSt} {Q : DK} {E : XD}
theorem newk {C : Addr} {n m : Nat} {dd : List DL.D} {sd : SpD} {ta tk : TDA} (h : ta δ (fun as δ1 => ∃ ds, as = ds.map .d ∧ ds.length = n ∧ tk δ1 (fun zs δ2 => ∃ es, zs = es.map .d ∧ es.length = m ∧
  sd (.own (.ins C []) :: (ds ++ es ++ dd).map .d) (fun r os => r = .d .non ∧ ∃ fs os', os = .ins C fs :: os' ∧ Q (.d (.obj C fs)) δ2) (fun x os => ∃ o os', os = o :: os' ∧ E x δ2)) E) E) : newKD C n m dd sd ta tk δ Q E := h
theorem newl {i : Nat} {C : Addr} {n m : Nat} {dd : List DL.D} {sd : SpD} {ta tk : TDA} (e : δ[i]? = some (some (.d (.adr C)))) (h : newKD C n m dd sd ta tk δ Q E) : newLD i C n m dd sd ta tk δ Q E := ⟨e, h⟩
theorem callr {sd : SpD} {ta : TDA} (h : ta δ (fun as δ1 => ∃ ds : List DL.D, as = ds.map .d ∧ sd (ds.map .d) (fun r _ => Q r δ1) (fun x _ => E x δ1)) E) : callRD sd ta δ Q E := h
theorem clsm {C : Addr} {sd : SpD} {to : TD} {ta : TDA} (h : to δ (fun o δ1 => o.toD = .adr C ∧ ta δ1 (fun as δ2 => ∃ ds : List DL.D, as = ds.map .d ∧ sd (.d (.adr C) :: ds.map .d) (fun r _ => Q r δ2) (fun x _ => E x δ2)) E) E) : clsmD C sd to ta δ Q E := h
end
end DR

set_option Elab.async false
set_option linter.all false
set_option maxRecDepth 100000
/-! walking an object whose __iter__ hands back iter(self.f), f a tuple -/
namespace DL
open PySem PySem.Spec PyProof.Rows L2
/-! ### iter of a tuple -/
/-! ### a def run where it stands -/
/-! ### the class's __iter__ -/
section
variable {X : Cx} {C f : Addr} {qual fld : Str} {st : Stmt} {fd : FuncData}
end
/-! ### in data -/
section
variable {X : Cx} {c : Fc} {W : WX} {C f : Addr} {qual fld : Str} {st : Stmt} {fd : FuncData}
end
end DL
namespace DR
open PySem PySem.Spec PyProof.Rows L2 DL
end DR

set_option Elab.async false
set_option linter.all false
set_option maxRecDepth 100000
/-! defs as their callers know them -/
namespace DL
open PySem PySem.Spec PyProof.Rows L2
section
variable (P : Program) (w : World) (K : PySem.W.Frag) (mg : Str → Option Value) (base : Heap)
/-- by values alone -/
structure DefR (x : Str) (k : Nat) (sd : SpD) where
  f : Addr
  ok : FnR P w K mg base (L2.CX P w) k f (spOf K sd)
  mg : mg x = some (.ref f)
  kp : PySem.W.keepIn K (.ref f) = true
/-- an operator of the class C -/
structure DefB (C : Addr) (op : Operator) (k : Nat) (ps : List Str) (sd : SpD) where
  f : Addr
  fd : FuncData
  ok : FnOk P w K mg base (L2.CX P w) k f fd ps (spOf K sd)
  b : Binds K fd ps []
  bo : BinOf K C op f
/-- a property -/
structure DefP (C : Addr) (x : Str) (k : Nat) (ps : List Str) (sd : SpD) where
  p : Addr
  f : Addr
  fd : FuncData
  ok : FnOk P w K mg base (L2.CX P w) k f fd ps (spOf K sd)
  b : Binds K fd ps []
  po : PropOf K C x p f
/-- a classmethod -/
structure DefC (C : Addr) (mc : Value) (x : Str) (k : Nat) (sd : SpD) where
  p : Addr
  f : Addr
  ok : FnR P w K mg base (L2.CX P w) k f (spOf K sd)
  cm : ClX.CMet K C mc x p f
/-- a class whose __init__ has n parameters (self among them) and keyword-only ones ks, with the defaults dv -/
structure DefK (C : Addr) (k n : Nat) (ps ks : List Str) (dv : List V) (sd : SpD) where
  f : Addr
  fd : FuncData
  g0 : List Value → List Value → List Value
  g1 : List Value → List Value → List Value
  mkc : Mk K C f
  ok : FnOk P w K mg base (L2.CX P w) k f fd ps (spOf K sd)
  kb0 : KBn K fd ps n [] g0 (fun vs zs => vs ++ zs ++ dv)
  kb1 : KBn K fd ps n ks g1 (fun vs zs => vs ++ zs ++ [])
end
end DL

set_option Elab.async false
set_option linter.all false
set_option maxRecDepth 100000
/-! enumerate over a tuple -/
namespace EnT
open PySem
open PySem.Sem (wp)
section
variable {prog : Program} {w : World} {A : Around} {E : Value → Shared → Prop} {s : Shared} {e it l : Addr} {i : Nat} {items : Array Value} {x old : Value}
/-- a heap behind others that changed at one place each -/
theorem at_ext {h h2 : Heap} (z : h.IsTupleIter it l i) (k : ∀ o, h.get? it = some o → h2.get? it = some o) : h2.IsTupleIter it l i := let ⟨o, a, r⟩ := z; ⟨o, k o a, r⟩
theorem next_item {Q : Value → Shared → Prop} (he : IsEnum s.heap e it i old) (hi : s.heap.IsTupleIter it l i) (hl : s.heap.IsTuple l items) (hx : items[i]? = some x) (ne : e ≠ it)
    (hQ : ∀ h2, IsEnumOut h2 e it ((i : Int) + 1) x s.heap.objs.size → h2.IsTupleIter it l (i + 1) → h2.get? s.heap.objs.size = some { cls := .type "tuple", data := .seq #[.int i s.toks, x] } → h2.objs.size = s.heap.objs.size + 1 →
      (∀ b o, b ≠ e → b ≠ it → s.heap.get? b = some o → h2.get? b = some o) → Q (.ref s.heap.objs.size) { s with heap := h2, toks := s.toks + 1 }) :
    wpAny (model prog w) A (Builtin.«enumerate.__next__» ⟨[.ref e], []⟩) (fun fin t => ∃ v, fin = .done (.ret v) ∧ Q v t) E s := by
  obtain ⟨h0, g, d, tk, os⟩ := s
  show wpAny _ _ (field (.ref e) 2 >>= _) _ _ ⟨h0, g, d, tk, os⟩
  refine wpAny_bind (wpAny_field he rfl (x := .ref it) rfl (wpAny_bind (RZ.nextOf_tuple_item hi hl hx fun h1 hi1 sb1 => ?_)))
  have sb1 : Heap.SameBut it h0 h1 := sb1
  have he1 : IsEnum h1 e it i old := (sb1.2 e ne).trans he
  show wpAny _ _ (field (.ref e) 3 >>= _) _ _ (⟨h1, g, d, tk, os⟩ : Shared)
  refine wpAny_bind (wpAny_field he1 rfl (x := rawInt i) rfl ?_)
  show wpAny _ _ (field (.ref e) 4 >>= _) _ _ (⟨h1, g, d, tk, os⟩ : Shared)
  refine wpAny_bind (wpAny_field he1 rfl (x := .none) rfl ?_)
  show wpAny _ _ (mkInt i >>= _) _ _ (⟨h1, g, d, tk, os⟩ : Shared)
  refine wpAny_bind (wpAny_mkInt ?_)
  show wpAny _ _ (setField (.ref e) 3 (rawInt ((i : Int) + 1)) >>= _) _ _ (⟨h1, g, d, tk + 1, os⟩ : Shared)
  refine wpAny_bind (wpAny_setField_rec he1 (by simp) fun h2 he2 sb2 => ?_)
  have sb2 : Heap.SameBut e h1 h2 := sb2
  have he2 : IsEnum h2 e it ((i : Int) + 1) old := he2
  show wpAny _ _ (setField (.ref e) 4 .none >>= _) _ _ (⟨h2, g, d, tk + 1, os⟩ : Shared)
  refine wpAny_bind (wpAny_setField_rec he2 (by simp) fun h3 he3 sb3 => ?_)
  have sb3 : Heap.SameBut e h2 h3 := sb3
  have he3 : IsEnum h3 e it ((i : Int) + 1) old := he3
  show wpAny _ _ (newTuple [.int i tk, x] >>= _) _ _ (⟨h3, g, d, tk + 1, os⟩ : Shared)
  refine wpAny_bind (wpAny_newTuple ?_)
  have sz : h3.objs.size = h0.objs.size := by rw [sb3.1, sb2.1, sb1.1]
  have lt : e < h0.objs.size := Heap.lt_size he
  -- the heap with the new pair
  have he4 : IsEnum (h3.push { cls := .type "tuple", data := .seq #[.int i tk, x] }) e it ((i : Int) + 1) old := Heap.get?_push_of_some _ he3
  have hi4 : (h3.push { cls := .type "tuple", data := .seq #[.int i tk, x] }).IsTupleIter it l (i + 1) := at_ext hi1 fun o q => Heap.get?_push_of_some _ ((sb3.2 it ne.symm).trans ((sb2.2 it ne.symm).trans q))
  have new4 : (h3.push { cls := .type "tuple", data := .seq #[.int i tk, x] }).get? h0.objs.size = some { cls := .type "tuple", data := .seq #[.int i tk, x] } := by rw [← sz]; exact Heap.get?_push_size _ rfl
  have sz4 : (h3.push { cls := .type "tuple", data := .seq #[.int i tk, x] }).objs.size = h0.objs.size + 1 := by rw [Heap.size_push, sz]
  have kp4 : ∀ b o, b ≠ e → b ≠ it → h0.get? b = some o → (h3.push { cls := .type "tuple", data := .seq #[.int i tk, x] }).get? b = some o := fun b o n1 n2 q => Heap.get?_push_of_some _ ((sb3.2 b n1).trans ((sb2.2 b n1).trans ((sb1.2 b n2).trans q)))
  rw [sz]
  generalize h3.push { cls := .type "tuple", data := .seq #[.int i tk, x] } = h4 at *
  show wpAny _ _ (Builtin.SmallTypes.ownedTupleIsFree (.ref e) >>= _) _ _ (⟨h4, g, d, tk + 1, os⟩ : Shared)
  refine wpAny_bind ?_
  unfold Builtin.SmallTypes.ownedTupleIsFree
  refine wpAny_bind (wpAny_field he4 rfl (x := .none) rfl (wpAny_pure ?_))
  simp only [if_true]
  refine wpAny_bind (wpAny_rule (wpAny_bind (wpAny_field he4 rfl (x := old) rfl (wpAny_bind (wpAny_setField_rec he4 (by simp) fun h5 he5 sb5 => ?_)))))
  have sb5 : Heap.SameBut e h4 h5 := sb5
  have he5 : IsEnum h5 e it ((i : Int) + 1) x := he5
  show wpAny _ _ (Builtin.SmallTypes.ownedTupleHandOut (.ref e) (.ref h0.objs.size) >>= _) _ _ (⟨h5, g, d, tk + 1, os⟩ : Shared)
  refine wpAny_bind ?_
  unfold Builtin.SmallTypes.ownedTupleHandOut
  refine wpAny_bind (wpAny_setField_rec he5 (by simp) fun h6 he6 sb6 => ?_)
  have sb6 : Heap.SameBut e h5 h6 := sb6
  have he6 : IsEnumOut h6 e it ((i : Int) + 1) x h0.objs.size := he6
  refine wpAny_setField_rec he6 (by simp) fun h7 he7 sb7 => ?_
  have sb7 : Heap.SameBut e h6 h7 := sb7
  have he7 : IsEnumOut h7 e it ((i : Int) + 1) x h0.objs.size := he7
  have up : ∀ b o, b ≠ e → h4.get? b = some o → h7.get? b = some o := fun b o n q => (sb7.2 b n).trans ((sb6.2 b n).trans ((sb5.2 b n).trans q))
  exact wpAny_bind (wpAny_letGo (wpAny_pure ⟨_, rfl, hQ h7 he7 (at_ext hi4 fun o q => up it o ne.symm q) (up _ _ (Nat.ne_of_gt lt) new4) (by rw [sb7.1, sb6.1, sb5.1, sz4]) fun b o n1 n2 q => up b o n1 (kp4 b o n1 n2 q)⟩))
theorem pyNext_item {Q : Option Value → Shared → Prop} (he : IsEnum s.heap e it i old) (hi : s.heap.IsTupleIter it l i) (hl : s.heap.IsTuple l items) (hx : items[i]? = some x) (ne : e ≠ it)
    (hQ : ∀ h2, IsEnumOut h2 e it ((i : Int) + 1) x s.heap.objs.size → h2.IsTupleIter it l (i + 1) → h2.get? s.heap.objs.size = some { cls := .type "tuple", data := .seq #[.int i s.toks, x] } → h2.objs.size = s.heap.objs.size + 1 →
      (∀ b o, b ≠ e → b ≠ it → s.heap.get? b = some o → h2.get? b = some o) → Q (some (.ref s.heap.objs.size)) { s with heap := h2, toks := s.toks + 1 }) : wpAny (model prog w) A (pyNext (.ref e)) Q E s := by
  have ty : s.TypeIs (.ref e) "enumerate" := ⟨_, he, rfl⟩
  unfold pyNext
  refine wpAny_bind (wpAny_attempt (wpAny_callSpecial?_slot (name := Str.ofString "__next__") ty F.slot_enumerate_next (wpAny_call_entry F.slot_enumerate_next ty F.entry_enumerate_next ?_ (F.args_enumerate_next_1 _))))
  exact next_item he hi hl hx ne fun h2 a b c d k => wpAny_pure (hQ h2 a b c d k)
theorem pyNext_end {Q : Option Value → Shared → Prop} (hh : A.handled = none) (he : IsEnum s.heap e it i old) (hi : s.heap.IsTupleIter it l i) (hl : s.heap.IsTuple l items) (hx : items[i]? = none)
    (hQ : ∀ h2, Heap.ExtBut it s.heap h2 → Q none { s with heap := h2 }) : wpAny (model prog w) A (pyNext (.ref e)) Q E s := by
  have ty : s.TypeIs (.ref e) "enumerate" := ⟨_, he, rfl⟩
  unfold pyNext
  refine wpAny_bind (wpAny_attempt (wpAny_callSpecial?_slot (name := Str.ofString "__next__") ty F.slot_enumerate_next (wpAny_call_entry F.slot_enumerate_next ty F.entry_enumerate_next ?_ (F.args_enumerate_next_1 _))))
  show wpAny _ _ (field (.ref e) 2 >>= _) _ _ s
  refine wpAny_bind (wpAny_field he rfl (x := .ref it) rfl (wpAny_bind (RZ.nextOf_tuple_end hh hi hl hx fun h2 c sb ⟨o, ho, hc⟩ => ?_)))
  exact wpAny_bind (wpAny_isInstance (T := "StopIteration") (b := true) ⟨o, ho, hc⟩ isSubtype_stop (wpAny_pure (hQ _ sb)))
end
end EnT

set_option Elab.async false
set_option linter.all false
set_option maxRecDepth 100000
namespace EnT
open PySem
open PySem.Sem (wp)
open AutoSeq1 (wpAny_loadPart')
abbrev titer (l : Addr) : Obj := { cls := .type "tuple_iterator", data := .fields #[.ref l, .int 0 0] }
abbrev enumO (it : Addr) : Obj := { cls := .type "enumerate", data := .fields #[.none, .bool false, .ref it, rawInt 0, .none, .none] }
set_option maxHeartbeats 1000000 in
theorem meets_new (l : Addr) (items : Array Value) (n : Nat) (dct : Option Addr) (sl : Array (Option Value)) :
    Meets (Builtin.«enumerate.__new__» ⟨[.type "enumerate", .ref l], []⟩) (fun _ R s => s.heap.get? l = some { cls := .type "tuple", dict := dct, data := .seq items n, slots := sl } ∧
      R (.ok (.ret (.ref (s.heap.push (titer l)).objs.size))) { s with heap := (s.heap.push (titer l)).push (enumO s.heap.objs.size) }) :=
  .of_wp fun prog w A R s z => by
    obtain ⟨hp, g, d, tk, os⟩ := s
    obtain ⟨hl, z⟩ := z
    have hsub := sub_enumerate
    have hT : Heap.IsTuple (Shared.heap ⟨hp, g, d, tk, os⟩) l items := ⟨_, hl, rfl, n, rfl⟩
    wp_walk using wpAny_loadPart' hl
    refine wpAny_stack_any fun st => wpAny_pure ?_
    split
    · rename_i c _ _ _ _ _
      cases (c == Value.type "enumerate") <;> (wp_walk using wpAny_loadPart' hl, wpAny_pyIter_tuple hT; exact ⟨_, rfl, z⟩)
    · wp_walk using wpAny_loadPart' hl, wpAny_pyIter_tuple hT
      exact ⟨_, rfl, z⟩
theorem call_new {prog : Program} {w : World} {A : Around} {E : Value → Shared → Prop} {s : Shared} {l : Addr} {items : Array Value} {Q : Value → Shared → Prop} (hT : s.heap.IsTuple l items)
    (h : ∀ h2, IsEnum h2 (s.heap.objs.size + 1) s.heap.objs.size 0 .none → h2.IsTupleIter s.heap.objs.size l 0 → (∀ b o, s.heap.get? b = some o → h2.get? b = some o) → Q (.ref (s.heap.objs.size + 1)) { s with heap := h2 }) :
    wpAny (model prog w) A (call (.type "enumerate") [.ref l]) Q E s := by
  obtain ⟨⟨c, dct, dt, sl⟩, hl, hc, n, hd⟩ := hT
  obtain rfl : c = .type "tuple" := hc
  obtain rfl : dt = .seq items n := hd
  refine callType_new F.called_enumerate (by decide) (F.typeCall_enumerate_1 _) (F.newCall_enumerate_1 _) (fun obj => F.args_object_init_2 obj _) F.entry_enumerate_new (meets_new l items n dct sl) ⟨hl, ?_⟩
  have sz : (s.heap.push (titer l)).objs.size = s.heap.objs.size + 1 := Heap.size_push ..
  show _ ∧ _
  rw [sz]
  have he : IsEnum ((s.heap.push (titer l)).push (enumO s.heap.objs.size)) (s.heap.objs.size + 1) s.heap.objs.size 0 .none := by
    have q := Heap.get?_push_size (s.heap.push (titer l)) (o := enumO s.heap.objs.size) rfl
    rw [sz] at q
    exact q
  exact ⟨⟨_, he, rfl⟩, h _ he ⟨_, Heap.get?_push_of_some _ (Heap.get?_push_size _ rfl), rfl, rfl⟩ fun b o q => Heap.get?_push_of_some _ (Heap.get?_push_of_some _ q)⟩
end EnT
namespace DL
open PySem PySem.Spec PyProof.Rows L2
/-- the tuple at a, its items with their numbers -/
def IteT (K : PySem.W.Frag) (a : Addr) : It where
  go := fun i G => ∃ (xs : List V) (x : V), SqT K G a xs ∧ xs[i]? = some x
  yld := fun i G v G2 => ∃ T x, v = .ref T ∧ G T = none ∧ G2 = upd G T (.tup [.int (i : Nat), x]) ∧ ∀ xs, SqT K G a xs → xs[i]? = some x
  stop := fun i G => ∃ xs : List V, SqT K G a xs ∧ xs.length ≤ i
theorem turn_enumT {P : Program} {w : World} {K : PySem.W.Frag} {elts : List Expr} {kk : Nat} {tpos : Pos} (a e it : Addr) :
    Turn P w K (.Tuple elts kk tpos) (IteT K a) [e, it] e (fun i h => (∃ old, IsEnum h e it ((i : Nat) : Int) old) ∧ h.IsTupleIter it a i ∧ e ≠ it) where
  mem := by simp
  obj := fun i h ⟨⟨old, he⟩, ⟨o, ho, hc, hd⟩, _⟩ b hb => by
    have hb : b = e ∨ b = it := by simpa using hb
    rcases hb with rfl | rfl
    · exact ⟨_, he, fun v q => nomatch q⟩
    · exact ⟨o, ho, fun v q => by rw [hd] at q; cases q⟩
  keep := fun i h h2 ⟨⟨old, he⟩, hi, ne⟩ k => ⟨⟨old, k e (by simp) _ he⟩, EnT.at_ext hi fun o q => k it (by simp) o q, ne⟩
  item := by
    intro X hP hw hK hc i pins s σ G E I hf ⟨⟨old, he⟩, hit, ne⟩ ⟨xs, x, hq, hx⟩
    subst hP hw hK
    obtain ⟨its, rv, p, hz⟩ := I.tuple hq
    obtain ⟨u, hu, ru⟩ := rv.get hx
    have le : e < s.heap.objs.size := Heap.lt_size he
    have li : it < s.heap.objs.size := by obtain ⟨_, q, _⟩ := hit; exact Heap.lt_size q
    refine EnT.pyNext_item he hit (items := its.toArray) p (x := u) (by simpa using hu) ne fun h2 ho hi2 hT sz hk => ⟨_, rfl, wpAny_letOwnedTupleGo_enum (s := { s with heap := h2, toks := s.toks + 1 }) ho fun h3 he3 sb => ?_⟩
    have hT3 : h3.get? s.heap.objs.size = some { cls := .type "tuple", data := .seq #[.int i s.toks, u] } := (sb.2 _ (Nat.ne_of_gt le)).trans hT
    have new : ObjOk X.prog X.w (upd G s.heap.objs.size (.tup [.int (i : Nat), x])) h3 s.heap.objs.size (.tup [.int (i : Nat), x]) := ⟨by show 2 ≤ sizeLine; decide, [.int i s.toks, u], .cons ⟨_, rfl⟩ (.cons ru .nil), ⟨_, hT3, rfl, _, rfl⟩⟩
    have J : Inv X pins σ (upd G s.heap.objs.size (.tup [.int (i : Nat), x])) { s with heap := h3, toks := s.toks + 1 } :=
      I.turnedNew (ch := [e, it]) (fun b ob hb q => (sb.2 b (fun z => hb (by simp [z]))).trans (hk b ob (fun z => hb (by simp [z])) (fun z => hb (by simp [z])) q)) hf (Nat.le_refl _) new
    refine ⟨.ref s.heap.objs.size, _, J, rfl, ⟨_, x, rfl, I.hok.fresh (Nat.le_refl _), rfl, fun ys hy => by rw [I.tuple_inj hy hq]; exact hx⟩, ⟨⟨u, ?_⟩, EnT.at_ext hi2 fun o q => (sb.2 it ne.symm).trans q, ne⟩, fun b hb => ?_⟩
    · rw [show ((i + 1 : Nat) : Int) = (i : Int) + 1 by omega]
      exact he3
    · have hb2 : b = e ∨ b = it := by simpa using hb
      have lb : b < s.heap.objs.size := by rcases hb2 with rfl | rfl <;> assumption
      rw [upd_ne (Nat.ne_of_lt lb)]
      exact (hf b hb).1
  done := by
    intro X hP hw hK hc i pins s σ G E I hf ⟨⟨old, he⟩, hit, ne⟩ ⟨xs, hq, hx⟩
    subst hP hw hK
    obtain ⟨its, rv, p, hz⟩ := I.tuple hq
    obtain ⟨f0, f1, f2, f3, f4, f5⟩ := hf it (by simp)
    have hl := rv.length
    exact EnT.pyNext_end (I.ok.hd hc) he hit (items := its.toArray) p (by simp; omega) fun h2 eb => ⟨rfl, I.turned (t' := s.toks) (fun b o hb q => eb b o hb q) f0 f1 f3 f4 f5⟩
  self := fun A i s Q E ⟨⟨_, he⟩, _⟩ h => wpAny_pyIter_enum he h
def iEnumT (K : PySem.W.Frag) (ta : TA) : TI := fun σ G R => ta σ G fun vs G1 => ∃ a xs, vs = [.ref a] ∧ SqT K G1 a xs ∧ R (IteT K a) G1
section
variable {X : Cx} {c : Fc} {W : WX}
theorem pi_enumT {e : Expr} {ta : TA} {p pos tpos : Pos} {elts : List Expr} {kk : Nat} (hg : Gl X "enumerate") (hm : X.mg "enumerate" = none) (ha : PA X [e] ta) (hs : starEach [e] X.env = [(false, eval e X.env)] := by rfl) :
    PI X (.Tuple elts kk tpos) (.Call (.Name "enumerate" p) [e] [] pos) (iEnumT X.K ta) := by
  refine ⟨fun pins s σ G R I h => Call_ (ld_blt I hg hm boot_enumerate (PyProof.Rows.callWith_type1 (thn (ha.run pos pins s σ G _ I h) fun us s1 ⟨vs, G1, I1, r1, a, xs, ex, hq, q⟩ => ?_) hs rfl))⟩
  subst ex
  obtain ⟨u, rfl, ru⟩ := r1.one
  obtain rfl : u = Value.ref a := ru
  obtain ⟨its, rv, p', hz⟩ := I1.tuple hq
  refine EnT.call_new (items := its.toArray) p' fun h2 he hit hk => wpAny_pyIter_enum he ?_
  refine ⟨s1.heap.objs.size + 1, [s1.heap.objs.size + 1, s1.heap.objs.size], _, _, G1, rfl, I1.kept (t' := s1.toks) hk, turn_enumT a (s1.heap.objs.size + 1) s1.heap.objs.size, ⟨⟨.none, he⟩, hit, Nat.succ_ne_self _⟩, fun b hb => ?_, q⟩
  have hb2 : b = s1.heap.objs.size + 1 ∨ b = s1.heap.objs.size := by simpa using hb
  have le : s1.heap.objs.size ≤ b := by
    rcases hb2 with z | z
    · rw [z]; exact Nat.le_succ _
    · rw [z]; exact Nat.le_refl _
  exact I1.fpOk le (I1.hok.fresh le)
theorem serve_enumT {K : PySem.W.Frag} {p : Addr} {items : List D} : Serve K (IteT K p) (.ref p) (.tup items) (enumL items) := by
  have sq : ∀ {F H : Hp}, Same F H → Rep K F (.ref p) (.tup items) → ∃ vs, SqT K H p vs ∧ RepL K F vs items := fun {F H} s r => by
    cases r with | tup s1 r1 => exact ⟨_, SqT.of (s _ _ s1), r1⟩
  have hl : (enumL items).length = items.length := by simp [enumL]
  refine ⟨fun i F H s r hi => ?_, fun i F H s r hi => ?_, fun i F H x H' s r y d hd => ?_⟩
  · obtain ⟨vs, h, rl⟩ := sq s r
    rw [hl] at hi
    obtain ⟨v, e, _⟩ := rl.get (List.getElem?_eq_getElem hi)
    exact ⟨vs, v, h, e⟩
  · obtain ⟨vs, h, rl⟩ := sq s r
    exact ⟨vs, h, by rw [rl.len, ← hl]; exact hi⟩
  · obtain ⟨vs, h, rl⟩ := sq s r
    obtain ⟨T, z, rfl, nT, rfl, y⟩ := y
    have hi : i < items.length := by rw [← hl]; exact set_lt hd
    obtain ⟨v, e, rv⟩ := rl.get (List.getElem?_eq_getElem hi)
    rw [y vs h] at e
    cases e
    have : d = .tup [.int (i : Nat), items[i]] := by
      unfold enumL at hd
      rw [List.getElem?_map, List.getElem?_zipIdx, List.getElem?_eq_getElem hi] at hd
      simpa using hd.symm
    subst this
    exact ⟨_, Ext.new s nT, .tup upd_same (.cons (.int _) (.cons (rv.mono (same_upd (Same.refl F) (s.free nT))) .nil))⟩
def enumTI (ta : TDA) : TDI := fun δ Q E => ta δ (fun as δ1 => ∃ xs, as = [.d (.tup xs)] ∧ Q (enumL xs) δ1) E
theorem pid_enumT {e : Expr} {ta : TDA} {p pos tpos : Pos} {elts : List Expr} {kk : Nat} (hg : Gl X "enumerate") (hm : X.mg "enumerate" = none) (ha : PA X [e] (LA X.K c W ta)) (hs : starEach [e] X.env = [(false, eval e X.env)] := by rfl) : PI X (.Tuple elts kk tpos) (.Call (.Name "enumerate" p) [e] [] pos) (LI X.K c W (enumTI ta)) :=
  PI_imp (pi_enumT hg hm ha hs) fun σ H R ⟨δ, tmp, Qd, Ed, S, q, k, w⟩ => ⟨δ, tmp, _, _, S, q, fun vs as δ' F ow H' ⟨xs, e, q'⟩ S' ra => by
    subst e
    cases ra with
    | d h t =>
      cases t
      have h0 := h
      cases h with | tup s1 r1 => exact ⟨_, _, rfl, SqT.of (S'.fh _ _ s1), k _ _ _ _ _ _ q' serve_enumT ⟨F, ow, S'.push h0⟩⟩, w⟩
end
/-- one way or the other -/
def orI (t u : TDI) : TDI := fun δ Q E => t δ Q E ∨ u δ Q E
theorem PI.or {X : Cx} {c : Fc} {W : WX} {tg e : Expr} {t u : TDI} (h1 : PI X tg e (LI X.K c W t)) (h2 : PI X tg e (LI X.K c W u)) : PI X tg e (LI X.K c W (orI t u)) :=
  ⟨fun pins s σ H R I ⟨δ, tmp, Qd, Ed, S, q, k, w⟩ => q.elim (fun q => h1.run pins s σ H R I ⟨δ, tmp, Qd, Ed, S, q, k, w⟩) fun q => h2.run pins s σ H R I ⟨δ, tmp, Qd, Ed, S, q, k, w⟩⟩
end DL
namespace DR
open PySem PySem.Spec PyProof.Rows L2 DL
end DR

set_option Elab.async false
set_option linter.all false
set_option maxRecDepth 100000
/-! zip of three lists -/
namespace Z3
open PySem
open PySem.Sem (wp)
section
variable {prog : Program} {w : World} {A : Around} {E : Value → Shared → Prop} {s : Shared}
variable {n l1 l2 l3 : Nat} {i : Nat} {xs ys zs : Array Value} {x y z a b c : Value}
end
/-! ### making one -/
end Z3

set_option Elab.async false
set_option linter.all false
set_option maxRecDepth 100000
namespace DL
open PySem PySem.Spec PyProof.Rows L2
section
variable {X : Cx} {c : Fc} {W : WX}
end
end DL
namespace DR
open PySem PySem.Spec PyProof.Rows L2 DL
end DR

set_option Elab.async false
set_option linter.all false
set_option maxRecDepth 100000
/-! equality of plain data -/
namespace DL
open PySem PySem.Spec PyProof.Rows L2
/-- may be compared, n deep at most -/
def Dp_ (n : Nat) (d : D) : Prop := d.isPy = true ∧ d.py.depth ≤ n
theorem Dp_.cmp {n : Nat} {d : D} (h : Dp_ n d) (l : n ≤ 64 := by decide) : Cmp d := ⟨h.1, Nat.le_trans h.2 l⟩
theorem dp_str {x : Str} : Dp_ 1 (.str x) := ⟨rfl, by simp [D.py, PyData.depth]⟩
theorem dp_int {x : Int} : Dp_ 1 (.int x) := ⟨rfl, by simp [D.py, PyData.depth]⟩
theorem dp_all {n : Nat} : ∀ {ds : List D}, (∀ d ∈ ds, Dp_ n d) → isPyL ds = true ∧ PyData.depthAll (pyL ds) ≤ n
  | [], _ => ⟨rfl, by simp [pyL, PyData.depthAll]⟩
  | d :: ds, h => by
    obtain ⟨a, b⟩ := dp_all fun e he => h e (List.mem_cons_of_mem _ he)
    obtain ⟨c, e⟩ := h d List.mem_cons_self
    refine ⟨by simp [isPyL, a, c], ?_⟩
    simp [pyL, PyData.depthAll]
    omega
theorem dp_tup {n : Nat} {ds : List D} (h : ∀ d ∈ ds, Dp_ n d) : Dp_ (n + 1) (.tup ds) := by
  obtain ⟨a, b⟩ := dp_all h
  refine ⟨a, ?_⟩
  simp [D.py, PyData.depth]
  omega
theorem dp_lst {n : Nat} {ds : List D} (h : ∀ d ∈ ds, Dp_ n d) : Dp_ (n + 1) (.lst ds) := by
  obtain ⟨a, b⟩ := dp_all h
  refine ⟨a, ?_⟩
  simp [D.py, PyData.depth]
  omega
theorem dp_map {α : Type} {n : Nat} {r : α → D} {l : List α} (h : ∀ a ∈ l, Dp_ n (r a)) : ∀ d ∈ l.map r, Dp_ n d := fun d hd => by
  obtain ⟨a, ha, rfl⟩ := List.mem_map.mp hd
  exact h a ha
theorem eqv_str {a b : Str} : PyData.eqv (D.str a).py (D.str b).py = decide (a = b) := by
  simp only [D.py, PyData.eqv]
  by_cases h : a = b <;> simp [h]
theorem eqv_int {a b : Int} : PyData.eqv (D.int a).py (D.int b).py = decide (a = b) := by
  simp only [D.py, PyData.eqv]
  by_cases h : a = b <;> simp [h]
theorem eqv_all {α : Type} [DecidableEq α] {r : α → D} (h : ∀ a b, PyData.eqv (r a).py (r b).py = decide (a = b)) : ∀ {l k : List α}, PyData.eqvAll (pyL (l.map r)) (pyL (k.map r)) = decide (l = k)
  | [], [] => by simp [pyL, PyData.eqvAll]
  | [], _ :: _ => by simp [pyL, PyData.eqvAll]
  | _ :: _, [] => by simp [pyL, PyData.eqvAll]
  | a :: l, b :: k => by
    simp only [List.map_cons, pyL, PyData.eqvAll, h, eqv_all h]
    by_cases e : a = b <;> by_cases e2 : l = k <;> simp [e, e2]
theorem eqv_tups {α : Type} [DecidableEq α] {r : α → D} (h : ∀ a b, PyData.eqv (r a).py (r b).py = decide (a = b)) {l k : List α} : PyData.eqv (D.tup (l.map r)).py (D.tup (k.map r)).py = decide (l = k) := by
  simp only [D.py, PyData.eqv]
  exact eqv_all h
theorem eqv_lsts {α : Type} [DecidableEq α] {r : α → D} (h : ∀ a b, PyData.eqv (r a).py (r b).py = decide (a = b)) {l k : List α} : PyData.eqv (D.lst (l.map r)).py (D.lst (k.map r)).py = decide (l = k) := by
  simp only [D.py, PyData.eqv]
  exact eqv_all h
theorem eqd_t {x y : D} {b : Bool} {Q : D → Prop} (c1 : Cmp x) (c2 : Cmp y) (h : PyData.eqv x.py y.py = b) (k : Q (.bl b)) : eqP false x y Q := ⟨c1, c2, by rw [if_neg Bool.false_ne_true, h]; exact k⟩
theorem eqd_f {x y : D} {b : Bool} {Q : D → Prop} (c1 : Cmp x) (c2 : Cmp y) (h : PyData.eqv x.py y.py = b) (k : Q (.bl (!b))) : eqP true x y Q := ⟨c1, c2, by rw [if_pos rfl, h]; exact k⟩
theorem eqv_strs (a b : Str) : PyData.eqv (D.str a).py (D.str b).py = decide (a = b) := eqv_str
theorem eqv_ints (a b : Int) : PyData.eqv (D.int a).py (D.int b).py = decide (a = b) := eqv_int
end DL

set_option Elab.async false
set_option linter.all false
set_option maxRecDepth 100000
set_option maxHeartbeats 2000000
/-! DL30: an own exception class made without an argument. -/
namespace DL
open PySem PySem.Spec PyProof.Rows L2
/-- what the top has written of an exception class without __init__ -/
structure Oex0 (K : PySem.W.Frag) (C : Addr) : Prop where
  ex : PySem.W.excIn K C [.type "ValueError", .type "Exception", .type "BaseException", .type "object"] "ValueError.__new__" = true
  kp : PySem.W.keepIn K (.ref C) = true
  sb : PySem.W.subIn K (.ref C) (.type "BaseException") = some true
  ty : PySem.W.typeIn K (.ref C) = some (.type "type")
section
variable {X : Cx}
theorem pmk_own0 {C : Addr} {x : Str} {p pos : Pos} (O : Oex0 X.K C) (gC : X.mg x = some (.ref C)) (hg : Gl X x) (hdb : (x == ("__debug__" : Str)) = false := by decide) :
    PMk X (.Call (.Name x p) [] [] pos) (fun _ H Q => Q (.ref C) none H) := by
  intro pins s σ H Q I h
  refine wpAny_Call_Name_kw (ld_glob I hg gC ?_ hdb)
  refine PySem.W.callWith_K0 I.kIn O.kp ?_
  obtain ⟨bm, N, nm, qn, bs, hdct, sn, sub, ab, col, dd, k0, k1, k2, k3, k5, mN, hC, hN, hni, T⟩ := exc_obj I.kIn O.ex
  refine wpAny_call_exc_subT PySem.F.excBase_ValueError T hC hN hni (fun h' e hm => ?_) (by show 0 ≤ sizeLine; omega)
  exact mk_of I hm (raises_own O.sb O.ty) h (I.hok.gone hm.new)
end
end DL

set_option Elab.async false
set_option linter.all false
set_option maxRecDepth 100000
set_option maxHeartbeats 2000000
/-! DL31: a try whose suite knows the exception's address; isinstance of what was caught. -/
namespace DL
open PySem PySem.Spec PyProof.Rows L2
section
variable {X : Cx} {c : Fc} {W : WX} {pos : Pos}
def tryDA (K : PySem.W.Frag) (cv : Value) (i : Nat) (tb : TDS) (ts : Addr → Value → Option Addr → TDS) : TDS := fun D δ =>
  tb { D with ex := fun x δ1 => ∃ b, PySem.W.exmOne K (.ref x.C) cv = some b ∧
    (b = true → ∀ a dd, (x.fs = none → dd = none) → ts a (.ref x.C) dd { nx := fun δ2 => D.nx (δ2.set i none), rt := D.rt, ex := noX, bk := fun δ2 => D.bk (δ2.set i none), ct := fun δ2 => D.ct (δ2.set i none) } (δ1.set i (some (.d (.exc a (.ref x.C) dd x.C x.fs))))) ∧ (b = false → D.ex x δ1) } δ
theorem psd_tryA (K : PySem.W.Frag) (hK : X.K = K) {x n : Str} {cv : Value} {i : Nat} {body suite : List Stmt} {b₀ : Stmt} {np pos pos' : Pos} {tb : TDS} {ts : Addr → Value → Option Addr → TDS} (ni : i ∉ c.sl) (hs : X.stack = X.env :: X.outer) (hf : X.env.frame = some X.env.locals) (hN : X.N.Nodup) (hi : X.N[i]? = some n) (hln : X.env.kindOf n = some .local) (hc : Names X x cv) (tk : Takes X W)
    (hb : ∀ (W : WX) (pn : List (Addr × Obj)) (xe : Value → Shared → Prop), Takes (X.tr pn xe) W → PassesOwn (model X.prog X.w) X.A X.env xe → PSs (X.tr pn xe) body (LS X.K c W tb))
    (hsu : ∀ (a : Addr) (oe : Obj) (cls : Value) (d : Option Addr) (pn : List (Addr × Obj)), Zc cls d oe → (∃ vs, oe.data = .fields vs) → PSs (X.suite a ((a, oe) :: pn)) (b₀ :: suite) (LS X.K c W0 (ts a cls d))) :
    PS X (.Try body [.ExceptHandler (some (.Name x np)) (some n) (b₀ :: suite) pos'] [] [] pos) (LS X.K c W (tryDA K cv i tb ts)) := by
  subst hK
  exact PS_imp (ps_try_as (tb := fun W => LS X.K c W tb) (ts := fun a cls d => LS X.K c W0 (ts a cls d)) hs hf hN hi hln hc tk hb hsu) fun D σ H ⟨δ, tmp, Dd, S, q, k, kr, kb, kc, w⟩ => by
    refine ⟨δ, tmp, _, S, q, k, kr, kb, kc, fun y δ1 σ1 H1 F ow cls d ⟨b, eb, yes, no⟩ S1 er => ?_⟩
    obtain ⟨C, fs⟩ := y
    obtain ⟨rfl, er'⟩ := id er
    refine ⟨b, eb, fun hb a na => ?_, fun hb => w _ _ _ _ F ow _ d (no hb) S1 er⟩
    have hn : fs = none → d = none := fun e => by subst e; exact er'
    have rx : Rep X.K F (.ref a) (.exc a (.ref C) d C fs) := by
      cases fs with
      | none => obtain rfl : d = none := er'; exact .exc0
      | some fs => obtain ⟨dd, vs, rfl, e2, e3⟩ := er'; exact .exc e2 e3
    exact ⟨_, tmp, _, (S1.push rx).set' ni, yes hb a d hn, fun δ2 σ2 H2 q2 ⟨F2, ow2, S2⟩ => k _ _ _ q2 ⟨F2, ow2, S2.del ni⟩, kr, fun δ2 σ2 H2 q2 ⟨F2, ow2, S2⟩ => kb _ _ _ q2 ⟨F2, ow2, S2.del ni⟩, fun δ2 σ2 H2 q2 ⟨F2, ow2, S2⟩ => kc _ _ _ q2 ⟨F2, ow2, S2.del ni⟩, fun _ _ _ _ _ _ _ _ z => z.elim⟩
/-! ### isinstance(e, c) -/
def rIsXc (K : PySem.W.Frag) (a : Addr) (cls : Value) (d : Option Addr) : List V → Hp → VK → Prop := fun xs H Q => ∃ (D : Addr) (c : V) (cv : Value) (b : Bool),
  xs = [.ref a, c] ∧ cls = .ref D ∧ (d = none ∨ ∃ dd fs, d = some dd ∧ H dd = some (.xd fs)) ∧ ExcC K D ∧ (∀ u, RelV c u → u = cv) ∧ PySem.W.kitOne K (.ref D) cv = some b ∧ Q (.bl b) H
theorem call_isXc {a : Addr} {oe : Obj} {pn : List (Addr × Obj)} {cls : Value} {d : Option Addr} (hz : Zc cls d oe) (hf : ∃ vs, oe.data = .fields vs) : CallR (X.suite a ((a, oe) :: pn)) (.builtin "isinstance") (rIsXc X.K a cls d) := by
  intro pins s σ H xs us Q I r h
  obtain ⟨D, c, cv, b, rfl, rfl, hd, T, hcv, e, q⟩ := h
  rcases hd with rfl | ⟨dd, fs, rfl, hdd⟩
  · exact call_isE T hz hf pins s σ H _ us Q I r ⟨c, cv, b, rfl, hcv, e, q⟩
  obtain ⟨u1, u2, rfl, r1, r2⟩ := vals2 r
  cases (show u1 = Value.ref a from r1)
  have e2 := hcv _ r2
  subst e2
  have hget := (I.pin (a, oe) (List.mem_append.mpr (.inl List.mem_cons_self))).1
  obtain ⟨vs, hd⟩ := hf
  obtain ⟨mA, hns, _⟩ := (show ObjOk X.prog X.w H s.heap dd (.xd fs) from I.hok dd _ hdd)
  obtain ⟨od, ho, _⟩ := lookIn_ns hns
  have J : PySem.W.InstAt s.heap a oe D (some od) := ⟨hget, hz.1, by unfold PySem.W.notCls; rw [hd] <;> rfl, by rw [hz.2]; exact ho⟩
  have hc : (PySem.W.clsIn X.K D).isSome = true := by
    obtain ⟨cd, hc, _⟩ := PySem.W.any_some T.hd
    rw [hc] <;> rfl
  exact PySem.W.kia_one (PySem.W.kitx_exc hc T.hg T.hk T.hs T.ha T.hn T.ht T.hm) I.kIn J e (fun z => nomatch z) fun tk => ⟨.bl b, H, I.kept (t' := tk) fun _ _ z => z, rfl, q⟩
theorem rel_adr {K : PySem.W.Frag} {F : Hp} {v : V} {C : Addr} (r : Rep K F v (.adr C)) : ∀ u, RelV v u → u = .ref C := by
  cases r
  intro u h
  exact h
abbrev isXcS (K : PySem.W.Frag) (a : Addr) (cls : Value) (d : Option Addr) : RDNs := fun ds Q => ∃ (C C2 : Addr) (fs : Option (List (Str × D))) (b : Bool), ds = [.exc a (.ref C) d C fs, .adr C2] ∧ cls = .ref C ∧ ExcC K C ∧ PySem.W.kitOne K (.ref C) (.ref C2) = some b ∧ Q (.bl b)
theorem cn_isXc {K : PySem.W.Frag} {a : Addr} {cls : Value} {d : Option Addr} : CallNs K (rIsXc K a cls d) (isXcS K a cls d) := fun xs ds F H Q Qd s r ⟨C, C2, fs, b, e, hc, T, hk, q⟩ k => by
  subst e
  cases r with
  | cons r t =>
    cases t with
    | cons r2 t =>
      cases t
      cases r with
      | exc0 => exact ⟨C, _, _, b, rfl, hc, .inl rfl, T, rel_adr r2, hk, k _ _ q rfl⟩
      | exc s1 h => exact ⟨C, _, _, b, rfl, hc, .inr ⟨_, _, rfl, s _ _ s1⟩, T, rel_adr r2, hk, k _ _ q rfl⟩
end
end DL
namespace DR
open PySem PySem.Spec PyProof.Rows L2 DL
theorem trya {K : PySem.W.Frag} {cv : Value} {i : Nat} {tb : TDS} {ts : Addr → Value → Option Addr → TDS} {D : EndsD} {δ : DSt} (h : tb { D with ex := fun x δ1 => ∃ b, PySem.W.exmOne K (.ref x.C) cv = some b ∧
    (b = true → ∀ a dd, (x.fs = none → dd = none) → ts a (.ref x.C) dd { nx := fun δ2 => D.nx (δ2.set i none), rt := D.rt, ex := noX, bk := fun δ2 => D.bk (δ2.set i none), ct := fun δ2 => D.ct (δ2.set i none) } (δ1.set i (some (.d (.exc a (.ref x.C) dd x.C x.fs))))) ∧ (b = false → D.ex x δ1) } δ) : tryDA K cv i tb ts D δ := h
end DR

set_option Elab.async false
set_option linter.all false
set_option maxRecDepth 100000
set_option maxHeartbeats 2000000
/-! DL32: a, b, c = x, y, z with plain local names. -/
namespace DL
open PySem PySem.Spec PyProof.Rows L2
def par3D (i j l : Nat) (oi oj ol : Bool) (t : TDK) : TDS := fun D δ => t δ (fun xs δ1 => ∃ x y z, xs = [x, y, z] ∧ D.nx (((δ1.set l (some (asD ol z))).set j (some (asD oj y))).set i (some (asD oi x)))) D.ex
section
variable {X : Cx} {c : Fc} {W : WX}
theorem psd_par3 {i j l : Nat} {oi oj ol : Bool} {x y z : Str} {a b e : Expr} {t : TDK} {px py pz pt pos : Pos} {kt k2 pt2} (ha : PA X [a, b, e] (LK X.K c W t)) (ni : i ∉ c.sl) (nj : j ∉ c.sl) (nl : l ∉ c.sl) (h : ∀ {ta : TA}, PA X [a, b, e] ta → PS X (.Assign [.Tuple [.Name x px, .Name y py, .Name z pz] k2 pt2] (.Tuple [a, b, e] kt pt) pos) (tPar3 i j l ta)) (hij : i ≠ j) (hil : i ≠ l) (hjl : j ≠ l) :
    PS X (.Assign [.Tuple [.Name x px, .Name y py, .Name z pz] k2 pt2] (.Tuple [a, b, e] kt pt) pos) (LS X.K c W (par3D i j l oi oj ol t)) :=
  PS_imp (h ha) fun D σ H ⟨δ, tmp, Dd, S, q, k, kr, kb, kc, w⟩ => ⟨δ, tmp, _, _, S, q, fun vs xs δ' H' ⟨x, y, z, e, q'⟩ hl S' => by
    subst e
    match vs, hl with
    | [v, u, s], _ =>
      obtain ⟨F, ow, S'⟩ := S'
      have S2 : SttF X.K c F ow δ' ((s, z) :: (u, y) :: (v, x) :: tmp) σ H' := S'
      obtain ⟨F3, S3⟩ := S2.top_as ol
      obtain ⟨F4, ow4, S4⟩ := S3.set' nl
      obtain ⟨F5, S5⟩ := S4.top_as oj
      obtain ⟨F6, ow6, S6⟩ := S5.set' nj
      obtain ⟨F7, S7⟩ := S6.top_as oi
      refine ⟨v, u, s, rfl, k _ _ _ q' ?_⟩
      rw [List.set_comm _ _ hjl, List.set_comm _ _ hil, List.set_comm _ _ hij]
      exact S7.set' ni, w⟩
end
end DL
namespace DR
open PySem PySem.Spec PyProof.Rows L2 DL
theorem par3 {i j l : Nat} {oi oj ol : Bool} {t : TDK} {D : EndsD} {δ : DSt} (h : t δ (fun xs δ1 => ∃ x y z, xs = [x, y, z] ∧ D.nx (((δ1.set l (some (asD ol z))).set j (some (asD oj y))).set i (some (asD oi x)))) D.ex) : par3D i j l oi oj ol t D δ := h
end DR

set_option Elab.async false
set_option linter.all false
set_option maxRecDepth 100000
set_option maxHeartbeats 2000000
/-! DL33: several except clauses whose suites know what was caught; a field of it. -/
namespace DL
open PySem PySem.Spec PyProof.Rows L2
/-! ### e.f of what was caught -/
def xfD (a : Addr) (cls : Value) (d : Option Addr) (C : Addr) (f : Str) (t : TD) : TD := fun δ Q E => t δ (fun o δ1 => ∃ fs v, o.toD = .exc a (.ref C) d C (some fs) ∧ cls = .ref C ∧ fs.lookup f = some v ∧ Q (.d v) δ1) E
theorem pd_xf {X : Cx} {c : Fc} {W : WX} {a C : Addr} {oe : Obj} {cls : Value} {d : Option Addr} {pn : List (Addr × Obj)} {e : Expr} {t : TD} {pos : Pos} {n : Str} (T : XfC X.K C) (hno : PySem.W.findIn X.K (.ref C) n = some none)
    (hz : Zc cls d oe) (hf : ∃ vs, oe.data = .fields vs) (he : PE (X.suite a ((a, oe) :: pn)) e (LE X.K c W t)) (hb : attributeBase e n X.env (eval e X.env) = eval e X.env := by rfl) :
    PE (X.suite a ((a, oe) :: pn)) (.Attribute e n pos) (LE X.K c W (xfD a cls d C n t)) :=
  PE_imp (pe_xf T hno hz hf he hb) fun σ H Q ⟨δ, tmp, Qd, Ed, S, q, k, w⟩ => ⟨δ, tmp, _, _, S, q, fun v o δ' H' ⟨fs, x, eo, ec, el, q'⟩ ⟨F, ow, S'⟩ => by
    obtain ⟨F', S2, _⟩ := S'.top_frz
    rw [eo] at S2
    cases S2.top with
    | exc s h =>
      obtain ⟨u, e1, r⟩ := (RepF.lookup h).2 x el
      exact ⟨rfl, ec, _, _, u, rfl, S2.fh _ _ s, e1, k _ _ _ _ q' ⟨F', ow, S2.pop.push r⟩⟩, w⟩
end DL
namespace DR
open PySem PySem.Spec PyProof.Rows L2 DL
theorem xf {a : Addr} {cls : Value} {d : Option Addr} {C : Addr} {f : Str} {t : TD} {δ : DSt} {Q : DK} {E : XD} (h : t δ (fun o δ1 => ∃ fs v, o.toD = .exc a (.ref C) d C (some fs) ∧ cls = .ref C ∧ fs.lookup f = some v ∧ Q (.d v) δ1) E) : xfD a cls d C f t δ Q E := h
end DR

set_option Elab.async false
set_option linter.all false
set_option maxRecDepth 100000
set_option maxHeartbeats 2000000
/-! DL34: try .. except X: without a name. -/
namespace DL
open PySem PySem.Spec PyProof.Rows L2
end DL
namespace DR
open PySem PySem.Spec PyProof.Rows L2 DL
end DR

set_option Elab.async false
set_option linter.all false
set_option maxRecDepth 100000
/-! DL35: own errors whose __init__ sets fields (the last one set stands first) -/
namespace DL
open PySem PySem.Spec PyProof.Rows L2
def ErrR (K : PySem.W.Frag) (B : Addr) (ns : List Str) : Sp := fun vs H Q _ => ∃ (a : Addr) (xs : List V), vs = .ref a :: xs ∧ xs.length = ns.length ∧ H a = some (exo a B none) ∧ ∀ d, H d = none → d ≠ a → Q .non (upd (upd H d (exd d (ns.zip xs).reverse)) a (exo a B (some d)))
theorem repF_app {K : PySem.W.Frag} {F : Hp} : ∀ {vs us : List (Str × V)} {ds es : List (Str × D)}, RepF K F vs ds → RepF K F us es → RepF K F (vs ++ us) (ds ++ es)
  | _, _, _, _, .nil, g => g
  | _, _, _, _, .cons h t, g => .cons h (repF_app t g)
theorem repF_rev {K : PySem.W.Frag} {F : Hp} : ∀ {vs : List (Str × V)} {ds : List (Str × D)}, RepF K F vs ds → RepF K F vs.reverse ds.reverse
  | _, _, .nil => .nil
  | _, _, .cons h t => by
    rw [List.reverse_cons, List.reverse_cons]
    exact repF_app (repF_rev t) (.cons h .nil)
section
variable (P : Program) (w : World) (K : PySem.W.Frag) (mg : Str → Option Value) (base : Heap)
structure DefX (x : Str) (B : Addr) (ns : List Str) where
  f : Addr
  fd : FuncData
  ps : List Str
  ox : OexC K B
  ini : PySem.W.findIn K (.ref B) "__init__" = some (some (.ref f))
  ty : PySem.W.typeIn K (.ref f) = some (.type "function")
  ok : FnOk P w K mg base CX0 1 f fd ps (ErrR K B ns)
  b : Binds K fd ps []
  mg : mg x = some (.ref B)
end
section
variable {P : Program} {w : World} {K : PySem.W.Frag} {mg : Str → Option Value} {base : Heap} {B : Addr}
theorem ok_err1 {qual n : Str} {st : Stmt} {f : Addr} {fd : FuncData} (F : Fun K "__init__" qual st f fd) (sc : FnScope ["self", n] ["self", n] (defScope st)) (ox : OexC K B) (nw : PySem.W.findIn K (.ref B) n = some none)
    (ht : ∀ (cdv : Value) (A : Around) (outer : List Env) (s : Shared) (H : Hp) (E : XK), PSs (cxOf CX0 P w K mg base ["self", n] qual (defScope st) f cdv A outer s H E).nox (defBody st) (tOst K n (tVar 0) (tVar 1))) :
    FnOk P w K mg base CX0 1 f fd ["self", n] (ErrR K B [n]) := by
  refine F.ok sc (fun vs H Q E h => ?_) (fun cdv A outer s H vs Q E hr h => ?_)
  · obtain ⟨a, xs, rfl, hl, _⟩ := h
    match xs, hl with
    | [_], _ => rfl
  · obtain ⟨a, xs, rfl, hl, ha, k⟩ := h
    obtain ⟨x, rfl⟩ : ∃ x, xs = [x] := by
      match xs, hl with
      | [x], _ => exact ⟨x, rfl⟩
    refine ⟨_, ht cdv A outer s H E, ?_⟩
    refine ⟨x, rfl, .ref a, rfl, a, B, rfl, ox, nw, .inl ⟨ha, fun dx n ne => ?_⟩⟩
    exact k dx n ne
theorem ok_err2 {qual n m : Str} {st : Stmt} {f : Addr} {fd : FuncData} (F : Fun K "__init__" qual st f fd) (sc : FnScope ["self", n, m] ["self", n, m] (defScope st)) (ox : OexC K B) (nw : PySem.W.findIn K (.ref B) n = some none) (nw2 : PySem.W.findIn K (.ref B) m = some none)
    (ht : ∀ (cdv : Value) (A : Around) (outer : List Env) (s : Shared) (H : Hp) (E : XK), PSs (cxOf CX0 P w K mg base ["self", n, m] qual (defScope st) f cdv A outer s H E).nox (defBody st) (tSeq (tOst K n (tVar 0) (tVar 1)) (tOst K m (tVar 0) (tVar 2)))) :
    FnOk P w K mg base CX0 1 f fd ["self", n, m] (ErrR K B [n, m]) := by
  refine F.ok sc (fun vs H Q E h => ?_) (fun cdv A outer s H vs Q E hr h => ?_)
  · obtain ⟨a, xs, rfl, hl, _⟩ := h
    match xs, hl with
    | [_, _], _ => rfl
  · obtain ⟨a, xs, rfl, hl, ha, k⟩ := h
    obtain ⟨x, y, rfl⟩ : ∃ x y, xs = [x, y] := by
      match xs, hl with
      | [x, y], _ => exact ⟨x, y, rfl⟩
    refine ⟨_, ht cdv A outer s H E, ?_⟩
    refine ⟨x, rfl, .ref a, rfl, a, B, rfl, ox, nw, .inl ⟨ha, fun dx nd ne => ?_⟩⟩
    have e1 : upd (upd H dx (exd dx [(n, x)])) a (exo a B (some dx)) a = some (exo a B (some dx)) := upd_same
    have e2 : upd (upd H dx (exd dx [(n, x)])) a (exo a B (some dx)) dx = some (exd dx [(n, x)]) := by rw [upd_ne ne, upd_same]
    refine ⟨y, rfl, .ref a, rfl, a, B, rfl, ox, nw2, .inr ⟨dx, [(n, x)], e1, e2, (by show 1 ≤ 900; decide), ?_⟩⟩
    have z := k dx nd ne
    have e3 : upd (upd (upd H dx (exd dx [(n, x)])) a (exo a B (some dx))) dx (exd dx [(m, y), (n, x)]) = upd (upd H dx (exd dx (([n, m] : List Str).zip [x, y]).reverse)) a (exo a B (some dx)) := by
      funext b
      by_cases h1 : b = dx
      · subst h1; rw [upd_same, upd_ne ne, upd_same]; rfl
      · rw [upd_ne h1]
        by_cases h2 : b = a
        · subst h2; rw [upd_same, upd_same]
        · rw [upd_ne h2, upd_ne h2, upd_ne h1, upd_ne h1]
    rw [← e3] at z
    exact z
end
section
variable {X : Cx} {c : Fc} {W : WX}
def raiseR (B : Addr) (ns : List Str) (ta : TDA) : TDS := fun D δ => ta δ (fun as δ1 => ∃ ds, as = ds.map .d ∧ ds.length = ns.length ∧ ds.length ≤ 1000 ∧ D.ex ⟨B, some (ns.zip ds).reverse⟩ δ1) D.ex
theorem psd_raiseR {x : Str} {B : Addr} {ns : List Str} {e : Expr} {es : List Expr} {ta : TDA} {p pos pos2 : Pos} (hc : X.calm = true) (tk : Takes X W)
    (hk : ∀ {ta : TA}, PA X (e :: es) ta → PMk X (.Call (.Name x p) (e :: es) [] pos) (tMkO B (ErrR X.K B ns) [] ta)) (ha : PA X (e :: es) (LA X.K c W ta)) :
    PS X (.Raise (some (.Call (.Name x p) (e :: es) [] pos)) none pos2) (LS X.K c W (raiseR B ns ta)) :=
  PS_imp (ps_raise hc tk (hk ha)) fun D σ H ⟨δ, tmp, Dd, S, q, k, kr, kb, kc, w⟩ => ⟨δ, tmp, _, _, S, q, fun vs as δ1 F ow H1 ⟨ds, ea, hl, hz, q1⟩ S1 ra => by
    subst ea
    have r := args_d ra
    refine ⟨by rw [r.len]; exact hz, fun a na => ?_⟩
    refine ⟨a, vs, by rw [List.append_nil], by rw [r.len]; exact hl, upd_same, fun d nd ne => ⟨rfl, d, (ns.zip vs).reverse, upd_same, by rw [upd_ne ne, upd_same], by rwa [upd_ne ne] at nd, ?_⟩⟩
    have nd1 : H1 d = none := by rwa [upd_ne ne] at nd
    have eH : upd (del (upd (upd (upd H1 a (exo a B none)) d (exd d (ns.zip vs).reverse)) a (exo a B (some d))) a) d (.xd (ns.zip vs).reverse) = upd H1 d (.xd (ns.zip vs).reverse) := by
      funext b
      by_cases h1 : b = d
      · subst h1; rw [upd_same, upd_same]
      · rw [upd_ne h1, upd_ne h1]
        by_cases h2 : b = a
        · subst h2; rw [del_same]; exact na.symm
        · rw [del_ne h2, upd_ne h2, upd_ne h1, upd_ne h2]
    rw [eH]
    exact w _ _ _ _ _ ow _ _ q1 (S1.ext (Ext.new S1.fh nd1)) ⟨rfl, d, _, rfl, upd_same, repF_rev (repF_zip (r.mono (same_upd (Same.refl F) (S1.fh.free nd1))))⟩, w⟩
end
end DL
namespace DR
open PySem PySem.Spec PyProof.Rows L2 DL
theorem raiser {B : Addr} {ns : List Str} {ta : TDA} {D : EndsD} {δ : DSt} (h : ta δ (fun as δ1 => ∃ ds, as = ds.map .d ∧ ds.length = ns.length ∧ ds.length ≤ 1000 ∧ D.ex ⟨B, some (ns.zip ds).reverse⟩ δ1) D.ex) : raiseR B ns ta D δ := h
end DR

set_option Elab.async false
set_option linter.all false
set_option maxRecDepth 100000
/-! DL36: methods with defaults, classmethods with keywords, deep `in` of tuples, join -/
namespace DL
open PySem PySem.Spec PyProof.Rows L2
section
variable {X : Cx} {k n : Nat} {f g C : Addr} {fd : FuncData} {ps ks : List Str} {sp : Sp} {E : L2.St → XK} {x m : Str} {p pos apos : Pos} {e o : Expr} {es : List Expr} {kws : List Keyword} {t tk : TA} {to : TE} {gU : List Value → List Value → List Value} {gV : List V → List V → List V} {i : Nat}
/-! ### o.m(..) by values alone -/
/-! ### C.m(.., k = v), m a classmethod -/
end
section
variable {X : Cx} {c : Fc} {W : WX} {k n : Nat} {f g C : Addr} {fd : FuncData} {ps ks : List Str} {sd : SpD} {x m : Str} {p pos apos kpos : Pos} {e o : Expr} {es : List Expr} {kws : List Keyword} {t to : TD} {ta tk : TDA} {gU : List Value → List Value → List Value} {gV : List V → List V → List V} {i : Nat}
end
section
variable (P : Program) (w : World) (K : PySem.W.Frag) (mg : Str → Option Value) (base : Heap)
end
/-! ### x in (..), items of any depth -/
section
variable {X : Cx}
def rInT (K : PySem.W.Frag) (neg : Bool) : R2 := fun x y H Q => ∃ d ds, Dp K H x d ∧ (Dp K H y (.list ds) ∧ SeqAt.shaped (.list ds) = true ∨ Dp K H y (.tuple ds) ∧ SeqAt.shaped (.tuple ds) = true) ∧ SeqAt.shaped d = true ∧ Q (.bl (if neg then !ds.any fun z => PyData.eqv z d else ds.any fun z => PyData.eqv z d)) H
theorem op_inT (hu : X.A.units + 65 < cLine) : OpR X (compareOp .In) (rInT X.K false) := by
  intro pins s σ H x y v u Q I rx ry h
  obtain ⟨d, ds, hd, he, sd, q⟩ := h
  obtain ⟨as, r1⟩ := Dp.reads I d x v hd rx
  rcases he with ⟨he, se⟩ | ⟨he, se⟩
  · obtain ⟨bs, r2⟩ := Dp.reads I (.list ds) y u he ry
    exact SeqAt.in_list_reads r2 r1 (SeqAt.canLay_of_shaped se) (SeqAt.canLay_of_shaped sd) (room_in_shaped sd hu) ⟨.bl _, H, I, rfl, q⟩
  · obtain ⟨bs, r2⟩ := Dp.reads I (.tuple ds) y u he ry
    exact SeqAt.in_tuple_reads r2 r1 (SeqAt.canLay_of_shaped se) (SeqAt.canLay_of_shaped sd) (room_in_shaped sd hu) ⟨.bl _, H, I, rfl, q⟩
theorem op_notInT (hu : X.A.units + 65 < cLine) : OpR X (compareOp .NotIn) (rInT X.K true) := by
  intro pins s σ H x y v u Q I rx ry h
  obtain ⟨d, ds, hd, he, sd, q⟩ := h
  obtain ⟨as, r1⟩ := Dp.reads I d x v hd rx
  rcases he with ⟨he, se⟩ | ⟨he, se⟩
  · obtain ⟨bs, r2⟩ := Dp.reads I (.list ds) y u he ry
    exact SeqAt.notIn_list_reads r2 r1 (SeqAt.canLay_of_shaped se) (SeqAt.canLay_of_shaped sd) (room_in_shaped sd hu) ⟨.bl _, H, I, rfl, q⟩
  · obtain ⟨bs, r2⟩ := Dp.reads I (.tuple ds) y u he ry
    exact SeqAt.notIn_tuple_reads r2 r1 (SeqAt.canLay_of_shaped se) (SeqAt.canLay_of_shaped sd) (room_in_shaped sd hu) ⟨.bl _, H, I, rfl, q⟩
end
abbrev inTS (neg : Bool) : RD2s := fun a b Q => ∃ xs, (b = .lst xs ∨ b = .tup xs) ∧ Cmp a ∧ Cmp b ∧ Q (.bl (if neg then !(pyL xs).any fun z => PyData.eqv z a.py else (pyL xs).any fun z => PyData.eqv z a.py))
theorem op2_inT {K : PySem.W.Frag} (neg : Bool) : Op2s K (rInT K neg) (inTS neg) := fun x y a b F H Q Qd s rx ry ⟨xs, hb, ca, cb, q⟩ k => by
  refine ⟨a.py, pyL xs, dp_mono s (rx.dp ca.1), ?_, rx.shp ca, k _ _ q rfl⟩
  rcases hb with rfl | rfl
  · exact .inl ⟨dp_mono s (ry.dp cb.1), ry.shp cb⟩
  · exact .inr ⟨dp_mono s (ry.dp cb.1), ry.shp cb⟩
end DL
namespace DR
open PySem PySem.Spec PyProof.Rows L2 DL
section
variable {δ : DSt} {Q : DK} {E : XD}
end
end DR

set_option Elab.async false
set_option linter.all false
set_option maxRecDepth 100000
/-! DL37: defs with positional defaults -/
namespace DL
open PySem PySem.Spec PyProof.Rows L2
section
variable {P : Program} {w : World} {K : PySem.W.Frag} {mg : Str → Option Value} {base : Heap}
theorem okDD {x qual : Str} {pa : Arguments} {bd : List Stmt} {sc : Scope} {dvs : List V} {kws : List (Str × V)} {f : Addr} {fd : FuncData} {N ps : List Str} {k : Nat} {sd : SpD} (G : FunD K x qual pa bd sc dvs kws f fd) (S : FnScope N ps sc) (sl : List Nat) (len : ∀ as Q E, sd as Q E → as.length = ps.length ∧ ownIx as 0 = sl)
    (hbody : ∃ t : TDS, (∀ (cdv : Value) (A : Around) (outer : List Env) (s : Shared) (H : Hp) (E : XK) (ad : List Addr) (F0 H0 : Hp), Room k (A.deeper (envOfC qual sc s.heap.objs.size f cdv)) →
        PSs (cxOf (L2.CX P w) P w K mg base N qual sc f cdv A outer s H E) bd (LS K ⟨sl, ad, F0, H0⟩ (fun cls d _ H => E cls d H) t)) ∧
      ∀ as Qd Ed, sd as Qd Ed → t (endsD sl Qd Ed) (startD N.length as)) :
    FnOk P w K mg base (L2.CX P w) (k + 1) f fd ps (spOf K sd) := by
  obtain ⟨t, ht, hq⟩ := hbody
  refine G.ok (CX := L2.CX P w) S (fun vs H Q E ⟨F, as, qs, Qd, Ed, _, A, h, _⟩ => by rw [A.len]; exact (len _ _ _ h).1) fun cdv A outer s H vs Q E hr ⟨F, as, qs, Qd, Ed, sm, ar, h, kq, ke⟩ => ?_
  have hsl := (len _ _ _ h).2
  have S0 := entry (N := N) sm ar
  rw [hsl] at S0
  have hpl : qs.length = sl.length := by rw [← hsl]; exact ar.plen
  have post : ∀ {δ' : DSt} {tmp : List (V × DV)} {σ' : L2.St} {F' H' : Hp} {ow' : Addr → Option Hold} {os : List OC}, SttF K ⟨sl, qs, F, H⟩ F' ow' δ' tmp σ' H' → takeB δ' sl os → Post K F H qs os F' H' := fun {δ' tmp σ' F' H' ow' os} S' tb =>
    ⟨S'.f0, S'.fh, S'.fr, S'.up, S'.fn, takeB_reps S' hpl S'.ps tb⟩
  refine ⟨_, ht cdv A outer s H E qs F H hr, startD N.length as, [], endsD sl Qd Ed, ⟨F, _, S0⟩, hq as Qd Ed h, fun δ' σ' H' ⟨os, tb, q⟩ ⟨F', ow', S'⟩ => ?_, fun v x δ' σ' H' ⟨os, tb, q⟩ ⟨F', ow', S'⟩ => ?_, fun _ _ _ z => z.elim, fun _ _ _ z => z.elim, fun x δ' σ' H' F' ow' cls d ⟨os, tb, q⟩ S' er => ?_⟩
  · exact kq .non (.d .non) os F' H' q (post S' tb) .non
  · refine kq v x os F' H' q (post S' tb) ?_
    cases x with
    | d y => exact S'.top
    | own o =>
      obtain ⟨p, rfl, e, b, n, r⟩ := S'.tm.1
      exact ⟨p, rfl, n.t, b, r⟩
  · exact ke cls d x os F' H' q (post S' tb) er
theorem FnOk.rawB {k : Nat} {f : Addr} {fd : FuncData} {ps : List Str} {sp : Sp} {dv : List V} {ds : List Value} (F : FnOk P w K mg base (L2.CX P w) k f fd ps sp) (hb : Binds K fd ps ds) (hd : Vals dv ds) : FnR P w K mg base (L2.CX P w) k f (fun vs H Q E => vs.length + dv.length = ps.length ∧ sp (vs ++ dv) H Q E) := by
  intro A outer s H us vs Q E hr e0 r ⟨hl, hs⟩
  have hl2 : (us ++ ds).length = ps.length := by rw [List.length_append, ← r.length, ← hd.length]; exact hl
  have z := hb s us (e0.mod.kin.keeps fun b o e => (e0.bs b o e).1) hl2
  exact F.run A outer s H ⟨us, []⟩ (us ++ ds) (vs ++ dv) Q E hr e0 z (r.append hd) hs
theorem FnOk.dfltB {k n : Nat} {f : Addr} {fd : FuncData} {ps : List Str} {sd : SpD} {dv : List V} {dd : List D} {ds : List Value} (F : FnOk P w K mg base (L2.CX P w) k f fd ps (spOf K sd)) (hb : Binds K fd ps ds) (hv : Vals dv ds) (hn : n + dv.length = ps.length) (hd : ∀ F, RepL K F dv dd) :
    FnR P w K mg base (L2.CX P w) k f (spOf K (dfltD n dd sd)) := (DL.FnOk.rawB F hb hv).imp fun vs H Q E ⟨F, as, qs, Qd, Ed, sm, ar, ⟨ds, ea, hm, h⟩, kq, ke⟩ => by
  subst ea
  obtain ⟨r, rfl⟩ := argsRep_d ar
  refine ⟨by rw [r.len, hm]; exact hn, ?_⟩
  exact ⟨F, _, [], _, _, sm, (r.app (hd F)).args, h, fun v x os F' H' q Pq rr => kq v x [] F' H' q (by cases Pq.nil; exact Pq) rr, fun cls d x os F' H' q Pq er => ke cls d x [] F' H' q (by cases Pq.nil; exact Pq) er⟩
end
end DL

set_option Elab.async false
set_option linter.all false
set_option maxRecDepth 100000
/-! DL38: sep.join(texts) -/
namespace DL
open PySem PySem.Spec PyProof.Rows L2
theorem strOk_join {y : Str} (hy : PyData.strOk y = true) : ∀ {xs : List Str}, (∀ x ∈ xs, PyData.strOk x = true) → PyData.strOk (Str.join y xs) = true
  | [], _ => by
    show PyData.strOk Str.empty = true
    decide +kernel
  | [x], h => h x List.mem_cons_self
  | x :: z :: r, h => by
    show PyData.strOk (x ++ y ++ Str.join y (z :: r)) = true
    exact strOk_app (strOk_app (h x List.mem_cons_self) hy) (strOk_join hy fun a ha => h a (List.mem_cons_of_mem _ ha))
section
variable {X : Cx} {c : Fc} {W : WX}
end
end DL
namespace DR
open PySem PySem.Spec PyProof.Rows L2 DL
end DR

set_option Elab.async false
set_option linter.all false
set_option maxRecDepth 100000
set_option maxHeartbeats 2000000
/-! DL39: dict(zip(a, b)) of two tuples, a of texts -/
namespace ZT
open PySem PySem.Spec
open PySem.Sem (wp)
section
variable {prog : Program} {w : World} {A : Around} {E : Value → Shared → Prop} {s : Shared} {z TI TO T i1 i2 l1 l2 : Addr} {f : Bool} {oT : Obj} {k1 k2 : Nat} {xs ys : Array Value}
/-- two tuples are zipped, a tuple given out before is still there -/
theorem item_h {x y : Value} {Q : Value → Shared → Prop} (D : ZipApart z TI TO i1 i2 l1 l2) (hz : IsZipHeld s.heap z TI TO T f) (hT : s.heap.get? T = some oT) (hI : IsPair s.heap TI (.ref i1) (.ref i2)) (a1 : s.heap.IsTupleIter i1 l1 k1) (a2 : s.heap.IsTupleIter i2 l2 k2) (b1 : s.heap.IsTuple l1 xs) (b2 : s.heap.IsTuple l2 ys) (ex : xs[k1]? = some x) (ey : ys[k2]? = some y)
    (hQ : ∀ g, IsZipHeld g z TI TO T true → g.IsTupleIter i1 l1 (k1 + 1) → g.IsTupleIter i2 l2 (k2 + 1) → IsPair g s.heap.objs.size x y → (∀ c o, c ≠ z → c ≠ i1 → c ≠ i2 → s.heap.get? c = some o → g.get? c = some o) → Q (.ref s.heap.objs.size) { s with heap := g }) :
    wpAny (model prog w) A (Builtin.«zip.__next__» ⟨[.ref z], []⟩) (fun fin s' => ∃ v, fin = .done (.ret v) ∧ Q v s') E s := by
  show wpAny _ _ (field (.ref z) 2 >>= _) _ _ _; refine wpAny_bind (wpAny_field hz rfl (x := .bool false) rfl ?_); show wpAny _ _ (field (.ref z) 3 >>= _) _ _ _
  refine wpAny_bind (wpAny_field hz rfl (x := .ref TI) rfl ?_); refine wpAny_bind (wpAny_seqItems hI rfl ?_); show wpAny _ _ (Builtin.SmallTypes.ownedTupleIsFree (.ref z) >>= _) _ _ _
  refine wpAny_bind (wpAny_tupleHeld_zip hz hT fun g1 z1 s1 => ?_); simp only [Bool.false_eq_true, if_false]; refine wpAny_bind ?_; rw [← Array.forIn_toList]; simp only [List.forIn_cons, List.forIn_nil]
  refine wpAny_bind (wpAny_bind (wpAny_holding ?_)); show wpAny _ _ (Builtin.SmallTypes.nextOf (.ref i1) >>= _) _ _ _
  refine wpAny_bind (RZ.nextOf_tuple_item (s := { s with heap := g1 }) (a1.extBut s1.extBut D.i1z) (b1.extBut s1.extBut D.l1z) ex fun g2 j1 s2 => wpAny_pure ?_); refine wpAny_pure ?_
  refine wpAny_bind (wpAny_bind (wpAny_holding ?_)); show wpAny _ _ (Builtin.SmallTypes.nextOf (.ref i2) >>= _) _ _ _
  refine wpAny_bind (RZ.nextOf_tuple_item (s := { s with heap := g2 }) ((a2.extBut s1.extBut D.i2z).extBut s2.extBut D.i12.symm) ((b2.extBut s1.extBut D.l2z).extBut s2.extBut D.l2i1) ey fun g3 j2 s3 => wpAny_pure ?_)
  refine wpAny_pure (wpAny_pure ?_); show wpAny _ _ (newTuple [x, y] >>= _) _ _ _; refine wpAny_bind (wpAny_newTuple ?_)
  have sz : g3.objs.size = s.heap.objs.size := by rw [s3.1, s2.1, s1.1]
  have z3 : IsZipHeld g3 z TI TO T true := s3.extBut _ _ D.i2z.symm (s2.extBut _ _ D.i1z.symm z1)
  have kp : ∀ c o, c ≠ z → c ≠ i1 → c ≠ i2 → s.heap.get? c = some o → g3.get? c = some o := fun c o c1 c2 c3 e => s3.extBut _ _ c3 (s2.extBut _ _ c2 (s1.extBut _ _ c1 e))
  have j3 : g3.IsTupleIter i1 l1 (k1 + 1) := j1.extBut s3.extBut D.i12
  refine wpAny_pure ⟨_, rfl, ?_⟩; show Q (.ref g3.objs.size) _
  have hp : IsPair (g3.push { cls := .type "tuple", data := .seq #[x, y] }) g3.objs.size x y := Heap.get?_push_size _ rfl; rw [sz] at hp ⊢
  exact hQ _ (Heap.get?_push_of_some _ z3) (j3.at fun o e => Heap.get?_push_of_some _ e) (j2.at fun o e => Heap.get?_push_of_some _ e) hp fun c o c1 c2 c3 e => Heap.get?_push_of_some _ (kp c o c1 c2 c3 e)
theorem end_h {Q : Fin → Shared → Prop} (hh : A.handled = none) (D : ZipApart z TI TO i1 i2 l1 l2) (hz : IsZipHeld s.heap z TI TO T f) (hT : s.heap.get? T = some oT) (hI : IsPair s.heap TI (.ref i1) (.ref i2)) (a1 : s.heap.IsTupleIter i1 l1 k1) (a2 : s.heap.IsTupleIter i2 l2 k2) (b1 : s.heap.IsTuple l1 xs) (b2 : s.heap.IsTuple l2 ys) (hend : xs[k1]? = none ∨ ys[k2]? = none)
    (hE : ∀ g e, (∀ c o, c ≠ z → c ≠ i1 → c ≠ i2 → s.heap.get? c = some o → g.get? c = some o) → (∃ o, g.get? e = some o ∧ o.cls = .type "StopIteration") → E (.ref e) { s with heap := g }) : wpAny (model prog w) A (Builtin.«zip.__next__» ⟨[.ref z], []⟩) Q E s := by
  show wpAny _ _ (field (.ref z) 2 >>= _) _ _ _; refine wpAny_bind (wpAny_field hz rfl (x := .bool false) rfl ?_); show wpAny _ _ (field (.ref z) 3 >>= _) _ _ _
  refine wpAny_bind (wpAny_field hz rfl (x := .ref TI) rfl ?_); refine wpAny_bind (wpAny_seqItems hI rfl ?_); show wpAny _ _ (Builtin.SmallTypes.ownedTupleIsFree (.ref z) >>= _) _ _ _
  refine wpAny_bind (wpAny_tupleHeld_zip hz hT fun g1 z1 s1 => ?_); simp only [Bool.false_eq_true, if_false]; refine wpAny_bind ?_; rw [← Array.forIn_toList]; simp only [List.forIn_cons, List.forIn_nil]
  refine wpAny_bind (wpAny_bind (wpAny_holding ?_)); show wpAny _ _ (Builtin.SmallTypes.nextOf (.ref i1) >>= _) _ _ _
  cases hx : xs[k1]? with
  | none => exact wpAny_bind (RZ.nextOf_tuple_end (s := { s with heap := g1 }) hh (a1.extBut s1.extBut D.i1z) (b1.extBut s1.extBut D.l1z) hx fun g2 e s2 he => hE g2 e (fun c o c1 c2 _ q => s2 _ _ c2 (s1.extBut _ _ c1 q)) he)
  | some x =>
    have hy : ys[k2]? = none := by rcases hend with h | h <;> first | exact h | (rw [hx] at h; cases h)
    refine wpAny_bind (RZ.nextOf_tuple_item (s := { s with heap := g1 }) (a1.extBut s1.extBut D.i1z) (b1.extBut s1.extBut D.l1z) hx fun g2 j1 s2 => wpAny_pure ?_); refine wpAny_pure ?_
    refine wpAny_bind (wpAny_bind (wpAny_holding ?_)); show wpAny _ _ (Builtin.SmallTypes.nextOf (.ref i2) >>= _) _ _ _
    exact wpAny_bind (RZ.nextOf_tuple_end (s := { s with heap := g2 }) hh ((a2.extBut s1.extBut D.i2z).extBut s2.extBut D.i12.symm) ((b2.extBut s1.extBut D.l2z).extBut s2.extBut D.l2i1) hy fun g3 e s3 he => hE g3 e (fun c o c1 c2 c3 q => s3 _ _ c3 (s2.extBut _ _ c2 (s1.extBut _ _ c1 q))) he)
theorem next_h {x y : Value} {Q : Option Value → Shared → Prop} (D : ZipApart z TI TO i1 i2 l1 l2) (hz : IsZipHeld s.heap z TI TO T f) (hT : s.heap.get? T = some oT) (hI : IsPair s.heap TI (.ref i1) (.ref i2)) (a1 : s.heap.IsTupleIter i1 l1 k1) (a2 : s.heap.IsTupleIter i2 l2 k2) (b1 : s.heap.IsTuple l1 xs) (b2 : s.heap.IsTuple l2 ys) (ex : xs[k1]? = some x) (ey : ys[k2]? = some y)
    (hQ : ∀ g, IsZipHeld g z TI TO T true → g.IsTupleIter i1 l1 (k1 + 1) → g.IsTupleIter i2 l2 (k2 + 1) → IsPair g s.heap.objs.size x y → (∀ c o, c ≠ z → c ≠ i1 → c ≠ i2 → s.heap.get? c = some o → g.get? c = some o) → Q (some (.ref s.heap.objs.size)) { s with heap := g }) :
    wpAny (model prog w) A (pyNext (.ref z)) Q E s := by
  have ty : s.TypeIs (.ref z) "zip" := ⟨_, hz, rfl⟩
  unfold pyNext
  exact wpAny_bind (wpAny_attempt (wpAny_callSpecial?_slot (name := Str.ofString "__next__") ty F.slot_zip_next (wpAny_call_entry F.slot_zip_next ty F.entry_zip_next (item_h D hz hT hI a1 a2 b1 b2 ex ey fun g c1 c2 c3 c4 c5 => wpAny_pure (hQ g c1 c2 c3 c4 c5)) (F.args_zip_next_1 _))))
theorem last_h {Q : Option Value → Shared → Prop} (hh : A.handled = none) (D : ZipApart z TI TO i1 i2 l1 l2) (hz : IsZipHeld s.heap z TI TO T f) (hT : s.heap.get? T = some oT) (hI : IsPair s.heap TI (.ref i1) (.ref i2)) (a1 : s.heap.IsTupleIter i1 l1 k1) (a2 : s.heap.IsTupleIter i2 l2 k2) (b1 : s.heap.IsTuple l1 xs) (b2 : s.heap.IsTuple l2 ys) (hend : xs[k1]? = none ∨ ys[k2]? = none)
    (hQ : ∀ g, (∀ c o, c ≠ z → c ≠ i1 → c ≠ i2 → s.heap.get? c = some o → g.get? c = some o) → Q none { s with heap := g }) : wpAny (model prog w) A (pyNext (.ref z)) Q E s := by
  have ty : s.TypeIs (.ref z) "zip" := ⟨_, hz, rfl⟩
  unfold pyNext
  refine wpAny_bind (wpAny_attempt (wpAny_callSpecial?_slot (name := Str.ofString "__next__") ty F.slot_zip_next (wpAny_call_entry F.slot_zip_next ty F.entry_zip_next (end_h hh D hz hT hI a1 a2 b1 b2 hend fun g e hk he => ?_) (F.args_zip_next_1 _))))
  obtain ⟨o, ho, hc⟩ := he
  exact wpAny_bind (wpAny_isInstance (T := "StopIteration") (b := true) ⟨o, ho, hc⟩ isSubtype_stop (wpAny_pure (hQ _ hk)))
end
section
variable {prog : Program} {w : World}
end
end ZT
namespace DL
open PySem PySem.Spec PyProof.Rows L2
end DL

set_option Elab.async false
set_option linter.all false
set_option maxRecDepth 100000
set_option maxHeartbeats 2000000
/-! DL40: dicts by plain keys in data; tuple * int; index of a text; isinstance of what was caught, of a built-in class -/
namespace DL
open PySem PySem.Spec PyProof.Rows L2
/-! ### dict(zip(a, b)) -/
section
variable {X : Cx} {c : Fc} {W : WX}
/-! ### d[k] -/
def valK (kvs : List (Key × D)) (k : Key) : Option D := (kvs.find? fun p => decide (p.1 = k)).map (·.2)
theorem repK_get {K : PySem.W.Frag} {F : Hp} {k : Key} : ∀ {vs : List (Key × V)} {ds : List (Key × D)}, RepK K F vs ds → ∀ d, valK ds k = some d → ∃ v, valV vs k = some v ∧ Rep K F v d
  | _, _, .nil => fun d h => nomatch h
  | _, _, .cons (n := n) (v := v) (d := d) (vs := vs) (ds := ds) h t => by
    by_cases e : n = k
    · have e1 : valK ((n, d) :: ds) k = some d := by simp [valK, List.find?_cons, e]
      rw [e1, valV_pos (p := (n, v)) e]
      exact fun d z => by cases z; exact ⟨v, rfl, h⟩
    · have e1 : valK ((n, d) :: ds) k = valK ds k := by simp [valK, List.find?_cons, e]
      rw [e1, valV_neg (p := (n, v)) e]
      exact repK_get t
def keyOne : Key → D
  | .inl i => .int i
  | .inr x => .str x
theorem key_one {K : PySem.W.Frag} {F : Hp} {v : V} : ∀ {k : Key}, Rep K F v (keyOne k) → v = kV k
  | .inl i, r => by cases r; rfl
  | .inr x, r => by cases r; rfl
def getK (to ti : TD) : TD := fun δ Q E => to δ (fun o δ1 => ti δ1 (fun k δ2 => ∃ kvs key d, o.toD = .dK kvs ∧ k.toD = keyOne key ∧ valK kvs key = some d ∧ Q (.d d) δ2) E) E
theorem pd_getK {o i : Expr} {to ti : TD} {pos : Pos} (h : ∀ {to ti : TE}, PE X o to → PE X i ti → PE X (.Subscript o i pos) (tDGet to ti)) (ho : PE X o (LE X.K c W to)) (hi : PE X i (LE X.K c W ti)) : PE X (.Subscript o i pos) (LE X.K c W (getK to ti)) :=
  PE_imp (h ho hi) fun σ H Q ⟨δ, tmp, Qd, Ed, S, q, k, w⟩ => ⟨δ, tmp, _, Ed, S, q, fun u x δ1 H1 q1 S1 => ⟨δ1, _, _, Ed, S1, q1, fun t y δ2 H2 ⟨kvs, key, d, eo, ek, ed, q2⟩ ⟨F, ow, S2⟩ => by
    obtain ⟨F3, S3, _⟩ := S2.top_frz2
    rw [eo, ek] at S3
    obtain rfl := key_one S3.top
    have r0 := S3.pop.top
    cases r0 with
    | dK s r =>
      obtain ⟨z, ez, rz⟩ := repK_get r d ed
      exact ⟨_, z, rfl, .inl ⟨_, key, rd_mono S3.fh s, rfl, ez.symm⟩, k _ _ _ _ q2 ⟨F3, ow, S3.pop.pop.push rz⟩⟩, w.push⟩, w⟩
/-! ### xs.index(x), texts -/
/-! ### isinstance(e, X), X a built-in class -/
abbrev isXcT (K : PySem.W.Frag) (a : Addr) (cls : Value) (d : Option Addr) : RDNs := fun ds Q => ∃ (C : Addr) (n : String) (fs : Option (List (Str × D))) (b : Bool), ds = [.exc a (.ref C) d C fs, .ty n] ∧ cls = .ref C ∧ ExcC K C ∧ PySem.W.kitOne K (.ref C) (.type n) = some b ∧ Q (.bl b)
theorem rel_ty {K : PySem.W.Frag} {F : Hp} {v : V} {n : String} (r : Rep K F v (.ty n)) : ∀ u, RelV v u → u = .type n := by
  cases r
  intro u h
  exact h
theorem cn_isXcT {K : PySem.W.Frag} {a : Addr} {cls : Value} {d : Option Addr} : CallNs K (rIsXc K a cls d) (isXcT K a cls d) := fun xs ds F H Q Qd s r ⟨C, n, fs, b, e, hc, T, hk, q⟩ k => by
  subst e
  cases r with
  | cons r t =>
    cases t with
    | cons r2 t =>
      cases t
      cases r with
      | exc0 => exact ⟨C, _, _, b, rfl, hc, .inl rfl, T, rel_ty r2, hk, k _ _ q rfl⟩
      | exc s1 h => exact ⟨C, _, _, b, rfl, hc, .inr ⟨_, _, rfl, s _ _ s1⟩, T, rel_ty r2, hk, k _ _ q rfl⟩
/-! ### (x, ..) * n -/
end
end DL
namespace DR
open PySem PySem.Spec PyProof.Rows L2 DL
section
variable {δ : DSt} {Q : DK} {E : XD}
theorem getK {to ti : TD} (h : to δ (fun o δ1 => ti δ1 (fun k δ2 => ∃ kvs key d, o.toD = .dK kvs ∧ k.toD = keyOne key ∧ valK kvs key = some d ∧ Q (.d d) δ2) E) E) : DL.getK to ti δ Q E := h
end
end DR

set_option Elab.async false
set_option linter.all false
set_option maxRecDepth 100000
set_option maxHeartbeats 2000000
/-! DL41: f(a, *xs) of a def with a star; sum of a list of numbers -/
namespace DL
open PySem PySem.Spec PyProof.Rows L2
section
variable {X : Cx} {c : Fc} {W : WX}
end
section
variable {X : Cx} {c : Fc} {W : WX}
variable {k : Nat} {f C : Addr} {sd : SpD} {x m : Str} {p pos apos : Pos} {e o : Expr} {es : List Expr} {ta : TDA}
end
/-! ### if xs: a tuple or a list -/
section
variable {X : Cx} {c : Fc} {W : WX}
end
end DL
namespace DR
open PySem PySem.Spec PyProof.Rows L2 DL
variable {δ : DSt} {E : XD}
end DR

set_option Elab.async false
set_option linter.all false
set_option maxRecDepth 100000
/-! comprehensions whose body may raise: the exception leaves the block, and then the def or a try of it -/
namespace L2
open PySem PySem.Spec PyProof.Rows
section
variable {M : Model} {A : Around} {E : Value → Shared → Prop} {s : Shared} {env : Env}
end
section
variable {M : Model} {A : Around} {E : Value → Shared → Prop} {s : Shared} {env : Env} {base : Heap} {outer : List Env} {e L : Addr} {Z : Obj → Prop} {fl : Value}
end
end L2
namespace L2
open PySem PySem.Spec PyProof.Rows
section
variable {X : Cx}
end
end L2
namespace L2
open PySem PySem.Spec PyProof.Rows
section
variable {X : Cx} {W : WX}
end
end L2
namespace L2
open PySem PySem.Spec PyProof.Rows
section
variable {X : Cx} {W : WX} {elt tg iter : Expr} {ifs : List Expr} {scope : Scope} {own : List (Str × Nat)} {pos : Pos} {wi : TI} {g : TG} {tt : WX → TT} {te : WX → TE}
end
end L2

set_option Elab.async false
set_option linter.all false
set_option maxRecDepth 100000
namespace DL
open PySem PySem.Spec PyProof.Rows L2
section
variable {K : PySem.W.Frag} {c : Fc} {F F' H H' : Hp} {ow ow' : Addr → Option Hold} {δ δ' : DSt} {tmp : List (V × DV)} {σ σ' : L2.St}
end
section
variable {X : Cx} {c : Fc} {W : WX}
end
end DL
namespace DR
open PySem PySem.Spec PyProof.Rows L2 DL
end DR

set_option Elab.async false
set_option linter.all false
set_option maxRecDepth 100000
/-! zip of two, each a list or a tuple, of one length -/
namespace Z2
open PySem
open PySem.Sem (wp)
section
variable {prog : Program} {w : World} {A : Around} {E : Value → Shared → Prop} {s : Shared} {p q : Bool}
variable {n l1 l2 : Nat} {i : Nat} {xs ys : Array Value} {x y a b : Value}
end
/-! ### making one -/
end Z2
namespace DL
open PySem PySem.Spec PyProof.Rows L2
section
variable {X : Cx} {c : Fc} {W : WX}
end
end DL
namespace DR
open PySem PySem.Spec PyProof.Rows L2 DL
end DR

set_option Elab.async false
set_option linter.all false
set_option maxRecDepth 100000
set_option maxHeartbeats 2000000
/-! several except clauses, each with or without a name -/
namespace DL
open PySem PySem.Spec PyProof.Rows L2
section
variable {X : Cx} {bd : List Stmt} {g : ExceptHandler} {gs : List ExceptHandler} {qs : List ClauseM} {pos : Pos} {tb : WX → TS} {out : WX}
end
/-! in data -/
end DL
namespace DR
open PySem PySem.Spec PyProof.Rows L2 DL
end DR

set_option Elab.async false
set_option linter.all false
set_option maxRecDepth 100000
/-! x != [] and x == [] of any list -/
namespace DL
open PySem PySem.Spec PyProof.Rows L2
def lensNe (K : PySem.W.Frag) (r : Bool) : R2 := fun x y H Q => ∃ a b xs ys, x = .ref a ∧ y = .ref b ∧ SqL K H a xs ∧ SqL K H b ys ∧ xs.length ≠ ys.length ∧ Q (.bl r) H
def rNeX (K : PySem.W.Frag) : R2 := fun x y H Q => rNeD K x y H Q ∨ lensNe K true x y H Q
theorem op_neX {X : Cx} (hu : X.A.units + 64 < cLine) : OpR X (compareOp .NotEq) (rNeX X.K) := by
  intro pins s σ H x y v u Q I rx ry h
  rcases h with h | ⟨a, b, xs, ys, rfl, rfl, ha, hb, hl, q⟩
  · exact op_neD hu pins s σ H x y v u Q I rx ry h
  obtain rfl : v = Value.ref a := rx
  obtain rfl : u = Value.ref b := ry
  obtain ⟨i1, r1, p1, _⟩ := I.list ha
  obtain ⟨i2, r2, p2, _⟩ := I.list hb
  have l1 := r1.length
  have l2 := r2.length
  refine SeqAt.RcNeAt.lists_lengths p1.isList p2.isList ?_ (Nat.lt_of_le_of_lt (Nat.le_add_right _ _) hu) _ _ _ _ ⟨.bl _, H, I, rfl, q⟩
  simp
  omega
def lstLike (d : D) (xs : List D) : Prop := d = .lst xs ∨ d = .ro xs
abbrev neX : RD2s := fun a b Q => eqP true a b Q ∨ ∃ xs ys, lstLike a xs ∧ lstLike b ys ∧ xs.length ≠ ys.length ∧ Q (.bl true)
theorem sql_of {K : PySem.W.Frag} {F H : Hp} {v : V} {d : D} {xs : List D} (e : lstLike d xs) (s : Same F H) (r : Rep K F v d) : ∃ a vs, v = .ref a ∧ SqL K H a vs ∧ vs.length = xs.length := by
  rcases e with rfl | rfl
  · cases r with | lst s1 r1 => exact ⟨_, _, rfl, s.seq (SqL.of s1), r1.len⟩
  · cases r with | ro s1 r1 => exact ⟨_, _, rfl, s.seq s1, r1.len⟩
theorem op2_neX {K : PySem.W.Frag} : Op2s K (rNeX K) neX := fun x y a b F H Q Qd s rx ry h k => by
  rcases h with h | ⟨xs, ys, h1, h2, h3, q⟩
  · exact .inl (op2_neD x y a b F H Q Qd s rx ry h k)
  · obtain ⟨a1, vs, rfl, g1, l1⟩ := sql_of h1 s rx
    obtain ⟨b1, us, rfl, g2, l2⟩ := sql_of h2 s ry
    exact .inr ⟨a1, b1, vs, us, rfl, rfl, g1, g2, by rw [l1, l2]; exact h3, k _ _ q rfl⟩
end DL

set_option Elab.async false
set_option linter.all false
set_option maxRecDepth 100000
/-! DL47: a, b = x, y where one is a cell; a written tuple unpacked -/
namespace DL
open PySem PySem.Spec PyProof.Rows L2
section
variable {X : Cx} {c : Fc} {W : WX}
theorem psd_parC {i j : Nat} {oi oj : Bool} {x y : Str} {a b : Expr} {t : TDK} {px py pt pos : Pos} {kt k2 pt2} (ha : PA X [a, b] (LK X.K c W t)) (ni : i ∉ c.sl) (nj : j ∉ c.sl) (h : ∀ {ta : TA}, PA X [a, b] ta → PS X (.Assign [.Tuple [.Name x px, .Name y py] k2 pt2] (.Tuple [a, b] kt pt) pos) (tAsg (tTup ta) (gTup X.K 2 (gCons (gName i) (gCons (gName j) gNil))))) (hij : i ≠ j) :
    PS X (.Assign [.Tuple [.Name x px, .Name y py] k2 pt2] (.Tuple [a, b] kt pt) pos) (LS X.K c W (parD i j oi oj t)) :=
  PS_imp (h ha) fun D σ H ⟨δ, tmp, Dd, S, q, k, kr, kb, kc, w⟩ => ⟨δ, tmp, _, _, S, q, fun vs xs δ' H' ⟨x, y, e, q'⟩ hl S' => by
    subst e
    match vs, hl with
    | [v, u], _ =>
      refine ⟨show 2 ≤ sizeLine by decide, fun p np => ⟨p, [v, u], rfl, SqT.of upd_same, rfl, v, [u], rfl, u, [], rfl, rfl, ?_⟩⟩
      obtain ⟨F, ow, S'⟩ := S'
      have S2 : SttF X.K c F ow δ' ((u, y) :: (v, x) :: tmp) σ H' := S'
      have S2 := S2.ext (Ext.newH (o := .tup [v, u]) S2.fh np)
      obtain ⟨F3, S3⟩ := S2.top_as oj
      obtain ⟨F4, ow4, S4⟩ := S3.set' nj
      obtain ⟨F5, S5⟩ := S4.top_as oi
      refine k _ _ _ q' ?_
      rw [List.set_comm _ _ hij]
      exact S5.set' ni, w⟩
end
end DL
namespace DR
open PySem PySem.Spec PyProof.Rows L2 DL
end DR

set_option Elab.async false
set_option linter.all false
set_option maxRecDepth 100000
set_option maxHeartbeats 2000000
/-! DL48: tuple(zip(a, b)) of two tuples -/
namespace ZT
open PySem PySem.Spec
open PySem.Sem (wp)
theorem nolen_zip : typeLookup (.type "zip") "__len__" = pure none := by rw [typeLookup_type, builtinLookup_eq_fast]; kernel_rfl
theorem nohint_zip : typeLookup (.type "zip") "__length_hint__" = pure none := by rw [typeLookup_type, builtinLookup_eq_fast]; kernel_rfl
section
variable {prog : Program} {w : World} {A : Around} {E : Value → Shared → Prop} {s : Shared} {z TI TO i1 i2 l1 l2 S : Addr} {xs ys : Array Value}
/-- two tuples are zipped, i pairs were given out -/
def ZSt (z TI TO i1 i2 l1 l2 : Addr) (xs ys : Array Value) (S : Addr) (i : Nat) (h : Heap) : Prop :=
  IsPair h TI (.ref i1) (.ref i2) ∧ (h.IsTupleIter i1 l1 i ∧ h.IsTupleIter i2 l2 i) ∧ (h.IsTuple l1 xs ∧ h.IsTuple l2 ys) ∧
    ((IsZip h z TI TO .none ∧ ∃ a b, IsPair h TO a b) ∨ ∃ T f oT, IsZipHeld h z TI TO T f ∧ h.get? T = some oT ∧ T ≠ z ∧ T ≠ i1 ∧ T ≠ i2 ∧ T ≠ S)
theorem ZSt.keep {i : Nat} {g g' : Heap} (hm : S ∉ [z, TI, TO, i1, i2, l1, l2]) (st : ZSt z TI TO i1 i2 l1 l2 xs ys S i g) (hk : ∀ b o, b ≠ S → g.get? b = some o → g'.get? b = some o) : ZSt z TI TO i1 i2 l1 l2 xs ys S i g' := by
  simp only [List.mem_cons, List.not_mem_nil, or_false, not_or] at hm
  obtain ⟨dz, dTI, dTO, di1, di2, dl1, dl2⟩ := hm
  obtain ⟨q2, ⟨q4, q5⟩, ⟨q6, q7⟩, hz⟩ := st
  refine ⟨hk _ _ (Ne.symm dTI) q2, ⟨q4.at fun o e => hk _ o (Ne.symm di1) e, q5.at fun o e => hk _ o (Ne.symm di2) e⟩, ⟨q6.at fun o e => hk _ o (Ne.symm dl1) e, q7.at fun o e => hk _ o (Ne.symm dl2) e⟩, ?_⟩
  rcases hz with ⟨q1, a, b, q3⟩ | ⟨T, f, oT, q1, qT, r1, r2, r3, r4⟩
  · exact .inl ⟨hk _ _ (Ne.symm dz) q1, a, b, hk _ _ (Ne.symm dTO) q3⟩
  · exact .inr ⟨T, f, oT, hk _ _ (Ne.symm dz) q1, hk _ _ r4 qT, r1, r2, r3, r4⟩
theorem zst_item {i : Nat} {Q : Option Value → Shared → Prop} (D : ZipApart z TI TO i1 i2 l1 l2) (hS : S < s.heap.objs.size) (hi : i < min xs.size ys.size) (st : ZSt z TI TO i1 i2 l1 l2 xs ys S i s.heap)
    (hQ : ∀ g x y, xs[i]? = some x → ys[i]? = some y → IsPair g s.heap.objs.size x y → ZSt z TI TO i1 i2 l1 l2 xs ys S (i + 1) g → (∀ b o, b ∉ [z, TO, i1, i2] → s.heap.get? b = some o → g.get? b = some o) → Q (some (.ref s.heap.objs.size)) { s with heap := g }) :
    wpAny (model prog w) A (pyNext (.ref z)) Q E s := by
  obtain ⟨q2, ⟨q4, q5⟩, ⟨q6, q7⟩, hz⟩ := st
  have ex := Array.getElem?_eq_getElem (Nat.lt_of_lt_of_le hi (Nat.min_le_left ..))
  have ey := Array.getElem?_eq_getElem (Nat.lt_of_lt_of_le hi (Nat.min_le_right ..))
  have lt : ∀ {c o}, s.heap.get? c = some o → s.heap.objs.size ≠ c := fun e => Nat.ne_of_gt (Heap.lt_size e)
  have n1 : s.heap.objs.size ≠ i1 := let ⟨_, e, _⟩ := q4; lt e
  have n2 : s.heap.objs.size ≠ i2 := let ⟨_, e, _⟩ := q5; lt e
  rcases hz with ⟨q1, a, b, q3⟩ | ⟨T, f, oT, q1, qT, r1, r2, r3, r4⟩
  · refine RZ.pyNext_zipT_item D q1 q2 q3 q4 q5 q6 q7 ex ey fun g c1 c2 c3 c4 c5 c6 hk => ?_
    exact hQ g _ _ ex ey c5 ⟨hk _ _ D.TIz D.TITO D.TIi1 D.TIi2 q2, ⟨c3, c4⟩, ⟨q6.at fun o e => hk _ o D.l1z D.l1TO D.l1i1 D.l1i2 e, q7.at fun o e => hk _ o D.l2z D.l2TO D.l2i1 D.l2i2 e⟩, .inr ⟨s.heap.objs.size, false, _, c1, c5, lt q1, n1, n2, Nat.ne_of_gt hS⟩⟩
      fun c o hc e => hk c o (fun q => hc (by simp [q])) (fun q => hc (by simp [q])) (fun q => hc (by simp [q])) (fun q => hc (by simp [q])) e
  · refine next_h D q1 qT q2 q4 q5 q6 q7 ex ey fun g c1 c3 c4 c5 hk => ?_
    exact hQ g _ _ ex ey c5 ⟨hk _ _ D.TIz D.TIi1 D.TIi2 q2, ⟨c3, c4⟩, ⟨q6.at fun o e => hk _ o D.l1z D.l1i1 D.l1i2 e, q7.at fun o e => hk _ o D.l2z D.l2i1 D.l2i2 e⟩, .inr ⟨T, true, oT, c1, hk _ _ r1 r2 r3 qT, r1, r2, r3, r4⟩⟩
      fun c o hc e => hk c o (fun q => hc (by simp [q])) (fun q => hc (by simp [q])) (fun q => hc (by simp [q])) e
theorem zst_end {Q : Option Value → Shared → Prop} (hA : A.handled = none) (D : ZipApart z TI TO i1 i2 l1 l2) (st : ZSt z TI TO i1 i2 l1 l2 xs ys S (min xs.size ys.size) s.heap)
    (hQ : ∀ g, (∀ b o, b ∉ [z, TO, i1, i2] → s.heap.get? b = some o → g.get? b = some o) → Q none { s with heap := g }) :
    wpAny (model prog w) A (pyNext (.ref z)) Q E s := by
  obtain ⟨q2, ⟨q4, q5⟩, ⟨q6, q7⟩, hz⟩ := st
  have he : xs[min xs.size ys.size]? = none ∨ ys[min xs.size ys.size]? = none := by
    rcases Nat.le_total xs.size ys.size with h | h
    · exact .inl (Array.getElem?_eq_none (by rw [Nat.min_eq_left h]; exact Nat.le_refl _))
    · exact .inr (Array.getElem?_eq_none (by rw [Nat.min_eq_right h]; exact Nat.le_refl _))
  rcases hz with ⟨q1, a, b, q3⟩ | ⟨T, f, oT, q1, qT, r1, r2, r3, r4⟩
  · exact RZ.pyNext_zipT_end hA D q1 q2 q3 q4 q5 q6 q7 he fun g hk => hQ g fun c o hc e => hk c o (fun q => hc (by simp [q])) (fun q => hc (by simp [q])) (fun q => hc (by simp [q])) (fun q => hc (by simp [q])) e
  · exact last_h hA D q1 qT q2 q4 q5 q6 q7 he fun g hk => hQ g fun c o hc e => hk c o (fun q => hc (by simp [q])) (fun q => hc (by simp [q])) (fun q => hc (by simp [q])) e
/-- the pairs given out so far, all new -/
def Prs (h0 h : Heap) (bad : List Addr) (xs ys : Array Value) (acc : Array Value) (i : Nat) : Prop := acc.size = i ∧ ∀ j, j < i → ∃ p x y, acc[j]? = some (.ref p) ∧ xs[j]? = some x ∧ ys[j]? = some y ∧ IsPair h p x y ∧ h0.objs.size ≤ p ∧ p ∉ bad
/-- no two of the first i are the same -/
def Apt (acc : Array Value) (i : Nat) : Prop := ∀ j k, j < i → k < i → acc[j]? = acc[k]? → j = k
theorem ext_zip {R : Result → Shared → Prop} (hA : A.handled = none) (D : ZipApart z TI TO i1 i2 l1 l2) (hn : min xs.size ys.size ≤ sizeLine) (hm : S ∉ [z, TI, TO, i1, i2, l1, l2]) (hlt : ∀ b ∈ [z, TO, i1, i2], b < S) (res : Value) (h0 : Heap) (h0S : h0.objs.size ≤ S) :
    ∀ (k i : Nat) (s : Shared) (acc : Array Value) (c : Nat), min xs.size ys.size - i = k → i ≤ min xs.size ys.size → ZSt z TI TO i1 i2 l1 l2 xs ys S i s.heap → s.heap.get? S = some { cls := .type "list", dict := none, data := .seq acc c, slots := #[] } →
    Prs h0 s.heap [S, z, TO, i1, i2] xs ys acc i → Apt acc i → (∀ b o, b ∉ [S, z, TO, i1, i2] → h0.get? b = some o → s.heap.get? b = some o) →
    (∀ h' acc' c', (∀ b o, b ∉ [S, z, TO, i1, i2] → h0.get? b = some o → h'.get? b = some o) → h'.get? S = some { cls := .type "list", dict := none, data := .seq acc' c', slots := #[] } → Prs h0 h' [S, z, TO, i1, i2] xs ys acc' (min xs.size ys.size) → Apt acc' (min xs.size ys.size) → R (.ok (.ret res)) { s with heap := h' }) →
    codeAny (model prog w) A (.builtin "list.extend.loop" ⟨[.ref S, .ref z, res], []⟩) R s := by
  have hS4 : S ∉ [z, TO, i1, i2] := fun q => hm (by simp only [List.mem_cons, List.not_mem_nil, or_false] at q ⊢; rcases q with q | q | q | q <;> simp [q])
  intro k
  induction k with
  | zero =>
    intro i s acc c hk hi hst hS hp hap hkeep hR
    have hin : i = min xs.size ys.size := by omega
    subst hin
    refine codeAny_builtin F.entry_extend_loop ?_
    rw [Around.under_plainId F.plain_extend_loop _]
    show wpAny _ A.in1 (pyNext (.ref z) >>= _) _ _ s
    refine wpAny_bind (zst_end (A := A.in1) hA D hst fun g hk2 => ?_)
    refine wpAny_pure (hR g acc c (fun b o hb e => hk2 b o (fun q => hb (List.mem_cons_of_mem _ q)) (hkeep b o hb e)) (hk2 S _ hS4 hS) ⟨hp.1, fun j hj => ?_⟩ hap)
    obtain ⟨p, x, y, e1, e2, e3, e4, e5, e6⟩ := hp.2 j hj
    exact ⟨p, x, y, e1, e2, e3, hk2 _ _ (fun q => e6 (List.mem_cons_of_mem _ q)) e4, e5, e6⟩
  | succ k ih =>
    intro i s acc c hk hi hst hS hp hap hkeep hR
    have hl : i < min xs.size ys.size := by omega
    have hSl := Heap.lt_size hS
    refine codeAny_builtin F.entry_extend_loop ?_
    rw [Around.under_plainId F.plain_extend_loop _]
    show wpAny _ A.in1 (pyNext (.ref z) >>= _) _ _ s
    refine wpAny_bind (zst_item (A := A.in1) D hSl hl hst fun g x y ex ey hpair hst' hk2 => ?_)
    have hS' := hk2 S _ hS4 hS
    have pne : s.heap.objs.size ∉ [S, z, TO, i1, i2] := fun q => by
      rcases List.mem_cons.mp q with q | q
      · exact absurd hSl (by rw [q]; exact Nat.lt_irrefl _)
      · exact absurd (Nat.lt_trans (hlt _ q) hSl) (Nat.lt_irrefl _)
    have p0 : h0.objs.size ≤ s.heap.objs.size := Nat.le_of_lt (Nat.lt_of_le_of_lt h0S hSl)
    show wpAny _ A.in1 (updateSeq S (·.push (.ref s.heap.objs.size)) >>= _) _ _ _
    refine wpAny_bind ?_
    refine wpAny_updateSeq (s := { s with heap := g }) hS' rfl (wpAny_pure ⟨plainId_quiet F.plain_extend_loop _, ih (i + 1) _ (acc.push (.ref s.heap.objs.size)) _ (by omega) hl (hst'.keep hm fun b o hb e => (Heap.get?_update_other _ _ (Ne.symm hb)).trans e) (Heap.get?_update_self _ hS' rfl) ?_ ?_ (fun b o hb e => (Heap.get?_update_other _ _ (fun q : S = b => hb (q ▸ List.mem_cons_self))).trans (hk2 b o (fun q => hb (List.mem_cons_of_mem _ q)) (hkeep b o hb e))) hR⟩)
      (by rw [hp.1]; have := Nat.lt_of_lt_of_le hl hn; omega) (by show (acc.push (.ref s.heap.objs.size)).size ≤ sizeLine + 1; rw [Array.size_push, hp.1]; exact Nat.le_trans (Nat.lt_of_lt_of_le hl hn) (Nat.le_succ _))
    rotate_left
    · intro j k' hj hk' e
      have at_old : ∀ j, j < i → (acc.push (.ref s.heap.objs.size))[j]? = acc[j]? := fun j hj => by rw [Array.getElem?_push, if_neg (by rw [hp.1]; omega)]
      have at_new : (acc.push (.ref s.heap.objs.size))[i]? = some (.ref s.heap.objs.size) := by rw [Array.getElem?_push, if_pos hp.1.symm]
      have no : ∀ j, j < i → acc[j]? ≠ some (.ref s.heap.objs.size) := fun j hj q => by
        obtain ⟨p, x', y', e1, _, _, e4, _⟩ := hp.2 j hj
        rw [e1] at q
        cases q
        exact absurd (Heap.lt_size e4) (Nat.lt_irrefl _)
      by_cases h1 : j = i
      · by_cases h2 : k' = i
        · rw [h1, h2]
        · rw [h1, at_new, at_old k' (by omega)] at e
          exact absurd e.symm (no k' (by omega))
      · by_cases h2 : k' = i
        · rw [h2, at_new, at_old j (by omega)] at e
          exact absurd e (no j (by omega))
        · rw [at_old j (by omega), at_old k' (by omega)] at e
          exact hap j k' (by omega) (by omega) e
    refine ⟨by rw [Array.size_push, hp.1], fun j hj => ?_⟩
    by_cases hji : j = i
    · subst hji
      refine ⟨s.heap.objs.size, x, y, by rw [Array.getElem?_push, if_pos hp.1.symm], ex, ey, (Heap.get?_update_other _ _ (fun q : S = s.heap.objs.size => pne (q ▸ List.mem_cons_self))).trans hpair, p0, pne⟩
    · obtain ⟨p, x', y', e1, e2, e3, e4, e5, e6⟩ := hp.2 j (by omega)
      refine ⟨p, x', y', by rw [Array.getElem?_push, if_neg (by rw [hp.1]; exact hji)]; exact e1, e2, e3, (Heap.get?_update_other _ _ (fun q : S = p => e6 (q ▸ List.mem_cons_self))).trans (hk2 _ _ (fun q => e6 (List.mem_cons_of_mem _ q)) e4), e5, e6⟩
/-- a list's room, made once: what updateSeq twice leaves -/
theorem collect_zip {Q : List Value → Shared → Prop} (hA : A.handled = none) (D : ZipApart z TI TO i1 i2 l1 l2) (hn : min xs.size ys.size ≤ sizeLine)
    (q1 : IsZip s.heap z TI TO .none) (q2 : IsPair s.heap TI (.ref i1) (.ref i2)) (q3 : ∃ a b, IsPair s.heap TO a b) (q4 : s.heap.IsTupleIter i1 l1 0) (q5 : s.heap.IsTupleIter i2 l2 0) (q6 : s.heap.IsTuple l1 xs) (q7 : s.heap.IsTuple l2 ys)
    (hQ : ∀ h' acc, (∀ b o, b ∉ [z, TO, i1, i2] → s.heap.get? b = some o → h'.get? b = some o) → Prs s.heap h' [z, TO, i1, i2] xs ys acc (min xs.size ys.size) → Apt acc (min xs.size ys.size) → Q acc.toList { s with heap := h' }) :
    wpAny (model prog w) A (collect (.ref z)) Q E s := by
  have there : ∀ b ∈ [z, TI, TO, i1, i2, l1, l2], b < s.heap.objs.size := fun b hb => by
    simp only [List.mem_cons, List.not_mem_nil, or_false] at hb
    obtain ⟨a, b', q3⟩ := q3
    obtain ⟨o1, q4, _⟩ := q4
    obtain ⟨o2, q5, _⟩ := q5
    obtain ⟨o3, q6, _⟩ := q6
    obtain ⟨o4, q7, _⟩ := q7
    rcases hb with rfl | rfl | rfl | rfl | rfl | rfl | rfl
    · exact Heap.lt_size q1
    · exact Heap.lt_size q2
    · exact Heap.lt_size q3
    · exact Heap.lt_size q4
    · exact Heap.lt_size q5
    · exact Heap.lt_size q6
    · exact Heap.lt_size q7
  have hm : s.heap.objs.size ∉ [z, TI, TO, i1, i2, l1, l2] := fun q => Nat.lt_irrefl _ (there _ q)
  have hlt : ∀ b ∈ [z, TO, i1, i2], b < s.heap.objs.size := fun b hb => there b (by simp only [List.mem_cons, List.not_mem_nil, or_false] at hb ⊢; rcases hb with q | q | q | q <;> simp [q])
  have hSz : s.heap.objs.size ≠ z := fun e => hm (by rw [e]; exact List.mem_cons_self)
  unfold collect
  refine wpAny_bind (wpAny_runValue (codeAny_builtin F.entry_proto_collect ?_))
  rw [Around.under_plainId F.plain_proto_collect _]
  show wpAny _ A.in1 (newList [] >>= fun l => again (.builtin "list.__iadd__" ⟨[l, .ref z], []⟩)) _ _ s
  refine wpAny_bind (wpAny_newObj_type ?_)
  refine wpAny_pure ⟨plainId_quiet F.plain_list_iadd _, codeAny_builtin F.entry_list_iadd ?_⟩
  rw [Around.under_plainId F.plain_list_iadd _]
  have hS₁ : (s.heap.push { cls := .type "list", data := .seq ([] : List Value).toArray }).get? s.heap.objs.size = some { cls := .type "list", data := .seq ([] : List Value).toArray } := Heap.get?_push_size _ rfl
  have up : ∀ {b o}, s.heap.get? b = some o → (s.heap.push { cls := .type "list", data := .seq ([] : List Value).toArray }).get? b = some o := fun e => Heap.get?_push_of_some _ e
  have st1 : ZSt z TI TO i1 i2 l1 l2 xs ys s.heap.objs.size 0 (s.heap.push { cls := .type "list", data := .seq ([] : List Value).toArray }) := ⟨up q2, ⟨q4.at fun o e => up e, q5.at fun o e => up e⟩, ⟨q6.at fun o e => up e, q7.at fun o e => up e⟩, .inl ⟨up q1, let ⟨a, b, q⟩ := q3; ⟨a, b, up q⟩⟩⟩
  have hT : ({ s with heap := s.heap.push { cls := .type "list", data := .seq ([] : List Value).toArray } } : Shared).TypeIs (.ref z) "zip" := ⟨_, up q1, rfl⟩
  show wpAny _ A.in1 (Builtin.List.listExtendWith (.ref s.heap.objs.size) (.ref z) (.ref s.heap.objs.size)) _ _ _
  unfold Builtin.List.listExtendWith
  refine wpAny_bind (wpAny_typeOf hT ?_)
  have h1 : Builtin.List.listSameRef (.ref s.heap.objs.size) (.ref z) = false := by simp [Builtin.List.listSameRef, hSz]
  have h2 : (Value.type "zip" == Value.type "list") = false := by decide
  have h3 : (Value.type "zip" == Value.type "tuple") = false := by decide
  simp only [h1, h2, h3, Bool.or_false, Bool.false_eq_true, if_false]
  refine wpAny_bind (wpAny_pyIter_zip (s := { s with heap := s.heap.push { cls := .type "list", data := .seq ([] : List Value).toArray } }) (up q1) ?_)
  refine wpAny_bind (wpAny_holding ?_)
  unfold Builtin.List.listLengthHint
  refine wpAny_bind (wpAny_specialOf hT nolen_zip ?_)
  show wpAny _ A.in1 (specialOf (Value.ref z) (Str.ofString "__length_hint__") >>= _) _ _ _
  refine wpAny_bind (wpAny_specialOf hT nohint_zip ?_)
  refine wpAny_pure ?_
  show wpAny _ A.in1 (rule "list.extend.makes-room" >>= fun _ => Builtin.List.listTouch (.ref s.heap.objs.size) >>= fun _ =>
    again (.builtin "list.extend.loop" ⟨[.ref s.heap.objs.size, .ref z, .ref s.heap.objs.size], []⟩)) _ _ _
  refine wpAny_bind (wpAny_rule ?_)
  refine wpAny_bind ?_
  show wpAny _ A.in1 (updateSeq s.heap.objs.size (·.push .none) >>= fun _ => updateSeq s.heap.objs.size (·.pop)) _ _ _
  refine wpAny_bind (wpAny_updateSeq (s := { s with heap := s.heap.push { cls := .type "list", data := .seq ([] : List Value).toArray } }) hS₁ rfl ?_)
  have hS₂ := Heap.get?_update_self (Obj.mapSeq (·.push Value.none)) hS₁ rfl
  refine wpAny_updateSeq (s := { s with heap := (s.heap.push { cls := .type "list", data := .seq ([] : List Value).toArray }).update s.heap.objs.size (Obj.mapSeq (·.push Value.none)) }) hS₂ rfl ?_
  have hS₃ := Heap.get?_update_self (Obj.mapSeq (·.pop)) hS₂ rfl
  have oth : ∀ b o, b ≠ s.heap.objs.size → (s.heap.push { cls := .type "list", data := .seq ([] : List Value).toArray }).get? b = some o →
      (((s.heap.push { cls := .type "list", data := .seq ([] : List Value).toArray }).update s.heap.objs.size (Obj.mapSeq (·.push Value.none))).update s.heap.objs.size (Obj.mapSeq (·.pop))).get? b = some o :=
    fun b o hb e => (Heap.get?_update_other _ _ (Ne.symm hb)).trans ((Heap.get?_update_other _ _ (Ne.symm hb)).trans e)
  have bad : ∀ {b : Addr}, b ∉ [z, TO, i1, i2] → b ≠ s.heap.objs.size → b ∉ [s.heap.objs.size, z, TO, i1, i2] := fun h1 h2 q => (List.mem_cons.mp q).elim h2 h1
  refine wpAny_pure ⟨plainId_quiet F.plain_extend_loop _, ext_zip (A := A) hA D hn hm hlt _ s.heap (Nat.le_refl _) _ 0 _ _ _ rfl (Nat.zero_le _) (st1.keep hm oth) hS₃ ⟨rfl, fun j hj => absurd hj (Nat.not_lt_zero _)⟩ (fun j _ hj => absurd hj (Nat.not_lt_zero _)) (fun b o hb e => oth b o (fun q => hb (q ▸ List.mem_cons_self)) (up e)) fun h' acc' c' hk hS' hp hap => ?_⟩
  show wpAny _ A (load s.heap.objs.size >>= _) _ _ _
  refine wpAny_bind (wpAny_load (s := { s with heap := h' }) hS' ?_)
  refine wpAny_pure (hQ h' acc' (fun b o hb e => hk b o (bad hb (Nat.ne_of_lt (Heap.lt_size e))) e) ⟨hp.1, fun j hj => ?_⟩ hap)
  obtain ⟨p, x, y, e1, e2, e3, e4, e5, e6⟩ := hp.2 j hj
  exact ⟨p, x, y, e1, e2, e3, e4, e5, fun q => e6 (List.mem_cons_of_mem _ q)⟩
end
end ZT
namespace DL
open PySem PySem.Spec PyProof.Rows L2
open PySem.Sem (wp)
/-! ### several new objects at once -/
def updAll (H : Hp) : List (Addr × HO) → Hp
  | [] => H
  | (a, o) :: l => updAll (upd H a o) l
theorem updAll_ne : ∀ {l : List (Addr × HO)} {H : Hp} {b : Addr}, b ∉ l.map (·.1) → updAll H l b = H b
  | [], _, _, _ => rfl
  | (a, o) :: l, H, b, h => by
    rw [List.map_cons, List.mem_cons, not_or] at h
    show updAll (upd H a o) l b = _
    rw [updAll_ne h.2, upd_ne h.1]
theorem updAll_at : ∀ {l : List (Addr × HO)} {H : Hp} {a : Addr} {o : HO}, (l.map (·.1)).Nodup → (a, o) ∈ l → updAll H l a = some o
  | (a, o) :: l, H, b, u, nd, h => by
    rw [List.map_cons, List.nodup_cons] at nd
    show updAll (upd H a o) l b = _
    rcases List.mem_cons.mp h with h | h
    · cases h
      rw [updAll_ne nd.1, upd_same]
    · exact updAll_at nd.2 h
theorem Ext.newAll : ∀ {l : List (Addr × HO)} {F H : Hp}, Same F H → (l.map (·.1)).Nodup → (∀ p ∈ l, H p.1 = none) → Ext F H (updAll F l) (updAll H l)
  | [], _, _, s, _, _ => Ext.refl s
  | (a, o) :: l, F, H, s, nd, n => by
    rw [List.map_cons, List.nodup_cons] at nd
    have e1 : Ext F H (upd F a o) (upd H a o) := Ext.new s (n _ List.mem_cons_self)
    refine e1.trans (Ext.newAll e1.fh nd.2 fun p hp => ?_)
    have ne : p.1 ≠ a := fun q => nd.1 (List.mem_map.mpr ⟨p, hp, q⟩)
    rw [upd_ne ne]
    exact n p (List.mem_cons_of_mem _ hp)
theorem laidAll {X : Cx} {pins : List (Addr × Obj)} {σ : L2.St} {h' : Heap} {t' : Nat} : ∀ {l : List (Addr × HO)} {H : Hp} {s : Shared}, Inv X pins σ H s → (∀ b u, s.heap.get? b = some u → h'.get? b = some u) → (l.map (·.1)).Nodup → (∀ p ∈ l, s.heap.get? p.1 = none ∧ H p.1 = none) →
    (∀ p ∈ l, ∀ (G : Hp) (g : Heap), g.get? p.1 = h'.get? p.1 → ObjOk X.prog X.w G g p.1 p.2) → (∀ p ∈ l, (h'.get? p.1).isSome = true) → Inv X pins σ (updAll H l) { s with heap := h', toks := t' }
  | [], H, s, I, k, _, _, _, _ => I.kept k
  | (a, o) :: l, H, s, I, k, nd, fr, ok, is => by
    rw [List.map_cons, List.nodup_cons] at nd
    obtain ⟨G, g1, g2⟩ := restrict h' fun b => decide (b = a) || (s.heap.get? b).isSome
    have ga : G.get? a = h'.get? a := g1 a (by simp)
    have gk : ∀ b u, s.heap.get? b = some u → G.get? b = some u := fun b u e => by rw [g1 b (by rw [e]; simp)]; exact k b u e
    have gs : ∀ b u, G.get? b = some u → h'.get? b = some u := fun b u e => by
      cases q : (decide (b = a) || (s.heap.get? b).isSome) with
      | true => rw [← g1 b q]; exact e
      | false => rw [g2 b q] at e; cases e
    have I1 : Inv X pins σ (upd H a o) { s with heap := G, toks := s.toks } := I.laidN gk (fr _ List.mem_cons_self).1 (fr _ List.mem_cons_self).2 (ok _ List.mem_cons_self _ G ga)
    show Inv X pins σ (updAll (upd H a o) l) _
    refine laidAll (s := { s with heap := G, toks := s.toks }) I1 gs nd.2 (fun p hp => ?_) (fun p hp => ok p (List.mem_cons_of_mem _ hp)) fun p hp => is p (List.mem_cons_of_mem _ hp)
    have ne : p.1 ≠ a := fun q => nd.1 (List.mem_map.mpr ⟨p, hp, q⟩)
    have f := fr p (List.mem_cons_of_mem _ hp)
    exact ⟨g2 _ (by rw [f.1, decide_eq_false ne]; rfl), by rw [upd_ne ne]; exact f.2⟩
/-- the pairs of a zip -/
def prL : List Addr → List V → List V → List (Addr × HO)
  | q :: qs, x :: xs, y :: ys => (q, .tup [x, y]) :: prL qs xs ys
  | _, _, _ => []
theorem prL_keys : ∀ {qs : List Addr} {xs ys : List V}, qs.length = xs.length → xs.length = ys.length → (prL qs xs ys).map (·.1) = qs
  | [], _, _, _, _ => rfl
  | q :: qs, [], _, h, _ => nomatch h
  | q :: qs, x :: xs, [], _, h => nomatch h
  | q :: qs, x :: xs, y :: ys, h1, h2 => congrArg (q :: ·) (prL_keys (Nat.succ.inj h1) (Nat.succ.inj h2))
theorem prL_at : ∀ {qs : List Addr} {xs ys : List V} {p : Addr × HO}, p ∈ prL qs xs ys → ∃ (j : Nat) (x y : V), qs[j]? = some p.1 ∧ xs[j]? = some x ∧ ys[j]? = some y ∧ p.2 = .tup [x, y]
  | [], _, _, _, h => by cases h
  | _ :: _, [], _, _, h => by cases h
  | _ :: _, _ :: _, [], _, h => by cases h
  | q :: qs, x :: xs, y :: ys, p, h => by
    rcases List.mem_cons.mp h with h | h
    · subst h; exact ⟨0, x, y, rfl, rfl, rfl, rfl⟩
    · obtain ⟨j, x', y', e1, e2, e3, e4⟩ := prL_at h
      exact ⟨j + 1, x', y', e1, e2, e3, e4⟩
theorem reps_zip {K : PySem.W.Frag} {F : Hp} : ∀ {qs : List Addr} {xs ys : List V} {ds es : List D}, RepL K F xs ds → RepL K F ys es → qs.length = xs.length → xs.length = ys.length → (∀ p ∈ prL qs xs ys, F p.1 = some p.2) → RepL K F (qs.map V.ref) (zipL ds es)
  | [], [], [], _, _, .nil, .nil, _, _, _ => .nil
  | q :: qs, x :: xs, y :: ys, _, _, .cons r1 t1, .cons r2 t2, h1, h2, h => .cons (.tup (h _ List.mem_cons_self) (.cons r1 (.cons r2 .nil))) (reps_zip t1 t2 (Nat.succ.inj h1) (Nat.succ.inj h2) fun p hp => h p (List.mem_cons_of_mem _ hp))
section
variable {prog : Program} {w : World} {A : Around} {E : Value → Shared → Prop} {s : Shared} {z TI TO i1 i2 l1 l2 : Addr} {xs ys : Array Value}
theorem code_tuple_zip {Q₁ : Value → Shared → Prop} (hA : A.handled = none) (D : ZipApart z TI TO i1 i2 l1 l2) (hn : min xs.size ys.size ≤ sizeLine)
    (q1 : IsZip s.heap z TI TO .none) (q2 : IsPair s.heap TI (.ref i1) (.ref i2)) (q3 : ∃ a b, IsPair s.heap TO a b) (q4 : s.heap.IsTupleIter i1 l1 0) (q5 : s.heap.IsTupleIter i2 l2 0) (q6 : s.heap.IsTuple l1 xs) (q7 : s.heap.IsTuple l2 ys)
    (h : ∀ h' acc, (∀ b o, b ∉ [z, TO, i1, i2] → s.heap.get? b = some o → h'.get? b = some o) → ZT.Prs s.heap h' [z, TO, i1, i2] xs ys acc (min xs.size ys.size) → ZT.Apt acc (min xs.size ys.size) → Q₁ (.ref h'.objs.size) { s with heap := h'.push { cls := .type "tuple", data := .seq acc } }) :
    codeAny (model prog w) A (.call (.builtin "tuple.__new__") ⟨[.type "tuple", .ref z], []⟩) (wants Q₁ E) s := by
  refine codeAny_of_tree ?_
  show wpAny _ A.in1 (do checkBuiltinCall "tuple.__new__" ⟨[.type "tuple", .ref z], []⟩; again (.builtin "tuple.__new__" ⟨[.type "tuple", .ref z], []⟩)) _ _ s
  refine wpAny_bind (wpAny_of_eq (F.newCall_tuple_1 _) (wpAny_pure ⟨plainId_quiet F.plain_tuple_new _, codeAny_builtin F.entry_tuple_new ?_⟩))
  rw [Around.under_plainId F.plain_tuple_new _]
  have hsub := sub_tuple_self
  have hinit := init_tuple_lookup
  have hmh := madeHere_tuple
  have hTI : s.TypeIs (.ref z) "zip" := ⟨_, q1, rfl⟩
  wp_walk using wpAny_typeOf hTI, ZT.collect_zip (A := A.in1) hA D hn q1 q2 q3 q4 q5 q6 q7
  intro h' acc hk hacc hap
  show wpAny _ _ (Builtin.Tuple.tupleExact acc.toList.toArray >>= fun v => ret v) _ _ _
  unfold Builtin.Tuple.tupleExact
  refine wpAny_bind (wpAny_newObj_type ?_ (by show acc.toList.toArray.size ≤ sizeLine; simp only [Array.toArray_toList]; rw [hacc.1]; exact hn))
  refine wpAny_pure ?_
  have e : acc.toList.toArray = acc := by simp
  rw [e]
  exact h h' acc hk hacc hap
theorem call_tuple_zip {Q : Value → Shared → Prop} (hA : A.handled = none) (D : ZipApart z TI TO i1 i2 l1 l2) (hn : min xs.size ys.size ≤ sizeLine)
    (q1 : IsZip s.heap z TI TO .none) (q2 : IsPair s.heap TI (.ref i1) (.ref i2)) (q3 : ∃ a b, IsPair s.heap TO a b) (q4 : s.heap.IsTupleIter i1 l1 0) (q5 : s.heap.IsTupleIter i2 l2 0) (q6 : s.heap.IsTuple l1 xs) (q7 : s.heap.IsTuple l2 ys)
    (hQ : ∀ h' acc, (∀ b o, b ∉ [z, TO, i1, i2] → s.heap.get? b = some o → h'.get? b = some o) → ZT.Prs s.heap h' [z, TO, i1, i2] xs ys acc (min xs.size ys.size) → ZT.Apt acc (min xs.size ys.size) → Q (.ref h'.objs.size) { s with heap := h'.push { cls := .type "tuple", data := .seq acc } }) :
    wpAny (model prog w) A (call (.type "tuple") [.ref z]) Q E s := by
  refine callType_codes (Q₁ := fun obj s₁ => s₁.TypeIs obj "tuple" ∧ Q obj s₁) F.called_tuple (F.typeCall_tuple_1 _) F.entry_object_init
    (code_tuple_zip (A := A.in1) hA D hn q1 q2 q3 q4 q5 q6 q7 fun h' acc hk hacc hap => ⟨⟨_, Heap.get?_push_size _ rfl, rfl⟩, hQ h' acc hk hacc hap⟩) fun obj s₁ h₁ => ?_
  exact ⟨h₁.1, F.args_object_init_2 obj _, object_init_meets F.called_tuple.init.lookup F.called_tuple.made (by decide) prog w A.in1 _ s₁ ⟨h₁.1, rfl, h₁.2⟩⟩
end
/-- addresses of pairs: apart, new -/
theorem prs_addrs {h0 h' : Heap} {bad : List Addr} {us ws : List Value} {acc : Array Value} {n : Nat} (P : ZT.Prs h0 h' bad us.toArray ws.toArray acc n) (hu : us.length = n) (hw : ws.length = n) :
    ∃ qs : List Addr, acc.toList = qs.map Value.ref ∧ qs.length = n ∧ ∀ (j : Nat) (q : Addr), qs[j]? = some q → ∃ x y, us[j]? = some x ∧ ws[j]? = some y ∧ IsPair h' q x y ∧ h0.objs.size ≤ q ∧ q ∉ bad := by
  obtain ⟨hs, P⟩ := P
  have go : ∀ m, m ≤ n → ∃ qs : List Addr, acc.toList.take m = qs.map Value.ref ∧ qs.length = m ∧ ∀ (j : Nat) (q : Addr), qs[j]? = some q → ∃ x y, us[j]? = some x ∧ ws[j]? = some y ∧ IsPair h' q x y ∧ h0.objs.size ≤ q ∧ q ∉ bad := fun m => by
    induction m with
    | zero => exact fun _ => ⟨[], rfl, rfl, fun j q h => by simp at h⟩
    | succ m ih =>
      intro hm
      obtain ⟨qs, e1, e2, e3⟩ := ih (by omega)
      obtain ⟨p, x, y, f1, f2, f3, f4, f5, f6⟩ := P m (by omega)
      refine ⟨qs ++ [p], ?_, by rw [List.length_append, e2]; rfl, fun j q h => ?_⟩
      · rw [List.take_succ, e1, List.map_append, show acc.toList[m]? = some (.ref p) by rw [Array.getElem?_toList]; exact f1]
        rfl
      · rw [List.getElem?_append] at h
        split at h
        · exact e3 j q h
        · rename_i hj
          rw [e2] at hj h
          have : j - m = 0 := by
            rcases Nat.eq_zero_or_pos (j - m) with z | z
            · exact z
            · rw [List.getElem?_eq_none (by simp; omega)] at h; cases h
          have hjm : j = m := by omega
          subst hjm
          rw [this] at h
          cases h
          exact ⟨x, y, by simpa using f2, by simpa using f3, f4, f5, f6⟩
  obtain ⟨qs, e1, e2, e3⟩ := go n (Nat.le_refl _)
  exact ⟨qs, by rw [← e1, List.take_of_length_le (by rw [Array.length_toList, hs]; exact Nat.le_refl _)], e2, e3⟩
theorem apt_nodup {acc : Array Value} {qs : List Addr} (e : acc.toList = qs.map Value.ref) (a : ZT.Apt acc qs.length) : qs.Nodup := by
  refine List.pairwise_iff_getElem.mpr fun i j hi hj hij h => ?_
  refine absurd (a i j hi hj ?_) (by omega)
  rw [← Array.getElem?_toList, ← Array.getElem?_toList, e, List.getElem?_map, List.getElem?_map, List.getElem?_eq_getElem hi, List.getElem?_eq_getElem hj, h]
/-- tuple(zip(a, b)) of two tuples of one length -/
def tTZip (K : PySem.W.Frag) (ta : TA) : TE := fun σ H Q => ta σ H fun vs H1 => ∃ (a b : Addr) (xs ys : List V), vs = [.ref a, .ref b] ∧ SqT K H1 a xs ∧ SqT K H1 b ys ∧ xs.length = ys.length ∧ xs.length ≤ 1000 ∧
  ∀ (qs : List Addr) (p : Addr), qs.length = xs.length → qs.Nodup → (∀ q ∈ qs, H1 q = none) → updAll H1 (prL qs xs ys) p = none → Q (.ref p) (upd (updAll H1 (prL qs xs ys)) p (.tup (qs.map .ref)))
theorem vals_at : ∀ {xs : List V} {us : List Value} {j : Nat} {u : Value}, Vals xs us → us[j]? = some u → ∃ x, xs[j]? = some x ∧ RelV x u
  | [], [], _, _, .nil, e => by simp at e
  | x :: xs, u :: us, 0, _, .cons r _, e => by cases e; exact ⟨x, rfl, r⟩
  | x :: xs, u :: us, j + 1, _, .cons _ t, e => vals_at (xs := xs) (us := us) t e
theorem pe_tzip {X : Cx} {e e2 : Expr} {ta : TA} {p q pos pos2 : Pos} (hcalm : X.calm = true) (hgD : Gl X "tuple") (hmD : X.mg "tuple" = none) (hgZ : Gl X "zip") (hmZ : X.mg "zip" = none) (ha : PA X [e, e2] ta)
    (hs : starEach [e, e2] X.env = (false, eval e X.env) :: starEach [e2] X.env := by rfl) (hpl : (backTo pos2 (starEach [e2] X.env)).any (·.1) = false := by rfl)
    (hs0 : starEach [Expr.Call (.Name "zip" q) [e, e2] [] pos2] X.env = (false, eval (.Call (.Name "zip" q) [e, e2] [] pos2) X.env) :: starEach [] X.env := by rfl) (hp0 : (backTo pos (starEach [] X.env)).any (·.1) = false := by rfl) :
    PE X (.Call (.Name "tuple" p) [.Call (.Name "zip" q) [e, e2] [] pos2] [] pos) (tTZip X.K ta) := by
  refine ⟨fun pins s σ H Q I h => ?_⟩
  refine Call_ (ld_blt I hgD hmD PyProof.Rows.boot_tuple (PyProof.Rows.callWith_type1 ?_ hs0 hp0))
  rw [hs0]
  show wpAny _ _ (spliced ((false, eval (.Call (.Name "zip" q) [e, e2] [] pos2) X.env) :: backTo pos (starEach [] X.env))) _ _ s
  refine Calls.spliced_cons ?_
  refine Call_ (ld_blt I hgZ hmZ PyProof.Rows.boot_zip (PyProof.Rows.callWith_type1 (thn (ha.run pos2 pins s σ H _ I h) fun us s1 ⟨vs, H1, I1, r1, q1⟩ => ?_) hs hpl))
  obtain ⟨a, b, xs, ys, ex, sa, sb, hl, hz, q1⟩ := q1
  subst ex
  cases r1 with
  | cons r rr =>
    cases rr with
    | cons r' rr =>
      cases rr
      cases r
      cases r'
      obtain ⟨its, rv, p1, _⟩ := I1.tuple sa
      obtain ⟨its2, rv2, p2, _⟩ := I1.tuple sb
      obtain ⟨o1, ho1, _⟩ := id p1
      obtain ⟨o2, ho2, _⟩ := id p2
      have D := PySem.W.ktu_apart s1.heap.objs.size a b (Heap.lt_size ho1) (Heap.lt_size ho2)
      have l1 : its.length = xs.length := by rw [← rv.length]
      have l2 : its2.length = xs.length := by rw [← rv2.length, hl]
      refine RZ.call_zipT (show s1.heap.IsTuple a its.toArray from p1) (show s1.heap.IsTuple b its2.toArray from p2) fun h' hz0 hTI hTO h1 h2 hsz hk => ?_
      refine Calls.spliced_nil ?_
      have hn : min its.toArray.size its2.toArray.size = xs.length := by simp [l1, l2]
      refine call_tuple_zip (I.ok.hd hcalm) D (by rw [hn]; exact Nat.le_trans hz (by decide)) hz0 hTI ⟨_, _, hTO⟩ h1 h2 ((show s1.heap.IsTuple a its.toArray from p1).at fun o e => hk _ o e) ((show s1.heap.IsTuple b its2.toArray from p2).at fun o e => hk _ o e) fun h'' acc hk' hprs hapt => ?_
      rw [hn] at hprs hapt
      obtain ⟨qs, e1, e2, e3⟩ := prs_addrs hprs l1 l2
      have nd : qs.Nodup := apt_nodup e1 (by rw [e2]; exact hapt)
      have kp : ∀ b o, s1.heap.get? b = some o → h''.get? b = some o := fun b o eb => hk' b o (fun hb => by
          have hlt := Heap.lt_size eb
          simp only [List.mem_cons, List.not_mem_nil, or_false] at hb
          rcases hb with rfl | rfl | rfl | rfl
          · exact absurd hlt (Nat.not_lt.mpr (Nat.le_add_right _ _))
          · exact absurd hlt (Nat.not_lt.mpr (Nat.le_add_right _ _))
          · exact absurd hlt (Nat.lt_irrefl _)
          · exact absurd hlt (Nat.not_lt.mpr (Nat.le_add_right _ _))) (hk b o eb)
      have new : ∀ q ∈ qs, s1.heap.get? q = none ∧ H1 q = none := fun q hq => by
        obtain ⟨j, hj⟩ := List.mem_iff_getElem?.mp hq
        obtain ⟨x, y, _, _, _, f5, f6⟩ := e3 j q hj
        have hge : s1.heap.objs.size ≤ q := Nat.le_trans (by rw [hsz]; exact Nat.le_add_right _ _) f5
        refine ⟨?_, I1.hok.fresh hge⟩
        cases z : s1.heap.get? q with
        | none => rfl
        | some o => exact absurd (Heap.lt_size z) (Nat.not_lt.mpr hge)
      have keys := prL_keys (qs := qs) (xs := xs) (ys := ys) e2 hl
      have I2 : Inv X pins σ (updAll H1 (prL qs xs ys)) { s1 with heap := h'', toks := s1.toks } := laidAll I1 kp (by rw [keys]; exact nd) (fun p hp => new p.1 (by rw [← keys]; exact List.mem_map_of_mem (f := fun x : Addr × HO => x.1) hp)) (fun p hp G g eg => by
        obtain ⟨j, x, y, g1, g2, g3, g4⟩ := prL_at hp
        obtain ⟨u, w, f1, f2, f3, _⟩ := e3 j p.1 g1
        obtain ⟨x', k1, r1⟩ := vals_at rv f1
        obtain ⟨y', k2, r2⟩ := vals_at rv2 f2
        rw [g2] at k1
        rw [g3] at k2
        cases k1
        cases k2
        rw [g4]
        exact ⟨show 2 ≤ sizeLine by decide, [u, w], .cons r1 (.cons r2 .nil), _, eg.trans f3, rfl, _, rfl⟩) fun p hp => by
        obtain ⟨j, x, y, g1, _⟩ := prL_at hp
        obtain ⟨u, w, f1, f2, f3, _⟩ := e3 j p.1 g1
        rw [f3]
        rfl
      have fr := I2.hok.fresh (Nat.le_refl h''.objs.size)
      refine ⟨.ref h''.objs.size, upd (updAll H1 (prL qs xs ys)) h''.objs.size (.tup (qs.map .ref)), I2.laid (t' := s1.toks) (fun b u e => Heap.get?_push_of_some _ e) (Nat.le_refl _) ?_, rfl, q1 qs _ e2 nd (fun q hq => (new q hq).2) fr⟩
      refine ⟨by rw [List.length_map, e2]; exact Nat.le_trans hz (by decide), qs.map .ref, ?_, ?_⟩
      · clear e1 e2 e3 nd new keys I2 fr hprs hapt
        induction qs with
        | nil => exact .nil
        | cons q qs ih => exact .cons rfl ih
      · rw [← e1]
        exact ⟨_, Heap.get?_push_size _ rfl, rfl, _, congrArg (fun a => Data.seq a _) (Array.toArray_toList (xs := acc)).symm⟩
section
variable {X : Cx} {c : Fc} {W : WX}
def tzipD (ta : TDA) : TD := fun δ Q E => ta δ (fun as δ1 => ∃ xs ys : List D, as = [.d (.tup xs), .d (.tup ys)] ∧ xs.length = ys.length ∧ xs.length ≤ 1000 ∧ Q (.d (.tup (zipL xs ys))) δ1) E
theorem pd_tzip {e e2 : Expr} {ta : TDA} {p q pos pos2 : Pos} (hcalm : X.calm = true) (hgD : Gl X "tuple") (hmD : X.mg "tuple" = none) (hgZ : Gl X "zip") (hmZ : X.mg "zip" = none) (ha : PA X [e, e2] (LA X.K c W ta))
    (hs : starEach [e, e2] X.env = (false, eval e X.env) :: starEach [e2] X.env := by rfl) (hpl : (backTo pos2 (starEach [e2] X.env)).any (·.1) = false := by rfl)
    (hs0 : starEach [Expr.Call (.Name "zip" q) [e, e2] [] pos2] X.env = (false, eval (.Call (.Name "zip" q) [e, e2] [] pos2) X.env) :: starEach [] X.env := by rfl) (hp0 : (backTo pos (starEach [] X.env)).any (·.1) = false := by rfl) :
    PE X (.Call (.Name "tuple" p) [.Call (.Name "zip" q) [e, e2] [] pos2] [] pos) (LE X.K c W (tzipD ta)) :=
  PE_imp (pe_tzip hcalm hgD hmD hgZ hmZ ha hs hpl hs0 hp0) fun σ H Q ⟨δ, tmp, Qd, Ed, S, t, k, w⟩ => ⟨δ, tmp, _, Ed, S, t, fun vs as δ1 F ow H1 ⟨xs, ys, ea, hl, hz, q⟩ S1 ra => by
    subst ea
    cases ra with
    | d r1 ra =>
      cases ra with
      | d r2 ra =>
        cases ra
        cases r1 with
        | @tup pa va _ s1 q1 =>
          cases r2 with
          | @tup pb vb _ s2 q2 =>
            refine ⟨_, _, _, _, rfl, SqT.of (S1.fh _ _ s1), SqT.of (S1.fh _ _ s2), q1.len.trans (hl.trans q2.len.symm), Nat.le_trans (Nat.le_of_eq q1.len) hz, fun qs p h1 h2 h3 h4 => ?_⟩
            have keys := prL_keys h1 (q1.len.trans (hl.trans q2.len.symm))
            have nd : ((prL qs va vb).map (·.1)).Nodup := by rw [keys]; exact h2
            have ext := Ext.newAll S1.fh nd fun pr hp => h3 _ (by rw [← keys]; exact List.mem_map_of_mem (f := fun x : Addr × HO => x.1) hp)
            have S2 := S1.ext ext
            have ext2 := Ext.new (o := .tup (qs.map .ref)) ext.fh h4
            have S3 := S2.ext ext2
            refine k _ _ _ _ q ⟨_, _, S3.push (.tup upd_same ?_)⟩
            exact reps_zip ((q1.mono ext.f).mono ext2.f) ((q2.mono ext.f).mono ext2.f) h1 (q1.len.trans (hl.trans q2.len.symm)) fun pr hp => ext2.f _ _ (updAll_at nd hp), w⟩
end
end DL
namespace DR
open PySem PySem.Spec PyProof.Rows L2 DL
theorem tzip {δ : DSt} {Q : DK} {E : XD} {ta : TDA} (h : ta δ (fun as δ1 => ∃ xs ys : List DL.D, as = [.d (.tup xs), .d (.tup ys)] ∧ xs.length = ys.length ∧ xs.length ≤ 1000 ∧ Q (.d (.tup (zipL xs ys))) δ1) E) : tzipD ta δ Q E := h
end DR

set_option Elab.async false
set_option linter.all false
set_option maxRecDepth 100000
set_option maxHeartbeats 2000000
/-! DL49: sum and any of a tuple of whole numbers -/
namespace DL
open PySem PySem.Spec PyProof.Rows L2
open PySem.Sem (wp)
theorem iter_anyT {prog : Program} {w : World} {A : Around} {E : Value → Shared → Prop} {s : Shared} {l : Addr} {items : Array Value} {Q : Value → Shared → Prop} (hl : s.heap.IsTuple l items)
    (h : ∀ s₂ : Shared, s₂ = { s with heap := s.heap.push { cls := .type "tuple_iterator", data := .fields #[.ref l, .int 0 0] } } →
      (s₂.heap.IsTupleIter s.heap.objs.size l 0 ∧ s₂.heap.IsTuple l items) → (∀ b ∈ [s.heap.objs.size, l], b < s₂.heap.objs.size) → l ≠ s.heap.objs.size → Q (.ref s.heap.objs.size) s₂) : wpAny (model prog w) A (pyIter (.ref l)) Q E s := by
  have hlt : l < s.heap.objs.size := by obtain ⟨_, e, _⟩ := hl; exact Heap.lt_size e
  refine wpAny_pyIter_tuple hl (h _ rfl ⟨⟨_, Heap.get?_push_size _ rfl, rfl, rfl⟩, hl.at fun o e => Heap.get?_push_of_some _ e⟩ (fun b hb => ?_) (Nat.ne_of_lt hlt))
  show b < (s.heap.push _).objs.size
  rw [Heap.size_push]
  simp only [List.mem_cons, List.not_mem_nil, or_false] at hb
  rcases hb with rfl | rfl
  · exact Nat.lt_succ_self _
  · exact Nat.lt_succ_of_lt hlt
def rAnyI (K : PySem.W.Frag) : List V → Hp → VK → Prop := fun vs H Q => ∃ (a : Addr) (ns : List Int), vs = [V.ref a] ∧ SqT K H a (ns.map V.int) ∧ Q (.bl (ns.any fun i => i != 0)) H
theorem truth_ints {prog : Program} {w : World} {A : Around} {ns : List Int} {its : List Value} (e : Vals (ns.map V.int) its) : TruthOf prog w A (fun i v => its.toArray[i]? = some v) (fun i => ns.getD i 0 != 0) := fun i v s Q E hv hq => by
  have hv' : its[i]? = some v := by simpa using hv
  obtain ⟨x, hx, r⟩ := vals_at e hv'
  rw [List.getElem?_map] at hx
  obtain ⟨n, hn, rfl⟩ := Option.map_eq_some_iff.mp hx
  obtain ⟨t, rfl⟩ := (show ∃ t, v = Value.int n t from r)
  have hg : ns.getD i 0 = n := by rw [List.getD_eq_getElem?_getD, hn]; rfl
  have hq' : Q (ns.getD i 0 != 0) s := hq
  rw [hg] at hq'
  exact PyProof.Rows.truthy_int hq'
theorem any_rangeI : ∀ ns : List Int, ((List.range ns.length).any fun i => ns.getD i 0 != 0) = ns.any fun i => i != 0
  | [] => rfl
  | b :: bs => by
    rw [List.length_cons, List.range_succ_eq_map, List.any_cons, List.any_map, List.any_cons, ← any_rangeI bs]
    rfl
section
variable {X : Cx} {K : PySem.W.Frag}
theorem cr_anyI (hc : X.calm = true) : CallR X (.builtin "any") (rAnyI X.K) := by
  intro pins s σ H vs us Q I r h
  obtain ⟨a, ns, rfl, hs, q⟩ := h
  obtain ⟨its, rv, hl, _⟩ := I.tuple hs
  rw [Vals.ref1 r]
  refine call_any_walk (iter_anyT hl fun s₂ e2 st _ hne => ?_)
  subst e2
  refine ⟨_, _, _, _, _, _, _, rfl, Walks.tuple (A := X.A.in1) (I.ok.hd hc) _ a hne its.toArray, st, truth_ints rv, fun h' tk hk => ?_⟩
  refine ⟨.bl _, H, I.kept fun b o eo => hk b o (fun hmem => ?_) (Heap.get?_push_of_some _ eo), ?_, q⟩
  · rcases List.mem_cons.mp hmem with e1 | hmem
    · exact absurd (e1 ▸ Heap.lt_size eo) (Nat.lt_irrefl _)
    · cases hmem
  · show Value.bool _ = Value.bool _
    rw [← any_rangeI, List.size_toArray, ← rv.length, List.length_map]
abbrev anyIS : RDNs := fun ds Q => ∃ ns : List Int, ds = [.tup (ns.map .int)] ∧ Q (.bl (ns.any fun i => i != 0))
theorem cn_anyI : CallNs K (rAnyI K) anyIS := fun xs ds F H Q Qd s r ⟨bs, e, q⟩ k => by
  subst e
  cases r with
  | cons r t =>
    cases t
    cases r with
    | tup s1 r1 =>
      cases repL_int r1
      exact ⟨_, bs, rfl, SqT.of (s _ _ s1), k _ _ q rfl⟩
end
end DL

set_option Elab.async false
set_option linter.all false
set_option maxRecDepth 100000
set_option maxHeartbeats 2000000
/-! DL50: own * with a whole number on the right; - of an own object -/
namespace DL
open PySem PySem.Spec PyProof.Rows L2
open PySem.Sem (wp)
section
variable {X : Cx} {k : Nat} {f C : Addr} {fd : FuncData} {ps : List Str} {sp : Sp} {E : L2.St → XK} {a b : Expr} {ta tb : TE} {pos : Pos} {r : L2.St → R2}
/-- an operator of C with a whole number on the right -/
structure BinT (K : PySem.W.Frag) (C : Addr) (op : Operator) (f : Addr) : Prop where
  sf : PySem.W.selfFirst K C = true
  at_ : PySem.W.findIn K (.ref C) (PySem.dunder op.info.2) = some (some (.ref f))
  fn : PySem.W.isFn K (.ref f) = true
  rv : PySem.W.findIn K (.ref C) (PySem.dunderR op.info.2) = some none
  i1 : ∃ fo, PySem.W.findIn K (.type "int") (PySem.dunder op.info.2) = some fo
  i2 : ∃ ro, PySem.W.findIn K (.type "int") (PySem.dunderR op.info.2) = some ro
  sub : PySem.W.subIn K (.type "int") (.ref C) = some false
def rInt (C : Addr) (sp : Sp) (E : L2.St → XK) : L2.St → R2 := fun τ x y G Q => ∃ p d us i, x = .ref p ∧ y = .int i ∧ G p = some (.ins C d us) ∧ sp [x, y] G Q (E τ)
theorem op_binT {op : Operator} (B : BinT X.K C op f) (F : FnOk X.prog X.w X.K X.mg X.base (L2.CX X.prog X.w) k f fd ps sp) (room : Room k X.A) (bd : Binds X.K fd ps [])
    (hx : ∀ τ, PassesAt (L2.CX X.prog X.w) X τ (E τ)) : OpS X (binaryOp op) (rInt C sp E) := by
  rintro pins t τ G x y v u Q I rx ry ⟨p, d, us, i, rfl, rfl, hp, h⟩
  obtain rfl : v = Value.ref p := rx
  obtain ⟨tk, rfl⟩ : ∃ tk, u = Value.int i tk := ry
  obtain ⟨_, O, _⟩ := ins_get I.hok hp
  obtain ⟨_, J, _⟩ := O.look
  obtain ⟨_, fr⟩ := I.fr
  obtain ⟨fo, i1⟩ := B.i1
  obtain ⟨ro, i2⟩ := B.i2
  refine PySem.W.ksp_binT (op := op) (T := "int") fr I.ok.mod.kin J rfl B.sf B.at_ B.fn B.rv (.inl rfl) i1 i2 B.sub ?_
  exact wpAny_mono (run_fnS (E := E) F room bd (hx τ) I (.cons (show RelV (V.ref p) (Value.ref p) from rfl) (.cons (show RelV (V.int i) (Value.int i tk) from ⟨tk, rfl⟩) .nil)) h) (fun z t2 ⟨y, G2, I2, ry, qy⟩ => SlX.cmpback ry ⟨y, G2, I2, ry, qy⟩) fun _ _ z => z
end
section
variable {X : Cx} {c : Fc} {W : WX} {k : Nat} {f C : Addr} {fd : FuncData} {ps : List Str} {sd : SpD} {a b : Expr} {ta tb : TD} {pos : Pos}
def intD (C : Addr) (sd : SpD) (ta tb : TD) : TD := fun δ Q E => ta δ (fun x δ1 => tb δ1 (fun y δ2 => ∃ fs i, x.toD = .obj C fs ∧ y.toD = .int i ∧ sd [.d (.obj C fs), .d (.int i)] (fun r _ => Q r δ2) (fun x _ => E x δ2)) E) E
theorem pd_binT {op : Operator} (B : BinT X.K C op f) (G : FnOk X.prog X.w X.K X.mg X.base (L2.CX X.prog X.w) k f fd ps (spOf X.K sd)) (hr : Room k X.A) (hb : Binds X.K fd ps []) (tk : Takes X W) (he : PE X a (LE X.K c W ta)) (hg : PE X b (LE X.K c W tb)) :
    PE X (.BinOp a op b pos) (LE X.K c W (intD C sd ta tb)) :=
  PE_imp (pe_opS (op_binT (E := WE W) B G hr hb fun τ => passAt tk τ) he hg) fun σ H Q ⟨δ, tmp, Qd, Ed, S, t, k, w⟩ =>
    ⟨δ, tmp, _, Ed, S, t, fun v x δ1 H1 t1 S1 => ⟨δ1, _, _, Ed, S1, t1, fun u y δ2 H2 ⟨fs, i, ex, ey, t2⟩ ⟨F, ow, S2⟩ => by
      obtain ⟨F', S3, _⟩ := S2.top_frz2
      rw [ex, ey] at S3
      have r1 := S3.pop.top
      have r2 := S3.top
      have both : ∃ p, v = .ref p ∧ u = .int i := by
        cases r1; cases r2; exact ⟨_, rfl, rfl⟩
      obtain ⟨p, rfl, rfl⟩ := both
      have s1 : ∃ d us, H2 p = some (.ins C d us) := by cases r1 with | obj s _ => exact ⟨_, _, S3.fh _ _ s⟩
      obtain ⟨d1, us1, h1⟩ := s1
      exact ⟨p, d1, us1, i, rfl, rfl, h1, lift_data (ds := [.obj C fs, .int i]) S3.pop.pop (.cons r1 (.cons r2 .nil)) t2 k w⟩, w.push⟩, w⟩
/-- an operator of C with a whole number on the right -/
structure DefBT (P : Program) (w : World) (K : PySem.W.Frag) (mg : Str → Option Value) (base : Heap) (C : Addr) (op : Operator) (k : Nat) (ps : List Str) (sd : SpD) where
  f : Addr
  fd : FuncData
  ok : FnOk P w K mg base (L2.CX P w) k f fd ps (spOf K sd)
  b : Binds K fd ps []
  bo : BinT K C op f
end
end DL
namespace DR
open PySem PySem.Spec PyProof.Rows L2 DL
section
variable {δ : DSt} {Q : DK} {E : XD}
theorem intO {C : Addr} {sd : SpD} {ta tb : TD} (h : ta δ (fun x δ1 => tb δ1 (fun y δ2 => ∃ fs i, x.toD = .obj C fs ∧ y.toD = .int i ∧ sd [.d (.obj C fs), .d (.int i)] (fun r _ => Q r δ2) (fun x _ => E x δ2)) E) E) : intD C sd ta tb δ Q E := h
end
end DR

set_option Elab.async false
set_option linter.all false
set_option maxRecDepth 100000
set_option maxHeartbeats 2000000
/-! DL51: list(text), slices of texts -/
namespace DL
open PySem PySem.Spec PyProof.Rows L2
theorem call_listS {X : Cx} (hc : X.calm = true) : CallR X (.type "list") (fun xs H Q => ∃ z : Str, xs = [.str z] ∧ z.length ≤ sizeLine ∧ ∀ p, H p = none → Q (.ref p) (upd H p (.lst (z.cps.toList.map fun c => V.str ⟨#[c]⟩)))) := by
  intro pins s σ H xs us Q I r h
  obtain ⟨z, rfl, hz, q⟩ := h
  obtain ⟨u, rfl, rx⟩ : ∃ u, us = [u] ∧ RelV (.str z) u := by
    cases r with
    | cons r t => cases t; exact ⟨_, rfl, r⟩
  obtain ⟨t, rfl⟩ := rx
  refine PySem.call_list_str (I.ok.hd hc) z t (hn := hz) fun h' tk acc' c' hk hS' hacc => ?_
  refine ⟨.ref s.heap.objs.size, _, I.laid (t' := tk) hk (Nat.le_refl _) (show ObjOk X.prog X.w _ h' _ (.lst _) from ⟨by rw [List.length_map, Array.length_toList]; exact hz, acc'.toList, c', ?_, by simpa using hS'⟩), rfl, q _ (I.hok.fresh (Nat.le_refl _))⟩
  refine vals_of_idx _ _ (by rw [List.length_map, Array.length_toList, Array.length_toList]; exact hacc.1) fun j u hj => ?_
  obtain ⟨c, u', hc', rfl⟩ := hacc.2 j u (by simpa using hj)
  exact ⟨.str ⟨#[c]⟩, by simp [hc'], ⟨u', rfl⟩⟩
theorem reps_signs {K : PySem.W.Frag} {F : Hp} {z : Str} (h : PyData.strOk z = true) : ∀ {l : List Nat}, (∀ c ∈ l, c ∈ z.cps.toList) → RepL K F (l.map fun c => V.str ⟨#[c]⟩) (l.map fun c => D.str ⟨#[c]⟩)
  | [], _ => .nil
  | c :: l, k => .cons (.str (strOk_one h (k c List.mem_cons_self))) (reps_signs h fun d hd => k d (List.mem_cons_of_mem _ hd))
abbrev listSN : RDN := fun ds Q => ∃ z : Str, ds = [.str z] ∧ z.length ≤ sizeLine ∧ Q (.own (.lst (z.cps.toList.map fun c => D.str ⟨#[c]⟩)))
theorem cn_listS {K : PySem.W.Frag} : CallN K (fun xs H Q => ∃ z : Str, xs = [V.str z] ∧ z.length ≤ sizeLine ∧ ∀ p, H p = none → Q (.ref p) (upd H p (.lst (z.cps.toList.map fun c => V.str ⟨#[c]⟩)))) listSN := fun xs ds F H Q Qd s r ⟨z, e1, hz, q⟩ k => by
  subst e1
  cases r with
  | cons r t =>
    cases t
    cases r with
    | str ok => exact ⟨z, rfl, hz, fun l n => k _ _ _ _ q (made_list n s (reps_signs ok fun c hc => hc))⟩
theorem slice_cps (z : Str) (lo hi : Option Int) : (Txt.slice z lo hi).cps.toList = (z.cps.toList.drop (HT.sIx z.length 0 lo)).take (HT.sIx z.length z.length hi - HT.sIx z.length 0 lo) := by
  rw [← C8.cutS_slice]
  unfold cutS
  simp
theorem slice_hi {z : Str} {n : Nat} (h : n ≤ z.length) : (Txt.slice z none (some (n : Int))).cps.toList = z.cps.toList.take n := by
  rw [slice_cps]
  have e : HT.sIx z.length z.length (some (n : Int)) = n := by unfold HT.sIx; simp; split <;> omega
  have e0 : HT.sIx z.length 0 none = 0 := rfl
  rw [e, e0]
  simp
theorem slice_lo {z : Str} {n : Nat} (h : n ≤ z.length) : (Txt.slice z (some (n : Int)) none).cps.toList = z.cps.toList.drop n := by
  rw [slice_cps]
  have e : HT.sIx z.length 0 (some (n : Int)) = n := by unfold HT.sIx; simp; split <;> omega
  have e0 : HT.sIx z.length z.length none = z.length := rfl
  rw [e, e0]
  refine List.take_of_length_le ?_
  rw [List.length_drop, Array.length_toList]
  exact Nat.le_refl _
theorem strOk_cut {z : Str} {lo hi : Option Int} (h : PyData.strOk z = true) : PyData.strOk (Txt.slice z lo hi) = true := by
  unfold PyData.strOk at *
  rw [← Array.all_toList] at *
  rw [List.all_eq_true] at *
  intro c hc
  rw [slice_cps] at hc
  exact h c (List.mem_of_mem_drop (List.mem_of_mem_take hc))
abbrev sliceTx : RDS := fun a lo hi Q => ∃ z, a = .str z ∧ z.length ≤ sizeLine ∧ Q (.d (.str (Txt.slice z lo hi)))
theorem sld_txt {K : PySem.W.Frag} : SlD K C8.rSlX sliceTx := fun x a lo hi F H Q Qd s r ⟨z, e, hz, q⟩ k => by
  subst e
  cases r with
  | str ok => exact ⟨z, rfl, hz, k _ _ F H q (made_d s (.str (strOk_cut ok)))⟩
section
variable {X : Cx} {c : Fc} {W : WX}
theorem pd_sliceS {e : Expr} {lo hi : Option Expr} {t : TD} {tl th : TDO} {p2 pos : Pos} (he : PE X e (LE X.K c W t)) (hl : PO X lo (LO X.K c W tl)) (hh : PO X hi (LO X.K c W th)) : PE X (.Subscript e (.Slice lo hi none p2) pos) (LE X.K c W (sliceD sliceTx t tl th)) := pd_sliceR C8.sl_txt sld_txt he hl hh
end
end DL

set_option Elab.async false
set_option linter.all false
set_option maxRecDepth 100000
set_option maxHeartbeats 2000000
/-! DL52: xs[::-1] of a list -/
namespace DL
open PySem PySem.Spec PyProof.Rows L2
section
variable {X : Cx} {c : Fc} {W : WX}
end
end DL
namespace DR
open PySem PySem.Spec PyProof.Rows L2 DL
section
variable {δ : DSt} {Q : DK} {E : XD}
theorem slc {rd : RDS} {t : TD} {tl th : TDO} (h : t δ (fun x δ1 => tl δ1 (fun l δ2 => th δ2 (fun h δ3 => rd x.toD l h fun z => Q z δ3) E) E) E) : sliceD rd t tl th δ Q E := h
theorem slN {Q : Option Int → DSt → Prop} (h : Q none δ) : noneO δ Q E := h
theorem slS {t : TD} {Q : Option Int → DSt → Prop} (h : t δ (fun x δ1 => ∃ i, x.toD = .int i ∧ Q (some i) δ1) E) : someO t δ Q E := h
end
end DR

set_option Elab.async false
set_option linter.all false
set_option maxRecDepth 100000
set_option maxHeartbeats 2000000
/-! DL53: xs.count(x), texts -/
namespace DL
open PySem PySem.Spec PyProof.Rows L2
section
variable {X : Cx} {c : Fc} {W : WX}
end
end DL
namespace DR
open PySem PySem.Spec PyProof.Rows L2 DL
end DR

set_option Elab.async false
set_option linter.all false
set_option maxRecDepth 100000
set_option maxHeartbeats 2000000
/-! DL54: a dict comprehension with plain keys, over data -/
namespace DL
open PySem PySem.Spec PyProof.Rows L2
def putKD (kvs : List (Key × D)) (k : Key) (d : D) : List (Key × D) :=
  if (kvs.any fun kv => decide (kv.1 = k)) = true then kvs.map (fun kv => if kv.1 = k then (kv.1, d) else kv) else kvs ++ [(k, d)]
theorem repK_any {K : PySem.W.Frag} {F : Hp} {k : Key} : ∀ {vs : List (Key × V)} {ds : List (Key × D)}, RepK K F vs ds → (vs.any fun kv => decide (kv.1 = k)) = (ds.any fun kv => decide (kv.1 = k))
  | _, _, .nil => rfl
  | _, _, .cons h t => by rw [List.any_cons, List.any_cons, repK_any t]
theorem repK_set {K : PySem.W.Frag} {F : Hp} {k : Key} {v : V} {d : D} (r : Rep K F v d) : ∀ {vs : List (Key × V)} {ds : List (Key × D)}, RepK K F vs ds → RepK K F (vs.map fun kv => if kv.1 = k then (kv.1, v) else kv) (ds.map fun kv => if kv.1 = k then (kv.1, d) else kv)
  | _, _, .nil => .nil
  | _, _, .cons (n := n) h t => by
    rw [List.map_cons, List.map_cons]
    by_cases e : n = k
    · rw [if_pos e, if_pos e]
      exact .cons r (repK_set r t)
    · rw [if_neg e, if_neg e]
      exact .cons h (repK_set r t)
theorem repK_snoc {K : PySem.W.Frag} {F : Hp} {k : Key} {v : V} {d : D} (r : Rep K F v d) : ∀ {vs : List (Key × V)} {ds : List (Key × D)}, RepK K F vs ds → RepK K F (vs ++ [(k, v)]) (ds ++ [(k, d)])
  | _, _, .nil => .cons r .nil
  | _, _, .cons h t => .cons h (repK_snoc r t)
theorem repK_put {K : PySem.W.Frag} {F : Hp} {k : Key} {v : V} {d : D} (r : Rep K F v d) {vs : List (Key × V)} {ds : List (Key × D)} (h : RepK K F vs ds) : RepK K F (putK vs k v) (putKD ds k d) := by
  unfold putK putKD
  rw [repK_any h]
  split
  · exact repK_set r h
  · exact repK_snoc r h
theorem repK_len {K : PySem.W.Frag} {F : Hp} : ∀ {vs : List (Key × V)} {ds : List (Key × D)}, RepK K F vs ds → vs.length = ds.length
  | _, _, .nil => rfl
  | _, _, .cons _ t => congrArg Nat.succ (repK_len t)
section
variable {X : Cx} {c : Fc} {W : WX}
def dcD (g : TDG) (tt : TDT) (tk te : TD) (vs : List Nat) : List D → List (Key × D) → DSt → (List (Key × D) → DSt → Prop) → Prop
  | [], acc, δ, Q => Q acc δ
  | x :: xs, acc, δ, Q => g x δ fun δ1 => tt δ1 (fun b δ2 => if b = true then tk δ2 (fun y δ3 => te δ3 (fun z δ4 => ∃ k : Key, y.toD = keyOne k ∧ acc.length < sizeLine ∧ dcD g tt tk te vs xs (putKD acc k z.toD) (wipeD δ4 vs) Q) noX) noX else dcD g tt tk te vs xs acc (wipeD δ2 vs) Q) noX
def dcompD (ti : TDI) (g : TDG) (tt : TDT) (tk te : TD) (vs : List Nat) : TD := fun δ Q E => ti δ (fun xs δ1 => dcD g tt tk te vs xs [] (wipeD δ1 vs) fun acc δ2 => Q (.own (.dK acc)) δ2) E
theorem lift_dcomp {K : PySem.W.Frag} {ti : TDI} {g : TDG} {tt : TDT} {tk te : TD} {vs : List Nat} (hv : ∀ i ∈ vs, i ∉ c.sl) : ∀ σ H Q, LE K c W (dcompD ti g tt tk te vs) σ H Q → tDc (LI K c W ti) (LG K c vs g) (LT K c W0 tt) (LE K c W0 tk) (LE K c W0 te) vs σ H Q := fun σ H Q ⟨δ, tmp, Qd, Ed, S, q, k, w⟩ => by
  refine ⟨δ, tmp, _, _, S, q, fun J v src items δ1 H1 q1 sv ⟨F1, ow1, S1⟩ => ?_, w⟩
  intro D nD
  have S2 := (S1.wipe hv).pushNew (o := .dK []) nD ⟨[], upd_same, .nil⟩
  refine ⟨fun i m H => m = items.length - i ∧ i ≤ items.length ∧ ∃ δ acc, Stt K c (wipeD δ vs) ((.ref D, .own (.dK acc)) :: (v, .d src) :: tmp) (wipe σ vs) H ∧ dcD g tt tk te vs (items.drop i) acc (wipeD δ vs) fun acc δ2 => Qd (.own (.dK acc)) δ2,
    ⟨items.length, by simp, Nat.zero_le _, δ1, [], ⟨_, _, S2⟩, q1⟩, ?_⟩
  rintro i m H2 ⟨rfl, hi, δ2, acc, ⟨F2, ow2, S3⟩, q2⟩
  have src2 : Rep K F2 v src := S3.tm.2.1
  by_cases hlt : i < items.length
  · refine .inr ⟨sv.go i F2 H2 S3.fh src2 hlt, fun H => i + 1 ≤ items.length ∧ ∃ δ acc, Stt K c (wipeD δ vs) ((.ref D, .own (.dK acc)) :: (v, .d src) :: tmp) (wipe σ vs) H ∧ dcD g tt tk te vs (items.drop (i + 1)) acc (wipeD δ vs) fun acc δ2 => Qd (.own (.dK acc)) δ2,
      fun H' h => ⟨items.length - (i + 1), by omega, rfl, h⟩, fun x H' y => ?_⟩
    obtain ⟨F3, e3, r3⟩ := sv.yld i F2 H2 x H' S3.fh src2 y _ (List.getElem?_eq_getElem hlt)
    rw [List.drop_eq_getElem_cons hlt] at q2
    refine ⟨wipeD δ2 vs, (.ref D, .own (.dK acc)) :: (v, .d src) :: tmp, _, _, ⟨F3, ow2, (S3.ext e3).push r3⟩, q2, fun δ4 σ4 H4 q4 S4 hw => ?_⟩
    have hw' : wipe σ4 vs = wipe σ vs := by
      rw [hw]
      have idem : ∀ (l : List Nat), (∀ i ∈ l, i ∈ vs) → wipe (wipe σ l) vs = wipe σ vs := fun l => by
        induction l with
        | nil => exact fun _ => rfl
        | cons a r ih =>
          intro h
          show wipe ((wipe σ r).set a none) vs = _
          rw [wipe_set (h a List.mem_cons_self)]
          exact ih fun i hi => h i (List.mem_cons_of_mem _ hi)
      exact idem vs fun _ h => h
    refine ⟨hw', δ4, _, _, noX, S4, q4, fun b δ5 H5 q5 ⟨F5, ow5, S5⟩ => ?_, fun _ _ _ _ _ _ _ _ z => z.elim⟩
    cases b with
    | false =>
      have S6 := S5.wipe hv
      rw [hw'] at S6
      exact ⟨hlt, δ5, acc, ⟨_, _, S6⟩, q5⟩
    | true =>
      refine ⟨δ5, _, _, noX, ⟨F5, ow5, S5⟩, q5, fun uk yk δ6 H6 q6 ⟨F6, ow6, S6⟩ => ?_, fun _ _ _ _ _ _ _ _ z => z.elim⟩
      refine ⟨δ6, _, _, noX, ⟨F6, ow6, S6⟩, q6, fun u z δ7 H7 ⟨kk, ek, hz, q7⟩ ⟨F7, ow7, S7⟩ => ?_, fun _ _ _ _ _ _ _ _ z => z.elim⟩
      obtain ⟨F8, S8, s8⟩ := S7.top_frz2
      have rk : Rep K F8 uk yk.toD := S8.pop.top
      rw [ek] at rk
      obtain rfl := key_one rk
      obtain ⟨p', e0, _, _, _, ws, ep, rw'⟩ := S8.tm.2.2.1
      cases e0
      have S9 := S8.pop.pop.writeT (o' := .dK (putKD acc kk z.toD)) (ob := .dK (putK ws kk u)) ⟨_, upd_same, repK_put S8.top rw'⟩
      have S10 := S9.wipe hv
      rw [hw'] at S10
      exact ⟨ws, kk, rfl, ep, by rw [repK_len rw']; exact hz, hlt, δ7, _, ⟨_, _, S10⟩, q7⟩
  · have e : i = items.length := by omega
    subst e
    rw [List.drop_length] at q2
    refine .inl ⟨sv.stop _ F2 H2 S3.fh src2 (Nat.le_refl _), k _ _ _ _ q2 ?_⟩
    have S4 := S3.unwipe hv
    obtain ⟨p', e0, e, b, n, r⟩ := S4.tm.1
    cases e0
    have S5 := S4.pop.pop.reown (ow' := owSet ow2 D (.t tmp.length)) (fun k a z _ => owSet_ne fun y => by subst y; rw [e] at z; cases z) (fun k a hk z _ => owSet_ne fun y => by
      subst y; rw [e] at z; cases z
      have : tmp.length + 1 < tmp.length := hk
      omega)
    exact ⟨F2, _, { S5 with tm := ⟨⟨D, rfl, owSet_at, b, .inl n.t, r⟩, S5.tm⟩ }⟩
theorem pd_dc {kx vx tg iter : Expr} {ifs : List Expr} {scope : Scope} {own : List (Str × Nat)} {pos : Pos} {ti : TDI} {g : TDG} {tt : TDT} {tk te : TD} (hc : X.calm = true) (hN : X.N.Nodup) (hi : PI X tg iter (LI X.K c W ti)) (ok : BlkOk X.N X.env.scope scope own)
    (hg : ∀ (s : Shared) (H : Hp) (C : Addr) (cl : List (Str × Addr)) (fp : List Addr), PG (X.blk s H scope (compEnvC scope cl C X.env) fp) tg (LG X.K c (own.map (·.2)) g)) (ht : ∀ (s : Shared) (H : Hp) (C : Addr) (cl : List (Str × Addr)) (fp : List Addr), PTs (X.blk s H scope (compEnvC scope cl C X.env) fp) ifs (LT X.K c W0 tt))
    (hk : ∀ (s : Shared) (H : Hp) (C : Addr) (cl : List (Str × Addr)) (fp : List Addr), PE (X.blk s H scope (compEnvC scope cl C X.env) fp) kx (LE X.K c W0 tk))
    (he : ∀ (s : Shared) (H : Hp) (C : Addr) (cl : List (Str × Addr)) (fp : List Addr), PE (X.blk s H scope (compEnvC scope cl C X.env) fp) vx (LE X.K c W0 te)) (hv : ∀ i ∈ own.map (·.2), i ∉ c.sl) (hs : ∀ x, foldedSetIterable iter X.env x = pure x := by intro _; rfl) :
    PE X (.DictComp kx vx [⟨tg, iter, ifs, 0⟩] scope pos) (LE X.K c W (dcompD ti g tt tk te (own.map (·.2)))) := PE_imp (pe_dc hc hN hi ok hg ht hk he hs) (lift_dcomp hv)
end
end DL
namespace DR
open PySem PySem.Spec PyProof.Rows L2 DL
theorem dcomp {δ : DSt} {Q : DK} {E : XD} {ti : TDI} {g : TDG} {tt : TDT} {tk te : TD} {vs : List Nat} (h : ti δ (fun xs δ1 => dcD g tt tk te vs xs [] (wipeD δ1 vs) fun acc δ2 => Q (.own (.dK acc)) δ2) E) : dcompD ti g tt tk te vs δ Q E := h
theorem dc_inv {g : TDG} {tt : TDT} {tk te : TD} {vs : List Nat} {xs : List DL.D} {δ : DSt} {Q : List (Key × DL.D) → DSt → Prop} (J : Nat → List (Key × DL.D) → DSt → Prop) (h0 : J 0 [] δ)
    (hs : ∀ i x acc δ (N : List (Key × DL.D) → DSt → Prop), xs[i]? = some x → J i acc δ → (∀ acc' δ', J (i + 1) acc' δ' → N acc' δ') →
      g x δ (fun δ1 => tt δ1 (fun b δ2 => if b = true then tk δ2 (fun y δ3 => te δ3 (fun z δ4 => ∃ k : Key, y.toD = keyOne k ∧ acc.length < sizeLine ∧ N (putKD acc k z.toD) (wipeD δ4 vs)) noX) noX else N acc (wipeD δ2 vs)) noX))
    (hn : ∀ acc δ, J xs.length acc δ → Q acc δ) : dcD g tt tk te vs xs [] δ Q := by
  have go : ∀ (m i : Nat) acc δ, i + m = xs.length → J i acc δ → dcD g tt tk te vs (xs.drop i) acc δ Q := fun m => by
    induction m with
    | zero =>
      intro i acc δ e h
      have e : i = xs.length := e
      subst e
      rw [List.drop_length]
      exact hn acc δ h
    | succ m ih =>
      intro i acc δ e h
      have hl : i < xs.length := by omega
      rw [List.drop_eq_getElem_cons hl]
      exact hs i _ acc δ (fun a d => dcD g tt tk te vs (xs.drop (i + 1)) a d Q) (List.getElem?_eq_getElem hl) h fun acc' δ' h' => ih (i + 1) acc' δ' (by omega) h'
  exact go xs.length 0 [] δ (Nat.zero_add _) h0
end DR

set_option Elab.async false
set_option linter.all false
set_option maxRecDepth 100000
/-! repr(x) of plain data: it wants that no repr is under way (guards); so such defs promise only where none is -/
namespace DL
open PySem PySem.Spec PyProof.Rows L2
/-! ### the text is made of right signs -/
theorem strOk_of {z : Str} (h : ∀ c ∈ z.cps.toList, c < 0x110000) : PyData.strOk z = true := by
  unfold PyData.strOk
  rw [Array.all_eq_true]
  intro i hi
  have := h z.cps[i] (by simp)
  simpa using this
theorem strOk_mem {z : Str} (h : PyData.strOk z = true) : ∀ c ∈ z.cps.toList, c < 0x110000 := by
  intro c hc
  unfold PyData.strOk at h
  rw [Array.all_eq_true] at h
  obtain ⟨i, hi, rfl⟩ := List.mem_iff_getElem.mp hc
  simpa using h i (by simpa using hi)
theorem char_lt (c : Char) : c.toNat < 0x110000 := by
  rcases c.valid with h | h
  · exact Nat.lt_trans h (by decide)
  · exact h.2
theorem strOk_lit (x : String) : PyData.strOk (Str.ofString x) = true := strOk_of fun c hc => by
  have e : (Str.ofString x).cps.toList = x.toList.map Char.toNat := cpsOfBytes_string x
  rw [e] at hc
  obtain ⟨d, _, rfl⟩ := List.mem_map.mp hc
  exact char_lt d
theorem sign_lt {q c : Nat} (hq : q < 0x110000) (hc : c < 0x110000) : ∀ d ∈ Builtin.Str.reprChar q c, d < 0x110000 := by
  have hx : ∀ (w : Nat), ∀ d ∈ List.replicate (w - ((Nat.toDigits 16 c).map Char.toNat).length) 48 ++ (Nat.toDigits 16 c).map Char.toNat, d < 0x110000 := fun w d hd => by
    rcases List.mem_append.mp hd with hd | hd
    · rw [(List.mem_replicate.mp hd).2]; decide
    · obtain ⟨e, _, rfl⟩ := List.mem_map.mp hd
      exact char_lt e
  intro d hd
  unfold Builtin.Str.reprChar at hd
  have two : ∀ {a b : Nat}, a < 0x110000 → b < 0x110000 → d ∈ [a, b] → d < 0x110000 := fun {a b} ha hb hm => by
    simp only [List.mem_cons, List.not_mem_nil, or_false] at hm
    rcases hm with rfl | rfl
    · exact ha
    · exact hb
  dsimp only at hd
  split at hd
  · exact two (by decide) hc hd
  split at hd
  · exact two (by decide) (by decide) hd
  split at hd
  · exact two (by decide) (by decide) hd
  split at hd
  · exact two (by decide) (by decide) hd
  split at hd
  · simp only [List.mem_cons, List.not_mem_nil, or_false] at hd
    exact hd ▸ hc
  split at hd
  · rcases List.mem_append.mp hd with hd | hd
    · exact two (by decide) (by decide) hd
    · exact hx _ _ hd
  split at hd
  · rcases List.mem_append.mp hd with hd | hd
    · exact two (by decide) (by decide) hd
    · exact hx _ _ hd
  · rcases List.mem_append.mp hd with hd | hd
    · exact two (by decide) (by decide) hd
    · exact hx _ _ hd
theorem strOk_repr {x : Str} (h : PyData.strOk x = true) : PyData.strOk (reprText x) = true := by
  have hq : reprQuote x < 0x110000 := by unfold reprQuote; split <;> decide
  have key : ∀ (l : List Nat) (acc : Array Nat), (∀ c ∈ l, c < 0x110000) → (∀ c ∈ acc.toList, c < 0x110000) →
      ∀ c ∈ (l.foldl (fun out c => out ++ (Builtin.Str.reprChar (reprQuote x) c).toArray) acc).toList, c < 0x110000 := by
    intro l
    induction l with
    | nil => exact fun acc _ h => h
    | cons a l ih =>
      intro acc h1 h2
      refine ih _ (fun c hc => h1 c (List.mem_cons_of_mem _ hc)) fun c hc => ?_
      rw [Array.toList_append] at hc
      rcases List.mem_append.mp hc with hc | hc
      · exact h2 c hc
      · exact sign_lt hq (h1 a List.mem_cons_self) c (by simpa using hc)
  refine strOk_of fun c hc => ?_
  unfold reprText at hc
  rw [Array.toList_push, ← Array.foldl_toList] at hc
  rcases List.mem_append.mp hc with hc | hc
  · exact key _ _ (strOk_mem h) (fun d hd => by simp at hd; omega) c hc
  · simp at hc; omega
theorem strOk_textFrom : ∀ (ts : List Str) (k : Nat) (acc : Str), PyData.strOk acc = true → (∀ t ∈ ts, PyData.strOk t = true) → PyData.strOk (textFrom k acc ts) = true
  | [], _, _, h, _ => h
  | t :: ts, k, acc, h, g => by
    refine strOk_textFrom ts (k + 1) _ (strOk_app (strOk_app h ?_) (g t List.mem_cons_self)) fun u hu => g u (List.mem_cons_of_mem _ hu)
    split <;> exact strOk_lit _
mutual
theorem strOk_shown : ∀ {d : PyData}, d.canLay0 = true → d.hasDict = false → PyData.strOk d.shown = true
  | .none, _, _ => strOk_lit _
  | .bool b, _, _ => by cases b <;> (simp only [PyData.shown]; exact strOk_lit _)
  | .int i, _, _ => by simp only [PyData.shown]; exact strOk_lit _
  | .str x, h, _ => by simp only [PyData.shown]; exact strOk_repr (by simpa [PyData.canLay0] using h)
  | .list xs, h, n => by
    simp only [PyData.shown, listText]
    exact strOk_app (strOk_textFrom _ _ _ (strOk_lit _) (strOk_shownAll (by simpa [PyData.canLay0] using h) (by simpa [PyData.hasDict] using n))) (strOk_lit _)
  | .tuple xs, h, n => by
    simp only [PyData.shown, tupleText]
    exact strOk_app (strOk_app (strOk_lit _) (strOk_join (strOk_lit _) (strOk_shownAll (by simpa [PyData.canLay0] using h) (by simpa [PyData.hasDict] using n)))) (strOk_lit _)
  | .dict _, _, n => by simp [PyData.hasDict] at n
theorem strOk_shownAll : ∀ {ds : List PyData}, PyData.canLayAll0 ds = true → PyData.hasDictAll ds = false → ∀ t ∈ PyData.shownAll ds, PyData.strOk t = true
  | [], _, _, t, ht => by simp [PyData.shownAll] at ht
  | d :: ds, h, n, t, ht => by
    simp only [PyData.canLayAll0, Bool.and_eq_true] at h
    simp only [PyData.hasDictAll, Bool.or_eq_false_iff] at n
    simp only [PyData.shownAll, List.mem_cons] at ht
    rcases ht with rfl | ht
    · exact strOk_shown h.1 n.1
    · exact strOk_shownAll h.2 n.2 t ht
end
mutual
theorem noDict : ∀ {d : D}, d.isPy = true → d.py.hasDict = false
  | .non, _ => rfl
  | .bl _, _ => rfl
  | .int _, _ => rfl
  | .str _, _ => rfl
  | .lst xs, h => by simp only [D.py, PyData.hasDict]; exact noDictL h
  | .ro xs, h => by simp only [D.py, PyData.hasDict]; exact noDictL h
  | .tup xs, h => by simp only [D.py, PyData.hasDict]; exact noDictL h
  | .rot xs, h => by simp only [D.py, PyData.hasDict]; exact noDictL h
  | .ktp xs, h => by simp only [D.py, PyData.hasDict]; exact noDictL h
  | .ty _, h => by cases h
  | .adr _, h => by cases h
  | .obj _ _, h => by cases h
  | .dT _, h => by cases h
  | .dK _, h => by cases h
  | .exc _ _ _ _ _, h => by cases h
  | .gho _ _, h => by cases h
  | .lkd _ _ _ _, h => by cases h
theorem noDictL : ∀ {ds : List D}, isPyL ds = true → PyData.hasDictAll (pyL ds) = false
  | [], _ => rfl
  | d :: ds, h => by
    simp only [isPyL, Bool.and_eq_true] at h
    simp only [pyL, PyData.hasDictAll, noDict h.1, noDictL h.2, Bool.or_self]
end
/-! ### how long the text is at most -/
mutual
def shW : PyData → Nat
  | .none => 4
  | .bool _ => 5
  | .int i => (Str.ofString (toString i)).length
  | .str x => 10 * x.length + 2
  | .list xs => shWs xs + 2
  | .tuple xs => shWs xs + 3
  | .dict _ => 0
def shWs : List PyData → Nat
  | [] => 0
  | d :: ds => shW d + 2 + shWs ds
end
def sumW (ts : List Str) : Nat := ts.foldr (fun t n => t.length + 2 + n) 0
theorem textFrom_le : ∀ (ts : List Str) (k : Nat) (acc : Str), (textFrom k acc ts).length ≤ acc.length + sumW ts
  | [], _, _ => Nat.le_refl _
  | t :: ts, k, acc => by
    have ih := textFrom_le ts (k + 1) (acc ++ (if k > 0 then ", " else "" : String) ++ t)
    have e : (acc ++ (if k > 0 then ", " else "" : String) ++ t).length ≤ acc.length + 2 + t.length := by
      rw [strLen_append, strLen_append]
      have : ((if k > 0 then ", " else "" : String) : Str).length ≤ 2 := by split <;> decide
      omega
    have e2 : sumW (t :: ts) = t.length + 2 + sumW ts := rfl
    show (textFrom (k + 1) (acc ++ (if k > 0 then ", " else "" : String) ++ t) ts).length ≤ _
    omega
theorem join_le : ∀ (ts : List Str), (Str.join ", " ts).length ≤ sumW ts
  | [] => Nat.zero_le _
  | [x] => by show x.length ≤ x.length + 2 + 0; omega
  | x :: y :: r => by
    have ih := join_le (y :: r)
    show (x ++ ", " ++ Str.join ", " (y :: r)).length ≤ x.length + 2 + sumW (y :: r)
    rw [strLen_append, strLen_append, show ((", " : String) : Str).length = 2 from rfl]
    omega
mutual
theorem shown_le : ∀ {d : PyData}, d.canLay0 = true → d.hasDict = false → d.shown.length ≤ shW d
  | .none, _, _ => by simp only [PyData.shown, shW]; decide
  | .bool b, _, _ => by cases b <;> (simp only [PyData.shown, shW]; decide)
  | .int i, _, _ => by simp only [PyData.shown, shW]; exact Nat.le_refl _
  | .str x, h, _ => by
    simp only [PyData.shown, shW]
    exact PySem.StrLaws.reprText_len x fun c hc => Nat.lt_trans (strOk_mem (by simpa [PyData.canLay0] using h) c hc) (by decide)
  | .list xs, h, n => by
    simp only [PyData.shown, shW, listText]
    have := textFrom_le (PyData.shownAll xs) 0 "["
    have h2 := shown_leAll (by simpa [PyData.canLay0] using h) (by simpa [PyData.hasDict] using n)
    rw [strLen_append, show (("]" : String) : Str).length = 1 from rfl]
    rw [show (("[" : String) : Str).length = 1 from rfl] at this
    omega
  | .tuple xs, h, n => by
    simp only [PyData.shown, shW, tupleText]
    have := join_le (PyData.shownAll xs)
    have h2 := shown_leAll (by simpa [PyData.canLay0] using h) (by simpa [PyData.hasDict] using n)
    have h3 : ((if (PyData.shownAll xs).length == 1 then ",)" else ")" : String) : Str).length ≤ 2 := by split <;> decide
    rw [strLen_append, strLen_append, show (("(" : String) : Str).length = 1 from rfl]
    omega
  | .dict _, _, n => by simp [PyData.hasDict] at n
theorem shown_leAll : ∀ {ds : List PyData}, PyData.canLayAll0 ds = true → PyData.hasDictAll ds = false → sumW (PyData.shownAll ds) ≤ shWs ds
  | [], _, _ => by simp only [PyData.shownAll, shWs]; exact Nat.le_refl _
  | d :: ds, h, n => by
    simp only [PyData.canLayAll0, Bool.and_eq_true] at h
    simp only [PyData.hasDictAll, Bool.or_eq_false_iff] at n
    have h1 := shown_le h.1 n.1
    have h2 := shown_leAll h.2 n.2
    simp only [PyData.shownAll, shWs]
    show d.shown.length + 2 + sumW (PyData.shownAll ds) ≤ _
    omega
end
/-- plain data, k deep at most, shown in n signs at most -/
structure Sz (n k : Nat) (d : D) : Prop where
  py : d.isPy = true
  dp : d.py.depth ≤ k
  sh : d.py.showable = true
  sz : shW d.py ≤ n
theorem Sz.le {n k m j : Nat} {d : D} (h : Sz n k d) (a : n ≤ m) (b : k ≤ j) : Sz m j d := ⟨h.py, Nat.le_trans h.dp b, h.sh, Nat.le_trans h.sz a⟩
theorem Sz.cmp {n k : Nat} {d : D} (h : Sz n k d) (b : k ≤ 64 := by decide) : Cmp d := ⟨h.py, Nat.le_trans h.dp b⟩
theorem sz_str {z : Str} {m : Nat} (h : z.length ≤ m) : Sz (10 * m + 2) 1 (.str z) := ⟨rfl, by simp [D.py, PyData.depth], by simp [D.py, PyData.showable], by simp only [D.py, shW]; omega⟩
theorem sz_bl {b : Bool} : Sz 5 1 (.bl b) := ⟨rfl, by simp [D.py, PyData.depth], by simp [D.py, PyData.showable], by simp only [D.py, shW]; omega⟩
theorem sz_non : Sz 4 1 .non := ⟨rfl, by simp [D.py, PyData.depth], by simp [D.py, PyData.showable], by simp only [D.py, shW]; omega⟩
theorem sz_all {n k : Nat} : ∀ {ds : List D}, (∀ d ∈ ds, Sz n k d) → isPyL ds = true ∧ PyData.depthAll (pyL ds) ≤ k ∧ PyData.showableAll (pyL ds) = true ∧ shWs (pyL ds) ≤ ds.length * (n + 2)
  | [], _ => ⟨rfl, by simp [pyL, PyData.depthAll], by simp [pyL, PyData.showableAll], by simp [pyL, shWs]⟩
  | d :: ds, h => by
    obtain ⟨a, b, c, e⟩ := sz_all fun x hx => h x (List.mem_cons_of_mem _ hx)
    obtain ⟨a1, b1, c1, e1⟩ := h d List.mem_cons_self
    refine ⟨by simp [isPyL, a, a1], ?_, by simp [pyL, PyData.showableAll, c, c1], ?_⟩
    · simp [pyL, PyData.depthAll]; omega
    · simp only [pyL, shWs, List.length_cons, Nat.add_mul, Nat.one_mul]; omega
theorem sz_lst {n k m : Nat} {ds : List D} (h : ∀ d ∈ ds, Sz n k d) (l : ds.length ≤ m) : Sz (m * (n + 2) + 3) (k + 1) (.lst ds) := by
  obtain ⟨a, b, c, e⟩ := sz_all h
  have := Nat.mul_le_mul_right (n + 2) l
  exact ⟨a, by simp [D.py, PyData.depth]; omega, by simpa [D.py, PyData.showable] using c, by simp only [D.py, shW]; omega⟩
theorem sz_tup {n k m : Nat} {ds : List D} (h : ∀ d ∈ ds, Sz n k d) (l : ds.length ≤ m) : Sz (m * (n + 2) + 3) (k + 1) (.tup ds) := by
  obtain ⟨a, b, c, e⟩ := sz_all h
  have := Nat.mul_le_mul_right (n + 2) l
  exact ⟨a, by simp [D.py, PyData.depth]; omega, by simpa [D.py, PyData.showable] using c, by simp only [D.py, shW]; omega⟩
end DL

set_option Elab.async false
set_option linter.all false
set_option maxRecDepth 100000
/-! repr(x), and defs that promise where no repr is under way -/
namespace DL
open PySem PySem.Spec PyProof.Rows L2
/-- what repr shows -/
def Show (d : D) : Prop := Cmp d ∧ d.py.showable = true ∧ shW d.py ≤ sizeLine
theorem Sz.show {n k : Nat} {d : D} (h : Sz n k d) (a : n ≤ 1000000 := by decide) (b : k ≤ 64 := by decide) : Show d := ⟨h.cmp b, h.sh, Nat.le_trans h.sz (Nat.le_trans a (by decide))⟩
section
variable {X : Cx}
abbrev rRepr (X : Cx) : List V → Hp → VK → Prop := fun xs H Q => ∃ v d, xs = [v] ∧ Dp X.K H v d ∧ d.showable = true ∧ d.hasDict = false ∧ d.depth ≤ 64 ∧ d.shown.length ≤ sizeLine ∧ Q (.str d.shown) H
theorem cr_repr (hg : X.A.guards = some []) (hu : X.A.units + 65 < cLine) : CallR X (.builtin "repr") (rRepr X) := by
  intro pins s σ H xs us Q I r h
  obtain ⟨v, d, rfl, dp, sh, nd, dd, sz, q⟩ := h
  obtain ⟨u, rfl, rv⟩ := vals1 r
  obtain ⟨as, R⟩ := Dp.reads I d v u dp rv
  have ref : ∀ a, u = .ref a → wpAny (model X.prog X.w) X.A (call (.builtin "repr") [u]) (EP X pins σ Q) X.xe s := fun a ea => by
    subst ea
    exact repr_of_reads' R sh (fun z => by rw [nd] at z; cases z) hg (by omega) (fun _ _ e => e) (fun h' t tk hk => ⟨.str _, H, I.kept hk, ⟨_, rfl⟩, q⟩) sz
  cases R with
  | none => exact PySem.P.repr_of_none ⟨.str _, H, I.tok _, ⟨_, rfl⟩, by simpa only [PyData.shown] using q⟩
  | bool b => exact PySem.P.repr_of_bool ⟨.str _, H, I.tok _, ⟨_, rfl⟩, by simpa only [PyData.shown] using q⟩
  | int i t => exact PySem.P.repr_of_int (by simpa [PyData.showable] using sh) ⟨.str _, H, I.tok _, ⟨_, rfl⟩, by simpa only [PyData.shown] using q⟩
  | str x t => exact PySem.P.repr_of_str ⟨.str _, H, I.tok _, ⟨_, rfl⟩, by simpa only [PyData.shown] using q⟩ (by simpa only [PyData.shown] using sz)
  | list h1 h2 h3 h4 => exact ref _ rfl
  | tuple h1 h2 h3 h4 => exact ref _ rfl
  | dict h1 h2 h3 h4 h5 => exact ref _ rfl
end
abbrev reprN : RDN := fun ds Q => ∃ d, ds = [d] ∧ Show d ∧ Q (.d (.str d.py.shown))
theorem cn_repr {X : Cx} : CallN X.K (rRepr X) reprN := fun xs ds F H Q Qd s r ⟨d, e1, ⟨c, sh, sz⟩, q⟩ k => by
  subst e1
  cases r with
  | cons r t =>
    cases t
    exact ⟨_, _, rfl, dp_mono s (r.dp c.1), sh, noDict c.1, c.2, Nat.le_trans (shown_le (r.lay c.1) (noDict c.1)) sz, k _ _ _ _ q (made_d s (.str (strOk_shown (r.lay c.1) (noDict c.1))))⟩
section
variable {X : Cx} {c : Fc} {W : WX}
/-- repr(e) -/
theorem pd_repr {x : Str} {e : Expr} {p pos : Pos} {ta : TDA} (hgs : X.A.guards = some []) (hu : X.A.units + 65 < cLine) (hg : Gl X x) (hm : X.mg x = none) (hv : bootBuiltins x = some (.builtin "repr")) (ha : PA X [e] (LA X.K c W ta)) (hn : x ≠ "__name__" := by decide) (hdb : (x == ("__debug__" : Str)) = false := by decide)
    (he : starEach [e] X.env = (false, eval e X.env) :: starEach [] X.env := by rfl) : PE X (.Call (.Name x p) [e] [] pos) (LE X.K c W (builtD reprN ta)) :=
  pd_builtB (fun h => pe_callB (cr_repr hgs hu) hg hm hv h hn hdb he) cn_repr ha
end
/-! ### a def's promise where no repr is under way -/
structure FnOkG (P : Program) (w : World) (K : PySem.W.Frag) (mg : Str → Option Value) (base : Heap) (CX : CXT) (k : Nat) (f : Addr) (fd : FuncData) (ps : List Str) (sp : Sp) : Prop where
  len : ∀ vs H Q E, sp vs H Q E → vs.length = ps.length
  go : ∀ (A : Around), A.guards = some [] → ∀ (outer : List Env) (s : Shared) (H : Hp) (args : Args) (us : List Value) (vs : List V) (Q : VK) (E : XK), Room k A → Env0 P w K mg base A outer s H →
    BindsTo s fd args (ps.zip us) → Vals vs us → sp vs H Q E → codeAny (model P w) A (.call (.ref f) args) (CR CX outer P w H s Q E) s
section
variable {P : Program} {w : World} {K : PySem.W.Frag} {mg : Str → Option Value} {base : Heap}
theorem fn_goG {CX : CXT} {k : Nat} {f : Addr} {name qual : Str} {params : Arguments} {body : List Stmt} {scope : Scope} {dV kV doc pm cdv ct oc : Value} {an od : Option Addr} {osl : Array (Option Value)} {N ps : List Str} {sp : Sp}
    (lk : K.lookup f = some ⟨oc, od, .func (PySem.W.fnOf name qual params body scope dV kV doc pm an cdv ct), osl⟩) (hcd : PySem.W.codeIn K cdv qual = true) (S : FnScope N ps scope) (len : ∀ vs H Q E, sp vs H Q E → vs.length = ps.length)
    (bd : ∀ (A : Around), A.guards = some [] → ∀ (outer : List Env) (s : Shared) (H : Hp) (vs : List V) (Q : VK) (E : XK), Room k (A.deeper (envOfC qual scope s.heap.objs.size f cdv)) → sp vs H Q E →
      ∃ t, PSs (cxOf CX P w K mg base N qual scope f cdv A outer s H E) body t ∧ t { nx := fun _ H' => Q .non H', rt := Q } (L2.start N vs) H) : FnOkG P w K mg base CX (k + 1) f (PySem.W.fnOf name qual params body scope dV kV doc pm an cdv ct) ps sp := by
  refine ⟨len, fun A g outer s H args us vs Q E hr en bi rv h => ?_⟩
  have kept : ∀ b o, base.get? b = some o → s.heap.get? b = some o := fun b o e => (en.bs b o e).1
  have KI := en.mod.kin.keeps kept
  have kinds : ∀ y ∈ ps.zip us, scope.names.lookup y.1 = some .local ∨ (scope.names.lookup y.1 = some .cell ∧ ((cellsFrom (s.heap.objs.size + 1) scope.names []).lookup y.1).isSome = true) := by
    rintro ⟨n, v⟩ hy
    exact (S.par n (List.of_mem_zip hy).1).imp id fun q => ⟨q, PySem.W.cellsFrom_some _ _ _ (.inl q)⟩
  refine codeAny_call_function hr.depth (KI _ _ lk) rfl S.co S.gen rfl (PySem.W.codeRec_of KI hcd) (bi _ _ _ _ (wpAny_newFunctionEnv_cells S.kind kinds fun env he s1 x => ?_))
  subst he
  refine ⟨(en.mod.nolimit.keeps kept).keeps x.toInCall.keep, codeAny_func ?_⟩
  obtain ⟨t, ht, hq⟩ := bd A g outer s H vs Q E (hr.deeper _) h
  refine wpAny_mono (ht.run [] s1 (L2.start N vs) H _ (inv_start S hr.hd en (len _ _ _ _ h) rv x) hq) (fun fl s' z => ?_) fun _ _ z => z
  cases fl with
  | ret u => obtain ⟨v, σ', H', J, r, q⟩ := z; exact ⟨v, H', J.os, J.bare, J.base, J.hok, r, q⟩
  | next => obtain ⟨σ', H', J, q⟩ := z; exact ⟨.non, H', J.os, J.bare, J.base, J.hok, rfl, q⟩
  | brk => obtain ⟨_, _, _, q⟩ := z; exact q.elim
  | cont => obtain ⟨_, _, _, q⟩ := z; exact q.elim
/-- as okD -/
theorem okDG {x qual : Str} {st : Stmt} {f : Addr} {fd : FuncData} {N ps : List Str} {k : Nat} {sd : SpD} (G : Fun K x qual st f fd) (S : FnScope N ps (defScope st)) (sl : List Nat) (len : ∀ as Q E, sd as Q E → as.length = ps.length ∧ ownIx as 0 = sl)
    (hbody : ∃ t : TDS, (∀ (cdv : Value) (A : Around), A.guards = some [] → ∀ (outer : List Env) (s : Shared) (H : Hp) (E : XK) (ad : List Addr) (F0 H0 : Hp), Room k (A.deeper (envOfC qual (defScope st) s.heap.objs.size f cdv)) →
        PSs (cxOf (L2.CX P w) P w K mg base N qual (defScope st) f cdv A outer s H E) (defBody st) (LS K ⟨sl, ad, F0, H0⟩ (fun cls d _ H => E cls d H) t)) ∧
      ∀ as Qd Ed, sd as Qd Ed → t (endsD sl Qd Ed) (startD N.length as)) :
    FnOkG P w K mg base (L2.CX P w) (k + 1) f fd ps (spOf K sd) := by
  obtain ⟨t, ht, hq⟩ := hbody
  obtain ⟨oc, od, kV, doc, pm, an, cdv, ct, osl, rfl, lk, hcd⟩ := G.ex
  refine fn_goG lk hcd S (fun vs H Q E ⟨F, as, qs, Qd, Ed, _, A, h, _⟩ => by rw [A.len]; exact (len _ _ _ h).1) fun A g outer s H vs Q E hr ⟨F, as, qs, Qd, Ed, sm, ar, h, kq, ke⟩ => ?_
  have hsl := (len _ _ _ h).2
  have S0 := entry (N := N) sm ar
  rw [hsl] at S0
  have hpl : qs.length = sl.length := by rw [← hsl]; exact ar.plen
  have post : ∀ {δ' : DSt} {tmp : List (V × DV)} {σ' : L2.St} {F' H' : Hp} {ow' : Addr → Option Hold} {os : List OC}, SttF K ⟨sl, qs, F, H⟩ F' ow' δ' tmp σ' H' → takeB δ' sl os → Post K F H qs os F' H' := fun {δ' tmp σ' F' H' ow' os} S' tb =>
    ⟨S'.f0, S'.fh, S'.fr, S'.up, S'.fn, takeB_reps S' hpl S'.ps tb⟩
  refine ⟨_, ht cdv A g outer s H E qs F H hr, startD N.length as, [], endsD sl Qd Ed, ⟨F, _, S0⟩, hq as Qd Ed h, fun δ' σ' H' ⟨os, tb, q⟩ ⟨F', ow', S'⟩ => ?_, fun v x δ' σ' H' ⟨os, tb, q⟩ ⟨F', ow', S'⟩ => ?_, fun _ _ _ z => z.elim, fun _ _ _ z => z.elim, fun x δ' σ' H' F' ow' cls d ⟨os, tb, q⟩ S' er => ?_⟩
  · exact kq .non (.d .non) os F' H' q (post S' tb) .non
  · refine kq v x os F' H' q (post S' tb) ?_
    cases x with
    | d y => exact S'.top
    | own o =>
      obtain ⟨p, rfl, e, b, n, r⟩ := S'.tm.1
      exact ⟨p, rfl, n.t, b, r⟩
  · exact ke cls d x os F' H' q (post S' tb) er
end
/-! ### its call -/
section
variable {X : Cx} {c : Fc} {W : WX} {k : Nat} {f : Addr} {fd : FuncData} {ps : List Str} {sd : SpD} {x : Str} {p pos : Pos} {e : Expr} {es : List Expr} {ta : TDA}
theorem pe_callG {sp : Sp} {E : L2.St → XK} {t : TA} {CX : CXT} (F : FnOkG X.prog X.w X.K X.mg X.base CX k f fd ps sp) (hgs : X.A.guards = some []) (hr : Room k X.A) (hg : Gl X x) (hm : X.mg x = some (.ref f)) (hk : PySem.W.keepIn X.K (.ref f) = true) (hb : Binds X.K fd ps []) (hx : ∀ σ, PassesAt CX X σ (E σ)) (ha : PA X (e :: es) t)
    (hdb : (x == ("__debug__" : Str)) = false := by decide) (he : starEach (e :: es) X.env = (false, eval e X.env) :: starEach es X.env := by rfl) (hpl : (backTo pos (starEach es X.env)).any (·.1) = false := by rfl) : PE X (.Call (.Name x p) (e :: es) [] pos) (tCallSD sp [] E t) := by
  refine ⟨fun pins s σ H Q I h => wpAny_Call_Name_kw (ld_glob I hg hm (PySem.W.callWith_K (h₀ := X.base) I.ok.mod.kin hk (thn (ha.run pos pins s σ H _ I h) fun us s1 ⟨vs, H1, I1, r, q⟩ => ⟨I1.kIn, ?_⟩) he hpl) hdb)⟩
  have q : sp (vs ++ []) H1 Q (E σ) := q
  rw [List.append_nil] at q
  have bt := hb s1 us I1.kIn (by rw [List.append_nil, ← r.length]; exact F.len _ _ _ _ q)
  rw [List.append_nil] at bt
  refine wpAny_call (codeAny_mono (F.go X.A hgs X.stack s1 H1 ⟨us, []⟩ us vs Q (E σ) hr I1.env0 bt r q) fun r s' z => ?_)
  cases r with
  | error er => exact hx σ pins H1 s1 er s' I1 z
  | ok fl =>
    cases fl with
    | ret u => exact I1.after z
    | next => exact z.elim
    | brk => exact z.elim
    | cont => exact z.elim
theorem pd_callG (G : FnOkG X.prog X.w X.K X.mg X.base (L2.CX X.prog X.w) k f fd ps (spOf X.K sd)) (hgs : X.A.guards = some []) (hr : Room k X.A) (hg : Gl X x) (hm : X.mg x = some (.ref f)) (hk : PySem.W.keepIn X.K (.ref f) = true) (hb : Binds X.K fd ps []) (tk : Takes X W) (ha : PA X (e :: es) (LA X.K c W ta))
    (hdb : (x == ("__debug__" : Str)) = false := by decide) (he : starEach (e :: es) X.env = (false, eval e X.env) :: starEach es X.env := by rfl) (hpl : (backTo pos (starEach es X.env)).any (·.1) = false := by rfl) :
    PE X (.Call (.Name x p) (e :: es) [] pos) (LE X.K c W (callD sd ta)) :=
  PE_imp (pe_callG (E := WE W) G hgs hr hg hm hk hb (fun σ => passAt tk σ) ha hdb he hpl) fun σ H Q ⟨δ, tmp, Qd, Ed, S, t, k, w⟩ =>
    ⟨δ, tmp, _, Ed, S, t, fun vs as δ1 F ow H1 ⟨xs, ea, nd, sp⟩ S1 ra => by
      show spOf X.K sd (vs ++ []) H1 Q (WE W σ)
      rw [List.append_nil]
      exact lift_sp S1 ra ea nd sp k w, w⟩
end
end DL

set_option Elab.async false
set_option linter.all false
set_option maxRecDepth 100000
/-! the end of a law whose def promises where no repr is under way -/
namespace DL
open PySem PySem.Spec PyProof.Rows L2
/-- from an abstract heap in which nothing but the script may be known -/
theorem law_core {P : Program} {w : World} {K : PySem.W.Frag} {mg mb : Str → Option Value} {CX : CXT} {k : Nat} {fa a : Addr} {fd : FuncData} {x : Str} {sp : Sp} {sh : Shared} {vs : List Value} {ns : List Int} {H : Hp} (KX : K.In sh.heap) (hns : sh.heap.Ns mainGlobals mg)
    (hb : sh.heap.Ns builtinsNs mb) (hbb : ∀ x : Str, x ≠ "__name__" → mb x = bootBuiltins x) (hlim : sh.heap.NoLimit) (hg : sh.gens = #[]) (ha : sh.heap.get? a = some { cls := .type "list", data := .seq vs.toArray }) (hr : Room k callerA)
    (F : ∀ base : Heap, K.In base → base.Ns mainGlobals mg → FnOkG P w K mg base CX k fa fd [x] sp) (bi : ∀ (s : Shared) (u : Value), BindsTo s fd ⟨[u], []⟩ [(x, u)]) (hsp : sp [.ref a] H (fun v _ => v = .bl true) fun _ _ _ => False)
    (hCX : ∀ e s', CX [] H sh (fun _ _ _ => False) e s' → False) (hO : Only H) (ok : HOk P w H sh.heap) (hA : ∀ b, H b ≠ none → b = a) (hK : H a ≠ none → K.lookup a = none) :
    codeAny (model P w) callerA (.call (.ref fa) ⟨[.ref a], []⟩) (fun r t => r = .ok (.ret (.bool true)) ∧ OldK sh.heap t.heap ∧ t.os = sh.os ∧ AllBare t.gens) sh := by
  have dictFree : ∀ {b : Addr} {o : Obj} {es : Array DictEntry} {ep : Nat}, sh.heap.get? b = some o → o.data = .dict es ep → H b = none := by
    intro b o es ep e d
    rcases Option.eq_none_or_eq_some (H b) with z | ⟨u, z⟩
    · exact z
    · have : b = a := hA b (by rw [z]; exact fun y => nomatch y)
      subst this
      rw [ha] at e
      cases e
      cases d
  have nsk : ∀ {b : Addr} {m : Str → Option Value}, sh.heap.Ns b m → (hidT sh.heap H).Ns b m := by
    rintro b m ⟨o, es, ep, e, d, r⟩
    exact ⟨o, es, ep, hidT_get e (dictFree e d), d, r⟩
  have kin : K.In (hidT sh.heap H) := by
    intro b o e
    refine hidT_get (KX b o e) ?_
    rcases Option.eq_none_or_eq_some (H b) with z | ⟨u, z⟩
    · exact z
    · have n : H b ≠ none := by rw [z]; exact fun y => nomatch y
      have : b = a := hA b n
      subst this
      rw [hK n] at e
      cases e
  obtain ⟨mc, c1, c2⟩ := hlim
  have en : Env0 P w K mg (hidT sh.heap H) callerA [] sh H :=
    ⟨rfl, ⟨kin, nsk hns, ⟨mb, nsk hb, hbb⟩, mc, nsk c1, c2⟩, fun b o e => of_hidT e, Nat.le_of_eq (hidT_size _ _), trivial, (fun b z => nomatch z), ok, .of_eq hg⟩
  refine codeAny_mono ((F _ kin (nsk hns)).go callerA rfl [] sh H ⟨[.ref a], []⟩ [.ref a] [.ref a] _ _ hr en (bi sh (.ref a)) (.cons rfl .nil) hsp) fun r t z => ?_
  rcases r with e | fl
  · exact (hCX e t z).elim
  cases fl with
  | next => exact z.elim
  | brk => exact z.elim
  | cont => exact z.elim
  | ret u =>
    obtain ⟨v, H', os, bare, un, ok', rv, q⟩ := z
    have q : v = .bl true := q
    subst q
    cases (show u = Value.bool true from rv)
    refine ⟨rfl, OldK.of_keep fun b o e => ?_, os, bare⟩
    rcases hO b with y | ⟨ob, xs, y⟩
    · exact un.keep b o e y (fun z => nomatch z) (fun z => nomatch z)
    · have e1 := (ok b _ y).1
      have e2 := (ok' b _ (un.frzs b ob _ y)).1
      rw [e] at e1
      cases e1
      exact e2
theorem law_callG {P : Program} {w : World} {K : PySem.W.Frag} {mg mb : Str → Option Value} {CX : CXT} {k : Nat} {fa a : Addr} {fd : FuncData} {x : Str} {sp : Sp} {sh : Shared} {vs : List Value} {ns : List Int} (KX : K.In sh.heap) (hns : sh.heap.Ns mainGlobals mg)
    (hb : sh.heap.Ns builtinsNs mb) (hbb : ∀ x : Str, x ≠ "__name__" → mb x = bootBuiltins x) (hlim : sh.heap.NoLimit) (hg : sh.gens = #[]) (ha : sh.heap.get? a = some { cls := .type "list", data := .seq vs.toArray }) (hi : IntsAre vs ns) (hl : ns.length ≤ sizeLine) (hr : Room k callerA)
    (F : ∀ base : Heap, K.In base → base.Ns mainGlobals mg → FnOkG P w K mg base CX k fa fd [x] sp) (bi : ∀ (s : Shared) (u : Value), BindsTo s fd ⟨[u], []⟩ [(x, u)]) (hsp : ∀ H : Hp, Only H → SqL K H a (ns.map V.int) → sp [.ref a] H (fun v _ => v = .bl true) fun _ _ _ => False)
    (hCX : ∀ H e s', CX [] H sh (fun _ _ _ => False) e s' → False) :
    codeAny (model P w) callerA (.call (.ref fa) ⟨[.ref a], []⟩) (fun r t => r = .ok (.ret (.bool true)) ∧ OldK sh.heap t.heap ∧ t.os = sh.os ∧ AllBare t.gens) sh := by
  have vv := vals_ints hi
  have core := fun (H : Hp) (hO : Only H) (hS : SqL K H a (ns.map V.int)) => law_core (ns := ns) KX hns hb hbb hlim hg ha hr F bi (hsp H hO hS) (hCX H) hO
  rcases Option.eq_none_or_eq_some (K.lookup a) with hk | ⟨o, hk⟩
  · have at' : ∀ {b : Addr} {u : HO}, (if b = a then some (HO.frz { cls := .type "list", data := .seq vs.toArray } (.lst (ns.map V.int))) else none) = some u → b = a ∧ u = HO.frz { cls := .type "list", data := .seq vs.toArray } (.lst (ns.map V.int)) := by
      intro b u z
      by_cases y : b = a
      · rw [if_pos y] at z; exact ⟨y, (Option.some.inj z).symm⟩
      · rw [if_neg y] at z; cases z
    refine core (fun b => if b = a then some (.frz { cls := .type "list", data := .seq vs.toArray } (.lst (ns.map V.int))) else none) (fun b => ?_) (.inl (.inr ⟨_, if_pos rfl⟩)) (fun b u z => ?_) (fun b z => ?_) fun _ => hk
    · by_cases y : b = a
      · exact .inr ⟨_, _, if_pos y⟩
      · exact .inl (if_neg y)
    · obtain ⟨rfl, rfl⟩ := at' z
      exact ⟨ha, by rw [List.length_map]; exact hl, vs, _, vv, ha⟩
    · rcases Option.eq_none_or_eq_some (if b = a then some (HO.frz { cls := .type "list", data := .seq vs.toArray } (.lst (ns.map V.int))) else none) with y | ⟨u, y⟩
      · exact absurd y z
      · exact (at' y).1
  · have e := KX a o hk
    rw [ha] at e
    cases e
    exact core (fun _ => none) (fun _ => .inl rfl) (.inr ⟨_, vs.toArray, _, hk, rfl, rfl, rfl, by rw [List.size_toArray, hi.length]; exact hl, by simpa using vv⟩) (fun b u z => nomatch z) (fun b z => absurd rfl z) fun z => absurd rfl z
theorem walk_ofG {l : PySem.W.OpenLaw} {n k : Nat} {q : Program} {loose : List Str} {XP : (Str → Option Value) → Heap → Prop} {YP : World → Heap → Prop} {d : DefRec} {K : Params → PySem.W.Frag} {CX : World → CXT} {sp : World → Sp} {x : Str} (hn : l.most = some n) (hn2 : n ≤ sizeLine)
    (hdf : d.params.defaults = []) (hr : Room k callerA) (hY : ∀ (w : World) (h : Heap), YP w h → (K w.params).In h)
    (F : ∀ (w : World) (mg : Str → Option Value) (fa : Addr) (h : Heap), (K w.params).In h → h.Ns mainGlobals mg → mg d.name = some (.ref fa) → ∃ fd : FuncData, (∀ (s : Shared) (u : Value), BindsTo s fd ⟨[u], []⟩ [(x, u)]) ∧
      ∀ base : Heap, (K w.params).In base → base.Ns mainGlobals mg → FnOkG l.prog w (K w.params) mg base (CX w) k fa fd [x] (sp w))
    (hsp : ∀ (w : World) (H : Hp) (a : Addr) (ns : List Int), ns.length ≤ n → Only H → SqL (K w.params) H a (ns.map V.int) → sp w [.ref a] H (fun v _ => v = .bl true) fun _ _ _ => False)
    (hCX : ∀ (w : World) (H : Hp) (s : Shared) (e : Value) (s' : Shared), CX w [] H s (fun _ _ _ => False) e s' → False) : PySem.W.WalkO q loose XP YP l.row.toRowW d [] (fun f vs => PySem.call f vs) := by
  refine Att.attach_call hn hdf fun w s0 sh mg mb fa o pm cd doc a vs ns G Y ho hd hcd hmg hobj hints hlen hg => ?_
  obtain ⟨fd, hb, hF⟩ := F w mg fa _ (hY w _ Y) G.T.g hmg
  exact law_callG (hY w _ Y) G.T.g G.T.b G.T.builtins G.T.nolimit hg hobj hints (Nat.le_trans hlen hn2) hr hF hb (fun H => hsp w H a ns hlen) fun H e s' => hCX w H sh e s'
end DL
namespace DL
open PySem PySem.Spec PyProof.Rows L2
/-- a def that promises where no repr is under way, as its callers know it -/
structure DefDG (P : Program) (w : World) (K : PySem.W.Frag) (mg : Str → Option Value) (base : Heap) (x : Str) (k : Nat) (ps : List Str) (sd : SpD) where
  f : Addr
  fd : FuncData
  ok : FnOkG P w K mg base (L2.CX P w) k f fd ps (spOf K sd)
  b : Binds K fd ps []
  mg : mg x = some (.ref f)
  kp : PySem.W.keepIn K (.ref f) = true
end DL

set_option Elab.async false
set_option linter.all false
set_option maxRecDepth 100000
/-! one or the other reading of an expression -/
namespace DL
open PySem PySem.Spec PyProof.Rows L2
def altD (t u : TD) : TD := fun δ Q E => t δ Q E ∨ u δ Q E
theorem pd_orE {X : Cx} {c : Fc} {W : WX} {e : Expr} {t u : TD} (h : PE X e (LE X.K c W t)) (g : PE X e (LE X.K c W u)) : PE X e (LE X.K c W (altD t u)) :=
  ⟨fun pins s σ H Q I ⟨δ, tmp, Qd, Ed, S, q, k, w⟩ => q.elim (fun q => h.run pins s σ H Q I ⟨δ, tmp, Qd, Ed, S, q, k, w⟩) fun q => g.run pins s σ H Q I ⟨δ, tmp, Qd, Ed, S, q, k, w⟩⟩
end DL
namespace DL
open PySem PySem.Spec PyProof.Rows L2
end DL

set_option Elab.async false
set_option linter.all false
set_option maxRecDepth 100000
/-! text * int -/
namespace DL
open PySem PySem.Spec PyProof.Rows L2
theorem rep_size (c : Array Nat) : ∀ (k : Nat) (acc : Array Nat), ((List.replicate k c).foldl (· ++ ·) acc).size = acc.size + k * c.size
  | 0, acc => by simp
  | k + 1, acc => by
    rw [List.replicate_succ, List.foldl_cons, rep_size c k (acc ++ c), Array.size_append, Nat.add_mul]
    omega
theorem rep_mem (c : Array Nat) (y : Nat) : ∀ (k : Nat) (acc : Array Nat), y ∈ ((List.replicate k c).foldl (· ++ ·) acc).toList → y ∈ acc.toList ∨ y ∈ c.toList
  | 0, acc, h => .inl (by simpa using h)
  | k + 1, acc, h => by
    rw [List.replicate_succ, List.foldl_cons] at h
    rcases rep_mem c y k (acc ++ c) h with h | h
    · rw [Array.toList_append] at h
      exact List.mem_append.mp h
    · exact .inr h
def rMulT : R2 := fun x y H Q => ∃ (z : Str) (n : Int), x = .str z ∧ y = .int n ∧ 1 ≤ n ∧ n ≤ 1000 ∧ 1 ≤ z.length ∧ z.length ≤ 1000 ∧ ∀ u : Str, u.length = z.length * n.toNat → (∀ c ∈ u.cps.toList, c ∈ z.cps.toList) → Q (.str u) H
theorem op_mulT {X : Cx} : OpR X (binaryOp .Mult) rMulT := by
  intro pins s σ H x y v u Q I rx ry h
  obtain ⟨z, n, rfl, rfl, n0, n1, z0, z1, q⟩ := h
  obtain ⟨t, rfl⟩ := rx
  obtain ⟨t', rfl⟩ := ry
  have c1 : ¬ n < 1 := by omega
  have hp : z.length * n.toNat ≤ 1000 * 1000 := Nat.mul_le_mul z1 (by omega)
  refine PySem.P.mul_str (by rw [decide_eq_false (by omega), decide_eq_false (by omega)]; rfl) (fun _ _ => ?_) (fun _ _ => ?_) ?_
  · have : (1000 : Int) ≤ (2 ^ 63 - 1) / n := by
      rw [Int.le_ediv_iff_mul_le (by omega)]
      omega
    omega
  · first
      | exact decide_eq_false (Nat.not_lt.mpr (Nat.le_trans hp (by decide)))
      | (unfold tooLong; exact decide_eq_false (Nat.not_lt.mpr (Nat.le_trans hp (by decide))))
  · by_cases e : n = 1
    · subst e
      have c2 : ((1 : Int) == 1 || z.length == 0) = true := by simp
      rw [if_neg c1, if_pos c2]
      exact ⟨.str z, H, I, ⟨_, rfl⟩, q z (by simp) fun c hc => hc⟩
    · have c2 : ¬ (n == 1 || z.length == 0) = true := by simp; omega
      rw [if_neg c1, if_neg c2]
      have sz : ((List.replicate n.toNat z.cps).foldl (· ++ ·) #[]).size = z.length * n.toNat := by
        rw [rep_size, Nat.mul_comm]
        exact Nat.zero_add _
      refine ⟨?_, .str _, H, I.tok _, ⟨_, rfl⟩, q _ sz fun c hc => ?_⟩
      · show ((List.replicate n.toNat z.cps).foldl (· ++ ·) #[]).size ≤ sizeLine
        rw [sz]
        exact Nat.le_trans hp (by decide)
      · rcases rep_mem z.cps c n.toNat #[] hc with h | h
        · simp at h
        · exact h
abbrev mulTD : RD2 := fun a b Q => ∃ (z : Str) (n : Int), a = .str z ∧ b = .int n ∧ 1 ≤ n ∧ n ≤ 1000 ∧ 1 ≤ z.length ∧ z.length ≤ 1000 ∧ ∀ u : Str, u.length = z.length * n.toNat → Q (.d (.str u))
theorem op2_mulT {K : PySem.W.Frag} : Op2 K rMulT mulTD := fun x y a b F H Q Qd s rx ry ⟨z, n, e1, e2, h1, h2, h3, h4, q⟩ k => by
  subst e1 e2
  cases rx with
  | str k1 =>
    cases ry
    exact ⟨z, n, rfl, rfl, h1, h2, h3, h4, fun u hl hc => k _ _ F H (q u hl) (made_d s (.str (strOk_of fun c h => strOk_mem k1 c (hc c h))))⟩
end DL
namespace DL
open PySem PySem.Spec PyProof.Rows L2
/-! the text of an int: how long it is -/
theorem ofs_len (x : String) : (Str.ofString x).length = x.toList.length := by
  have e : (Str.ofString x).cps.toList = x.toList.map Char.toNat := cpsOfBytes_string x
  have : (Str.ofString x).cps.toList.length = x.toList.length := by rw [e, List.length_map]
  rw [← this]
  exact (Array.length_toList).symm
theorem int_len {i : Int} {k : Nat} (hk : 0 < k) (h : i.natAbs < 10 ^ k) : (Str.ofString (toString i)).length ≤ k + 1 := by
  rw [ofs_len]
  cases i with
  | ofNat m =>
    show (Nat.repr m).toList.length ≤ _
    rw [Nat.toList_repr]
    exact Nat.le_succ_of_le ((Nat.length_toDigits_le_iff (by decide) hk).mpr h)
  | negSucc m =>
    show ("-" ++ Nat.repr (m + 1)).toList.length ≤ _
    rw [String.toList_append, List.length_append, Nat.toList_repr]
    have := (Nat.length_toDigits_le_iff (b := 10) (n := m + 1) (by decide) hk).mpr h
    show 1 + _ ≤ _
    omega
theorem sz_int {i : Int} (h : i.natAbs < 10 ^ 19) : Sz 20 1 (.int i) := ⟨rfl, by simp [D.py, PyData.depth], by
  have : i.natAbs.log2 < 64 := by
    rcases Nat.eq_zero_or_pos i.natAbs with e | e
    · rw [e]; decide
    · exact (Nat.log2_lt (by omega)).mpr (Nat.lt_of_lt_of_le h (by decide))
  simp only [D.py, PyData.showable]
  exact decide_eq_true (by omega), by simp only [D.py, shW]; exact int_len (by decide) h⟩
end DL
namespace DL
open PySem PySem.Spec PyProof.Rows L2
/-! int of a bool -/
abbrev intBS : RDNs := fun ds Q => ∃ b : Bool, ds = [.bl b] ∧ Q (.int (if b then 1 else 0))
theorem cn_intB {K : PySem.W.Frag} : CallNs K (fun xs H Q => (∃ i, xs = [V.int i] ∧ Q (.int i) H) ∨ ∃ k, xs = [V.bl k] ∧ Q (.int (if k then 1 else 0)) H) intBS := fun xs ds F H Q Qd s r ⟨b, e1, q⟩ k => by
  subst e1
  cases r with
  | cons r t => cases t; cases r; exact .inr ⟨b, rfl, k _ _ q rfl⟩
end DL

set_option Elab.async false
set_option linter.all false
set_option maxRecDepth 100000
set_option maxHeartbeats 2000000
/-! DL60: a tuple whose object is known to have no dict (.rot): xs.count(x) of texts; tuple(list) laid so; tuple(rot), for over it -/
namespace DL
open PySem PySem.Spec PyProof.Rows L2
section
variable {X : Cx} {c : Fc} {W : WX}
end
/-! ### tuple(list), laid with its object; tuple(rot); for over a rot -/
section
variable {X : Cx} {c : Fc} {W : WX}
end
end DL
namespace DR
open PySem PySem.Spec PyProof.Rows L2 DL
end DR

set_option Elab.async false
set_option linter.all false
set_option maxRecDepth 100000
set_option maxHeartbeats 2000000
/-! DL61: rules for a tuple whose object is known (.rot): in, len(set(..)) of texts, a tuple + a rot -/
namespace DL
open PySem PySem.Spec PyProof.Rows L2
section
variable {X : Cx} {c : Fc} {W : WX}
end
end DL
namespace DR
open PySem PySem.Spec PyProof.Rows L2 DL
end DR

set_option Elab.async false
set_option linter.all false
set_option maxRecDepth 100000
set_option maxHeartbeats 2000000
/-! DL62: an own dict by plain keys (read, write, in), name -= number -/
namespace DL
open PySem PySem.Spec PyProof.Rows L2
theorem repK_some {K : PySem.W.Frag} {F : Hp} {k : Key} : ∀ {vs : List (Key × V)} {ds : List (Key × D)}, RepK K F vs ds → (valV vs k).isSome = (valK ds k).isSome
  | _, _, .nil => rfl
  | _, _, .cons (n := n) (v := v) (d := d) (vs := vs) (ds := ds) h t => by
    by_cases e : n = k
    · have e1 : valK ((n, d) :: ds) k = some d := by simp [valK, List.find?_cons, e]
      rw [e1, valV_pos (p := (n, v)) e]
      rfl
    · have e1 : valK ((n, d) :: ds) k = valK ds k := by simp [valK, List.find?_cons, e]
      rw [e1, valV_neg (p := (n, v)) e]
      exact repK_some t
section
variable {X : Cx} {c : Fc} {W : WX}
def newDK : TD := fun δ Q _ => Q (.own (.dK [])) δ
theorem pd_newDK {e : Expr} (h : PE X e tDNewK) : PE X e (LE X.K c W newDK) := PE_imp h fun σ H Q ⟨δ, tmp, Qd, Ed, ⟨F, ow, S⟩, q, k, w⟩ => fun p n =>
  k _ _ _ _ q ⟨F, _, S.pushNew (o := .dK []) n ⟨[], upd_same, .nil⟩⟩
def getKO (j : Nat) (ti : TD) : TD := fun δ Q E => ∃ o, δ[j]? = some (some (.own o)) ∧ ti δ (fun k δ1 => ∃ kvs ks d, δ1[j]? = some (some (.own (.dK kvs))) ∧ k.toD = keyOne ks ∧ valK kvs ks = some d ∧ Q (.d d) δ1) E
theorem pd_getKO {j : Nat} {x : Str} {i : Expr} {ti : TD} {pos px : Pos} (h : ∀ {to ti : TE}, PE X (.Name x px) to → PE X i ti → PE X (.Subscript (.Name x px) i pos) (tDGet to ti)) (hv : PE X (.Name x px) (tVar j)) (hi : PE X i (LE X.K c W ti)) : PE X (.Subscript (.Name x px) i pos) (LE X.K c W (getKO j ti)) :=
  PE_imp (h hv hi) fun σ H Q ⟨δ, tmp, Qd, Ed, ⟨F, ow, S⟩, ⟨o, eo, q⟩, k, w⟩ => by
    obtain ⟨v, e1, p, rfl, _⟩ := S.sl _ _ eo
    refine ⟨_, e1, δ, tmp, _, Ed, ⟨F, ow, S⟩, q, fun u y δ1 H1 ⟨kvs, ks, d, ej, ek, ed, q1⟩ ⟨F1, ow1, S1⟩ => ?_, w⟩
    obtain ⟨F2, S2, _⟩ := S1.top_frz
    obtain ⟨v', e2, p', rfl, _, _, _, vs, ep, r⟩ := S2.sl _ _ ej
    rw [e1] at e2
    cases e2
    rw [ek] at S2
    obtain rfl := key_one S2.top
    obtain ⟨z, ez, rz⟩ := repK_get r d ed
    refine ⟨p, z, rfl, ?_, k _ _ _ _ q1 ⟨F2, ow1, S2.pop.push rz⟩⟩
    rw [← ez]
    exact DGet.k ep
def putKS (j : Nat) (te ti : TD) : TDS := fun D δ => te δ (fun v δ1 => (∃ o, δ1[j]? = some (some (.own o))) ∧ ti δ1 (fun k δ2 => ∃ kvs ks, δ2[j]? = some (some (.own (.dK kvs))) ∧ k.toD = keyOne ks ∧ kvs.length < sizeLine ∧ D.nx (δ2.set j (some (.own (.dK (putKD kvs ks v.toD)))))) D.ex) D.ex
theorem psd_putK {j : Nat} {x : Str} {i e : Expr} {te ti : TD} {A : Prop} {pos pos' px : Pos} (hu : A) (h : ∀ {to ti tv : TE}, PE X (.Name x px) to → PE X i ti → PE X e tv → PS X (.Assign [.Subscript (.Name x px) i pos'] e pos) (sDPut to ti tv)) (hv : PE X (.Name x px) (tVar j)) (he : PE X e (LE X.K c W te)) (hi : PE X i (LE X.K c W ti)) :
    PS X (.Assign [.Subscript (.Name x px) i pos'] e pos) (LS X.K c W (putKS j te ti)) :=
  PS_imp (h hv hi he) fun D σ H ⟨δ, tmp, Dd, S, q, k, kr, kb, kc, w⟩ => ⟨δ, tmp, _, _, S, q, fun u y δ1 H1 ⟨⟨o, eo⟩, q1⟩ ⟨F1, ow1, S1⟩ => by
    obtain ⟨F2, S2, _⟩ := S1.top_frz
    obtain ⟨v, e1, p, rfl, _⟩ := S2.sl _ _ eo
    refine ⟨_, e1, δ1, _, _, _, ⟨F2, ow1, S2⟩, q1, fun t z δ2 H2 ⟨kvs, ks, ej, ek, hl, q2⟩ ⟨F3, ow3, S3⟩ => ?_, w.push⟩
    obtain ⟨F4, S4, _⟩ := S3.top_frz
    rw [ek] at S4
    obtain rfl := key_one S4.top
    obtain ⟨v', e2, p', rfl, _, _, _, vs, ep, r⟩ := S4.sl _ _ ej
    rw [e1] at e2
    cases e2
    refine ⟨p, _, rfl, DPut.k ep (by rw [repK_len r]; exact hl), k _ _ _ q2 ⟨F4, ow3, ?_⟩⟩
    exact (S4.pop.write (o' := .dK (putKD kvs ks y.toD)) ej e1 ⟨_, upd_same, repK_put S4.pop.top r⟩).pop, w⟩
theorem dget_k {K : PySem.W.Frag} {F H : Hp} {p : Addr} {ks : Key} {vs : List (Key × V)} {ds : List (Key × D)} (r : RepK K F vs ds) (ep : Rd H p (.dK vs)) : ∃ o, DGet H p (kV ks) o ∧ o.isSome = (valK ds ks).isSome :=
  ⟨_, .inl ⟨vs, ks, ep, rfl, rfl⟩, repK_some r⟩
def inKO (j : Nat) (n : Bool) (ti : TD) : TD := fun δ Q E => ti δ (fun k δ1 => ∃ kvs ks, δ1[j]? = some (some (.own (.dK kvs))) ∧ k.toD = keyOne ks ∧ Q (.d (.bl (n != (valK kvs ks).isSome))) δ1) E
theorem inKO_run {K : PySem.W.Frag} {j : Nat} {n : Bool} {ti : TD} {f : Bool → Bool} (hf : ∀ b, f b = (n != b)) : ∀ σ H Q, LE K c W (inKO j n ti) σ H Q → (LE K c W ti) σ H fun y H1 => tVar j σ H1 fun x H2 => ∃ a o, x = .ref a ∧ DGet H2 a y o ∧ Q (.bl (f o.isSome)) H2 := fun σ H Q ⟨δ, tmp, Qd, Ed, S, q, k, w⟩ =>
  ⟨δ, tmp, _, Ed, S, q, fun u y δ1 H1 ⟨kvs, ks, ej, ek, q1⟩ ⟨F1, ow1, S1⟩ => by
    obtain ⟨F2, S2, _⟩ := S1.top_frz
    rw [ek] at S2
    obtain rfl := key_one S2.top
    obtain ⟨v', e2, p', rfl, _, _, _, vs, ep, r⟩ := S2.sl _ _ ej
    obtain ⟨o, g, eo⟩ := dget_k (ks := ks) r (.inl ep)
    exact ⟨_, e2, p', o, rfl, g, k _ _ _ _ (by rw [hf, eo]; exact q1) ⟨F2, ow1, S2.pop.push (.bl _)⟩⟩, w⟩
theorem ptd_inKO_t {j : Nat} {x : Str} {i : Expr} {ti : TD} {pos px : Pos} (h : ∀ {ty td : TE}, PE X i ty → PE X (.Name x px) td → PT X (.Compare i [.In] [.Name x px] pos) (tB (tDIn ty td))) (hi : PE X i (LE X.K c W ti)) (hv : PE X (.Name x px) (tVar j)) : PT X (.Compare i [.In] [.Name x px] pos) (LT X.K c W (tvD (inKO j false ti))) :=
  PT_imp (h hi hv) fun σ H Q ⟨δ, tmp, Qd, Ed, S, q, k, w⟩ => inKO_run (j := j) (n := false) (ti := ti) (f := id) (fun b => by cases b <;> rfl) σ H (fun v H1 => ∃ b, v = .bl b ∧ Q b H1) ⟨δ, tmp, (fun x δ1 => ∃ b, x = .d (.bl b) ∧ Qd b δ1), Ed, S, q, fun v x δ' H' ⟨b, e, q'⟩ ⟨F, ow, S'⟩ => by
    subst e
    cases S'.top
    exact ⟨b, rfl, k _ _ _ q' ⟨F, ow, S'.pop⟩⟩, w⟩
theorem ptd_inKO_f {j : Nat} {x : Str} {i : Expr} {ti : TD} {pos px : Pos} (h : ∀ {ty td : TE}, PE X i ty → PE X (.Name x px) td → PT X (.Compare i [.NotIn] [.Name x px] pos) (tB (tDNotIn ty td))) (hi : PE X i (LE X.K c W ti)) (hv : PE X (.Name x px) (tVar j)) : PT X (.Compare i [.NotIn] [.Name x px] pos) (LT X.K c W (tvD (inKO j true ti))) :=
  PT_imp (h hi hv) fun σ H Q ⟨δ, tmp, Qd, Ed, S, q, k, w⟩ => inKO_run (j := j) (n := true) (ti := ti) (f := fun b => !b) (fun b => by cases b <;> rfl) σ H (fun v H1 => ∃ b, v = .bl b ∧ Q b H1) ⟨δ, tmp, (fun x δ1 => ∃ b, x = .d (.bl b) ∧ Qd b δ1), Ed, S, q, fun v x δ' H' ⟨b, e, q'⟩ ⟨F, ow, S'⟩ => by
    subst e
    cases S'.top
    exact ⟨b, rfl, k _ _ _ q' ⟨F, ow, S'.pop⟩⟩, w⟩
/-- a dict that changes no more -/
def inKF (n : Bool) (ti td : TD) : TD := fun δ Q E => ti δ (fun k δ1 => td δ1 (fun o δ2 => ∃ kvs ks, o.toD = .dK kvs ∧ k.toD = keyOne ks ∧ Q (.d (.bl (n != (valK kvs ks).isSome))) δ2) E) E
theorem inKF_run {K : PySem.W.Frag} {n : Bool} {ti td : TD} {f : Bool → Bool} (hf : ∀ b, f b = (n != b)) : ∀ σ H Q, LE K c W (inKF n ti td) σ H Q → (LE K c W ti) σ H fun y H1 => (LE K c W td) σ H1 fun x H2 => ∃ a o, x = .ref a ∧ DGet H2 a y o ∧ Q (.bl (f o.isSome)) H2 := fun σ H Q ⟨δ, tmp, Qd, Ed, S, q, k, w⟩ =>
  ⟨δ, tmp, _, Ed, S, q, fun u y δ1 H1 q1 S1 => ⟨δ1, _, _, Ed, S1, q1, fun t o δ2 H2 ⟨kvs, ks, eo, ek, q2⟩ ⟨F2, ow2, S2⟩ => by
    obtain ⟨F3, S3, _⟩ := S2.top_frz2
    rw [eo, ek] at S3
    obtain rfl := key_one S3.pop.top
    have r0 := S3.top
    cases r0 with
    | dK s r =>
      obtain ⟨ov, g, eov⟩ := dget_k (ks := ks) r (rd_mono S3.fh s)
      exact ⟨_, ov, rfl, g, k _ _ _ _ (by rw [hf, eov]; exact q2) ⟨F3, ow2, S3.pop.pop.push (.bl _)⟩⟩, w.push⟩, w⟩
theorem ptd_inKF_t {i o : Expr} {ti td : TD} {pos : Pos} (h : ∀ {ty td : TE}, PE X i ty → PE X o td → PT X (.Compare i [.In] [o] pos) (tB (tDIn ty td))) (hi : PE X i (LE X.K c W ti)) (ho : PE X o (LE X.K c W td)) : PT X (.Compare i [.In] [o] pos) (LT X.K c W (tvD (inKF false ti td))) :=
  PT_imp (h hi ho) fun σ H Q ⟨δ, tmp, Qd, Ed, S, q, k, w⟩ => inKF_run (n := false) (ti := ti) (td := td) (f := id) (fun b => by cases b <;> rfl) σ H (fun v H1 => ∃ b, v = .bl b ∧ Q b H1) ⟨δ, tmp, (fun x δ1 => ∃ b, x = .d (.bl b) ∧ Qd b δ1), Ed, S, q, fun v x δ' H' ⟨b, e, q'⟩ ⟨F, ow, S'⟩ => by
    subst e
    cases S'.top
    exact ⟨b, rfl, k _ _ _ q' ⟨F, ow, S'.pop⟩⟩, w⟩
/-! ### name -= number -/
end
end DL
namespace DR
open PySem PySem.Spec PyProof.Rows L2 DL
section
variable {δ : DSt} {Q : DK} {E : XD} {D : EndsD}
theorem newDK (h : Q (.own (.dK [])) δ) : DL.newDK δ Q E := h
theorem getKO {j : Nat} {ti : TD} {o : OC} (e : δ[j]? = some (some (.own o))) (h : ti δ (fun k δ1 => ∃ kvs ks d, δ1[j]? = some (some (.own (.dK kvs))) ∧ k.toD = keyOne ks ∧ valK kvs ks = some d ∧ Q (.d d) δ1) E) : DL.getKO j ti δ Q E := ⟨o, e, h⟩
theorem putK {j : Nat} {te ti : TD} (h : te δ (fun v δ1 => (∃ o, δ1[j]? = some (some (.own o))) ∧ ti δ1 (fun k δ2 => ∃ kvs ks, δ2[j]? = some (some (.own (.dK kvs))) ∧ k.toD = keyOne ks ∧ kvs.length < sizeLine ∧ D.nx (δ2.set j (some (.own (.dK (putKD kvs ks v.toD)))))) D.ex) D.ex) : putKS j te ti D δ := h
theorem inKO {j : Nat} {n : Bool} {ti : TD} (h : ti δ (fun k δ1 => ∃ kvs ks, δ1[j]? = some (some (.own (.dK kvs))) ∧ k.toD = keyOne ks ∧ Q (.d (.bl (n != (valK kvs ks).isSome))) δ1) E) : DL.inKO j n ti δ Q E := h
theorem inKF {n : Bool} {ti td : TD} (h : ti δ (fun k δ1 => td δ1 (fun o δ2 => ∃ kvs ks, o.toD = .dK kvs ∧ k.toD = keyOne ks ∧ Q (.d (.bl (n != (valK kvs ks).isSome))) δ2) E) E) : DL.inKF n ti td δ Q E := h
end
end DR

set_option Elab.async false
set_option linter.all false
set_option maxRecDepth 100000
set_option maxHeartbeats 2000000
/-! DL63: objects of the body's own: made without arguments, their methods, iteration, len -/
namespace DL
open PySem PySem.Spec PyProof.Rows L2
section
variable {X : Cx} {k : Nat} {f C : Addr} {fd : FuncData} {ps : List Str} {sd : SpD} {x m : Str} {p pos apos : Pos}
end
section
variable {X : Cx} {c : Fc} {W : WX} {k : Nat} {f C : Addr} {fd : FuncData} {ps : List Str} {sd : SpD} {x m : Str} {p pos apos : Pos} {e : Expr} {es : List Expr} {ta : TDA}
/-! len of an own object by its class's own __len__ -/
end
end DL
namespace DR
open PySem PySem.Spec PyProof.Rows L2 DL
section
variable {δ : DSt} {Q : DK} {E : XD}
end
end DR

set_option Elab.async false
set_option linter.all false
set_option maxRecDepth 100000
set_option maxHeartbeats 2000000
/-! DL64: sorted(xs, key=f), f an own def whose answer is a pair of whole numbers; f's calls keep what is held (not each object to the letter) -/
namespace SKI
open PySem PySem.Calls PySem.Spec PyProof.Rows PySem.W L2
section
variable {X : Cx} {pins : List (Addr × Obj)} {σ : L2.St} {H : Hp} {s : Shared} {a kS f : Addr} {us : List Value} {kys : List (Int × Int)} {e1 : Nat}
end
end SKI

set_option Elab.async false
set_option linter.all false
set_option maxRecDepth 100000
set_option maxHeartbeats 2000000
/-! DL65: sorted(xs, key=f) over data -/
namespace DL
open PySem PySem.Spec PyProof.Rows L2
section
variable {X : Cx} {k : Nat} {f : Addr} {fd : FuncData} {ps : List Str} {sp : Sp}
end
section
variable {K : PySem.W.Frag} {F : Hp}
end
section
variable {X : Cx} {c : Fc} {W : WX} {k : Nat} {f : Addr} {fd : FuncData} {ps : List Str} {sd : SpD}
end
end DL
namespace DR
open PySem PySem.Spec PyProof.Rows L2 DL
end DR

set_option Elab.async false
set_option linter.all false
set_option maxRecDepth 100000
set_option maxHeartbeats 2000000
/-! DL66: tuple(d.items()), d a dict by plain keys -/
namespace DL
open PySem PySem.Spec PyProof.Rows L2
section
variable {prog : Program} {w : World} {KT : Type} [DecidableEq KT] {knd : PySem.KeyKind prog w KT} {A : Around} {E : Value → Shared → Prop} {s : Shared} {r d : Addr} {kvs : List (KT × Value)} {ep : Nat}
end
abbrev keysV (kvs : List (Key × V)) : List V := kvs.map fun kv => kV kv.1
section
variable {X : Cx} {c : Fc} {W : WX}
end
end DL
namespace DR
open PySem PySem.Spec PyProof.Rows L2 DL
end DR

set_option Elab.async false
set_option linter.all false
set_option maxRecDepth 100000
set_option maxHeartbeats 2000000
/-! DL67: a call one of whose arguments is a new object of the body's own, handed over for good -/
namespace DL
open PySem PySem.Spec PyProof.Rows L2
section
variable (K : PySem.W.Frag) (c : Fc) (W : WX)
end
section
variable {K : PySem.W.Frag} {c : Fc} {F F' H H' : Hp} {ow : Addr → Option Hold} {δ : DSt} {tmp : List (V × DV)} {σ : L2.St} {v u : V} {x : DV} {o : OC} {d : D}
end
section
variable {K : PySem.W.Frag} {c : Fc} {W : WX} {F H : Hp} {ow : Addr → Option Hold} {δ : DSt} {tmp : List (V × DV)} {σ : L2.St} {v : V} {o : OC} {vs1 vs2 : List V} {as1 as2 : List AV} {xs1 xs2 : List DV} {sd : SpD} {Q : VK} {Qd : DK} {Ed : XD}
end
section
variable {X : Cx} {c : Fc} {W : WX}
variable {k : Nat} {f : Addr} {fd : FuncData} {ps : List Str} {sd : SpD} {x : Str} {p pos : Pos} {e : Expr} {es : List Expr} {ta : TDM}
end
end DL
namespace DR
open PySem PySem.Spec PyProof.Rows L2 DL
section
variable {δ : DSt} {Q : List AV → OC → List AV → DSt → Prop} {E : XD}
end
end DR

set_option Elab.async false
set_option linter.all false
set_option maxRecDepth 100000
set_option maxHeartbeats 2000000
/-! DL68: a class's constant -/
namespace DL
open PySem PySem.Spec PyProof.Rows L2
end DL
namespace DL
open PySem PySem.Spec PyProof.Rows L2
end DL

set_option Elab.async false
set_option linter.all false
set_option maxRecDepth 100000
/-! DL69: a, b, c = x, y, z where one is a cell -/
namespace DL
open PySem PySem.Spec PyProof.Rows L2
section
variable {X : Cx} {c : Fc} {W : WX}
end
end DL

set_option Elab.async false
set_option linter.all false
set_option maxRecDepth 100000
set_option maxHeartbeats 2000000
/-! DL70: a list's items to names; sorted of whole numbers and of rows of four whole numbers; xs[i], xs[j] = a, b -/
namespace DL
open PySem PySem.Spec PyProof.Rows L2 PySem.W
section
variable {X : Cx} {c : Fc} {W : WX}
def lstG (is : List Nat) : TDG := fun x δ Q => ∃ xs, x = .lst xs ∧ namesG is xs δ Q
theorem pgd_lst {is vs : List Nat} {e : Expr} {n : Nat} (h : PG X e (gUnl X.K n (gNames is))) (hn : n = is.length) (ni : ∀ i ∈ is, i ∉ c.sl ∧ i ∈ vs) : PG X e (LG X.K c vs (lstG is)) :=
  PG_imp h fun v σ H Q ⟨δ, tmp, x, Qd, ⟨F, ow, S⟩, ⟨xs, e, q⟩, k⟩ => by
    subst e
    have r0 := S.top
    cases r0 with
    | lst s1 r1 =>
      refine ⟨_, _, rfl, SqL.of (S.fh _ _ s1), ?_, names_run ni rfl S.pop r1 q k⟩
      rw [r1.len, hn]
      exact names_len q
/-! rows of four -/
/-! xs[i], xs[j] = a, b : xs the own list in slot n -/
end
end DL

set_option Elab.async false
set_option linter.all false
set_option maxRecDepth 100000
set_option maxHeartbeats 2000000
/-! DL71: d.get(k, x) of an own dict by plain keys -/
namespace DL
open PySem PySem.Spec PyProof.Rows L2
section
variable {X : Cx} {c : Fc} {W : WX}
end
end DL
namespace DR
open PySem PySem.Spec PyProof.Rows L2 DL
end DR

set_option Elab.async false
set_option linter.all false
set_option maxRecDepth 100000
/-! DL72: x not in xs, xs an own list that goes on changing -/
namespace DL
open PySem PySem.Spec PyProof.Rows L2
section
variable {X : Cx} {c : Fc} {W : WX}
end
end DL

set_option Elab.async false
set_option linter.all false
set_option maxRecDepth 100000
set_option maxHeartbeats 2000000
/-! DL73: cells: own objects that no name holds, kept on the stack; an alias is their address -/
namespace DL
open PySem PySem.Spec PyProof.Rows L2
abbrev Cells := List (Addr × OC)
abbrev cellV (x : Addr × OC) : V × DV := (.ref x.1, .own x.2)
abbrev stk (cs : Cells) : List (V × DV) := cs.map cellV
structure EndsC where
  nx : DSt → Cells → Prop
  rt : DV → DSt → Cells → Prop
  ex : XD
  bk : DSt → Cells → Prop := fun _ _ => False
  ct : DSt → Cells → Prop := fun _ _ => False
abbrev TDSc := EndsC → DSt → Cells → Prop
abbrev TDc := DSt → Cells → (DV → DSt → Cells → Prop) → XD → Prop
section
variable (K : PySem.W.Frag) (c : Fc) (W : WX)
def LEc (t : TDc) : TE := fun σ H Q => ∃ δ cs pre tmp Qd Ed, Stt K c δ (pre ++ (stk cs ++ tmp)) σ H ∧ t δ cs Qd Ed ∧ (∀ v x δ' cs' H', Qd x δ' cs' → Stt K c δ' ((v, x) :: (pre ++ (stk cs' ++ tmp))) σ H' → Q v H') ∧ WD K c W tmp Ed
def LSc (t : TDSc) : TS := fun D σ H => ∃ δ cs pre tmp Dd, Stt K c δ (pre ++ (stk cs ++ tmp)) σ H ∧ t Dd δ cs ∧ (∀ δ' cs' σ' H', Dd.nx δ' cs' → Stt K c δ' (pre ++ (stk cs' ++ tmp)) σ' H' → D.nx σ' H') ∧
  (∀ v x δ' cs' σ' H', Dd.rt x δ' cs' → Stt K c δ' ((v, x) :: (pre ++ (stk cs' ++ tmp))) σ' H' → D.rt v H') ∧
  (∀ δ' cs' σ' H', Dd.bk δ' cs' → Stt K c δ' (pre ++ (stk cs' ++ tmp)) σ' H' → D.bk σ' H') ∧ (∀ δ' cs' σ' H', Dd.ct δ' cs' → Stt K c δ' (pre ++ (stk cs' ++ tmp)) σ' H' → D.ct σ' H') ∧ WD K c W tmp Dd.ex
end
section
variable {K : PySem.W.Frag} {c : Fc} {W : WX} {tmp : List (V × DV)} {Ed : XD}
theorem WD.app (w : WD K c W tmp Ed) : ∀ l : List (V × DV), WD K c W (l ++ tmp) Ed
  | [] => w
  | (_, _) :: l => (w.app l).push
end
section
variable {X : Cx} {c : Fc} {W : WX}
/-! ### what stands without cells -/
def upS (t : TDS) : TDSc := fun D δ cs => t { nx := fun δ' => D.nx δ' cs, rt := fun x δ' => D.rt x δ' cs, ex := D.ex, bk := fun δ' => D.bk δ' cs, ct := fun δ' => D.ct δ' cs } δ
theorem psc_up {st : Stmt} {t : TDS} (h : PS X st (LS X.K c W t)) : PS X st (LSc X.K c W (upS t)) := PS_imp h fun D σ H ⟨δ, cs, pre, tmp, Dd, S, q, k, kr, kb, kc, w⟩ =>
  ⟨δ, _, _, S, q, fun δ' σ' H' => k δ' cs σ' H', fun v x δ' σ' H' => kr v x δ' cs σ' H', fun δ' σ' H' => kb δ' cs σ' H', fun δ' σ' H' => kc δ' cs σ' H', (w.app _).app _⟩
/-! ### blocks -/
def seqC (t u : TDSc) : TDSc := fun D δ cs => t { D with nx := u D } δ cs
theorem pdsc_cons {st : Stmt} {rest : List Stmt} {t u : TDSc} (h1 : PS X st (LSc X.K c W t)) (h2 : PSs X rest (LSc X.K c W u)) : PSs X (st :: rest) (LSc X.K c W (seqC t u)) :=
  PSs_imp (pss_cons h1 h2) fun D σ H ⟨δ, cs, pre, tmp, Dd, S, q, k, kr, kb, kc, w⟩ => ⟨δ, cs, pre, tmp, _, S, q, fun δ' cs' σ' H' q' S' => ⟨δ', cs', pre, tmp, Dd, S', q', k, kr, kb, kc, w⟩, kr, kb, kc, w⟩
theorem pdsc_one {st : Stmt} {t : TDSc} (h1 : PS X st (LSc X.K c W t)) : PSs X [st] (LSc X.K c W t) := PSs_imp (pss_one h1) fun _ _ _ q => q
/-- x = e -/
def setC (i : Nat) (o : Bool) (t : TDc) : TDSc := fun D δ cs => t δ cs (fun x δ1 cs1 => D.nx (δ1.set i (some (asD o x))) cs1) D.ex
theorem psc_set {i : Nat} {o : Bool} {x : Str} {e : Expr} {t : TDc} {pos pos' : Pos} (he : PE X e (LEc X.K c W t)) (ni : i ∉ c.sl) (hN : X.N.Nodup) (hi : X.N[i]? = some x) (hx : Loc X.env.scope x) (hs : swapsWith e (some (.Name x pos')) pos.line X.env = pure false := by rfl)
    (hf : X.fn x = true ∨ X.env.scope.names.lookup x = some .local := by first | exact .inl rfl | exact .inr rfl | assumption) : PS X (.Assign [.Name x pos'] e pos) (LSc X.K c W (setC i o t)) :=
  PS_imp (ps_set (i := i) hN hi hx he hs hf) fun D σ H ⟨δ, cs, pre, tmp, Dd, S, q, k, kr, kb, kc, w⟩ => ⟨δ, cs, pre, tmp, _, _, S, q, fun v x δ' cs' H' q' ⟨F, ow, S'⟩ => by
    obtain ⟨F', S2⟩ := S'.top_as o
    exact k _ _ _ _ q' (S2.set' ni), w⟩
/-! ### for -/
def forDC (g : TDG) (tb : TDSc) (D : EndsC) : List DL.D → DSt → Cells → Prop
  | [], δ, cs => D.nx δ cs
  | x :: xs, δ, cs => g x δ fun δ1 => tb { nx := forDC g tb D xs, ct := forDC g tb D xs, bk := D.nx, ex := D.ex, rt := fun _ _ _ => False } δ1 cs
def forC (ti : TDI) (g : TDG) (tb : TDSc) : TDSc := fun D δ cs => ti δ (fun xs δ1 => forDC g tb D xs δ1 cs) D.ex
theorem psc_for {tg iter : Expr} {body : List Stmt} {ti : TDI} {g : TDG} {tb : TDSc} {pos : Pos} (hp : PassesOwn (model X.prog X.w) X.A X.env X.xe) (hc : X.calm = true) (hi : PI X tg iter (LI X.K c W ti)) {vs : List Nat} (hg : PG X tg (LG X.K c vs g)) (hb : PSs X body (LSc X.K c W tb))
    (hs : ∀ x, foldedSetIterable iter X.env x = pure x := by intro _; rfl) : PS X (.For tg iter body [] pos) (LSc X.K c W (forC ti g tb)) :=
  PS_imp (ps_for hp hc hi hg hb hs) fun D σ H ⟨δ, cs, pre, tmp, Dd, S, q, k, kr, kb, kc, w⟩ => by
    refine ⟨δ, _, _, _, S, q, fun J v src items δ1 H1 q1 sv S1 => ?_, (w.app _).app _⟩
    refine ⟨fun i m σ H => m = items.length - i ∧ i ≤ items.length ∧ ∃ δ cs, Stt X.K c δ ((v, .d src) :: (pre ++ (stk cs ++ tmp))) σ H ∧ forDC g tb Dd (items.drop i) δ cs, ⟨items.length, by simp, Nat.zero_le _, δ1, cs, S1, q1⟩, ?_⟩
    rintro i m σ2 H2 ⟨rfl, hi, δ2, cs2, ⟨F2, ow2, S2⟩, q2⟩
    by_cases hlt : i < items.length
    · refine .inr ⟨sv.go i F2 H2 S2.fh S2.top hlt, fun σ H => i + 1 ≤ items.length ∧ ∃ δ cs, Stt X.K c δ ((v, .d src) :: (pre ++ (stk cs ++ tmp))) σ H ∧ forDC g tb Dd (items.drop (i + 1)) δ cs, fun σ' H' h => ⟨items.length - (i + 1), by omega, rfl, h⟩, fun x H' y => ?_⟩
      obtain ⟨F3, e3, r3⟩ := sv.yld i F2 H2 x H' S2.fh S2.top y _ (List.getElem?_eq_getElem hlt)
      rw [List.drop_eq_getElem_cons hlt] at q2
      exact ⟨δ2, (v, .d src) :: (pre ++ (stk cs2 ++ tmp)), _, _, ⟨F3, ow2, (S2.ext e3).push r3⟩, q2, fun δ4 σ4 H4 q4 S4 _ => ⟨δ4, cs2, (v, .d src) :: pre, tmp, _, S4, q4, fun δ5 cs5 σ5 H5 q5 S5 => ⟨hlt, δ5, cs5, S5, q5⟩, fun u z δ5 cs5 σ5 H5 q5 _ => q5.elim, fun δ5 cs5 σ5 H5 q5 ⟨F5, ow5, S5⟩ => k δ5 cs5 σ5 H5 q5 ⟨F5, ow5, S5.pop⟩, fun δ5 cs5 σ5 H5 q5 S5 => ⟨hlt, δ5, cs5, S5, q5⟩, w⟩⟩
    · have e : i = items.length := by omega
      subst e
      rw [List.drop_length] at q2
      exact .inl ⟨sv.stop _ F2 H2 S2.fh S2.top (Nat.le_refl _), k _ _ _ _ q2 ⟨F2, ow2, S2.pop⟩⟩
end
/-! ### the stack put in another order -/
section
variable {K : PySem.W.Frag} {c : Fc} {F H : Hp} {ow ow' : Addr → Option Hold} {δ : DSt} {σ : L2.St} {v : V} {x : DV}
def renH (f : Nat → Nat) : Option Hold → Option Hold
  | some (.t n) => some (.t (f n))
  | z => z
theorem RepV.ren {f : Nat → Nat} {n : Nat} (q : RepV K c F H ow (.t n) v x) : RepV K c F H (fun a => renH f (ow a)) (.t (f n)) v x := by
  cases x with
  | d y => exact q
  | own o =>
    obtain ⟨p, rfl, a, b, w, r⟩ := q
    exact ⟨p, rfl, by show renH f (ow p) = _; rw [a]; rfl, b, .inl w.t, r⟩
theorem RepV.renS {f : Nat → Nat} {i : Nat} (q : RepV K c F H ow (.s i) v x) : RepV K c F H (fun a => renH f (ow a)) (.s i) v x := by
  cases x with
  | d y => exact q
  | own o =>
    obtain ⟨p, rfl, a, b, w, r⟩ := q
    exact ⟨p, rfl, by show renH f (ow p) = _; rw [a]; rfl, b, w, r⟩
theorem RepTmp.ren {f : Nat → Nat} : ∀ {l : List (V × DV)}, (∀ n, n < l.length → f n = n) → RepTmp K c F H ow l → RepTmp K c F H (fun a => renH f (ow a)) l
  | [], _, _ => True.intro
  | (v, x) :: l, h, q => ⟨by
      have := q.1.ren (f := f)
      rw [h _ (Nat.lt_succ_self _)] at this
      exact this, RepTmp.ren (fun n hn => h n (Nat.lt_succ_of_lt hn)) q.2⟩
theorem RepTmp.sink {f : Nat → Nat} {v : V} {x : DV} {B : List (V × DV)} (h1 : ∀ n, n < B.length → f n = n) : ∀ {A : List (V × DV)}, (∀ n, B.length ≤ n → n < B.length + A.length → f n = n + 1) → RepTmp K c F H ow (A ++ B) → RepV K c F H (fun a => renH f (ow a)) (.t B.length) v x →
    RepTmp K c F H (fun a => renH f (ow a)) (A ++ (v, x) :: B)
  | [], _, q, r => ⟨r, RepTmp.ren h1 q⟩
  | (u, y) :: A, h, q, r => by
    refine ⟨?_, RepTmp.sink h1 (fun n a b => h n a (Nat.lt_succ_of_lt b)) q.2 r⟩
    have h2 : RepV K c F H (fun a => renH f (ow a)) (.t (f (A ++ B).length)) u y := q.1.ren (f := f)
    have e : f (A ++ B).length = (A ++ (v, x) :: B).length := by
      rw [h _ (by rw [List.length_append]; omega) (by rw [List.length_append, List.length_cons]; omega), List.length_append, List.length_append, List.length_cons]
      omega
    rw [e] at h2
    exact h2
theorem SttF.sink {A B : List (V × DV)} (S : SttF K c F ow δ ((v, x) :: (A ++ B)) σ H) : ∃ ow', SttF K c F ow' δ (A ++ (v, x) :: B) σ H := by
  let f : Nat → Nat := fun n => if n < B.length then n else if n < B.length + A.length then n + 1 else B.length
  refine ⟨fun a => renH f (ow a), { S with sl := fun i x q => let ⟨v, e1, e2⟩ := S.sl i x q; ⟨v, e1, e2.renS⟩, tm := ?_ }⟩
  refine RepTmp.sink (fun n h => if_pos h) (fun n h1 h2 => (if_neg (Nat.not_lt.mpr h1)).trans (if_pos h2)) S.tm.2 ?_
  have := S.tm.1.ren (f := f)
  have e : f (A ++ B).length = B.length := by
    show (if _ then _ else _) = _
    rw [List.length_append, if_neg (by omega), if_neg (by omega)]
  rw [e] at this
  exact this
theorem RepTmp.mid : ∀ {A B : List (V × DV)}, RepTmp K c F H ow (A ++ (v, x) :: B) → RepV K c F H ow (.t B.length) v x
  | [], _, q => q.1
  | (_, _) :: _, _, q => RepTmp.mid q.2
end
/-! ### an alias is put in the place of a name that holds the cell -/
section
variable {K : PySem.W.Frag} {c c' : Fc} {F H : Hp} {ow ow' : Addr → Option Hold} {δ : DSt} {σ : L2.St} {v : V} {x : DV} {a : Addr} {o : OC} {i : Nat}
end
section
variable {X : Cx} {c : Fc} {W : WX}
theorem cells_at {cs : Cells} {k : Nat} {a : Addr} {o : OC} (h : cs[k]? = some (a, o)) : ∃ l r, cs = l ++ (a, o) :: r ∧ ∀ o', cs.set k (a, o') = l ++ (a, o') :: r := by
  refine ⟨cs.take k, cs.drop (k + 1), ?_, fun o' => ?_⟩
  · have hk := set_lt h
    have e : cs[k] = (a, o) := Option.some.inj ((List.getElem?_eq_getElem hk).symm.trans h)
    rw [← e, ← List.drop_eq_getElem_cons hk, List.take_append_drop]
  · rw [List.set_eq_take_append_cons_drop, if_pos (set_lt h)]
end
end DL

set_option Elab.async false
set_option linter.all false
set_option maxRecDepth 100000
set_option maxHeartbeats 2000000
/-! DL74: with cells: [f(x) for x in xs], [e, list(..)], e[k] of an alias, a call that looks through the cells, the end of a def -/
namespace DL
open PySem PySem.Spec PyProof.Rows L2
section
variable {X : Cx} {c : Fc} {W : WX}
/-! ### comprehensions -/
theorem RepTmp.own {K : PySem.W.Frag} {c : Fc} {F H : Hp} {ow : Addr → Option Hold} : ∀ {l : List (V × DV)} {v : V} {x : DV}, RepTmp K c F H ow l → (v, x) ∈ l → ∃ k, k < l.length ∧ RepV K c F H ow (.t k) v x
  | (_, _) :: _, _, _, q, h => (List.mem_cons.mp h).elim (fun e => by cases e; exact ⟨_, Nat.lt_succ_self _, q.1⟩) fun h => let ⟨k, a, b⟩ := RepTmp.own q.2 h; ⟨k, Nat.lt_succ_of_lt a, b⟩
/-! ### [x, an own list that becomes a cell] -/
/-! ### a row of values, the first with cells -/
/-! ### an item of an alias -/
/-! ### looking through the cells -/
/-- x is y when one looks through the cells -/
def Fill (K : PySem.W.Frag) (cs : Cells) (x y : D) : Prop := ∀ (F : Hp) (v : V), (∀ a o, (a, o) ∈ cs → Rep K F (.ref a) o.toD) → Rep K F v x → Rep K F v y
/-! ### the end of a def: cells are looked through -/
theorem frz_all {K : PySem.W.Frag} {H : Hp} {ow : Addr → Option Hold} {δ : DSt} {σ : L2.St} {tmp : List (V × DV)} : ∀ {cs : Cells} {F : Hp}, SttF K c F ow δ (stk cs ++ tmp) σ H → ∃ F', SttF K c F' ow δ tmp σ H ∧ Same F F' ∧ ∀ a o, (a, o) ∈ cs → Rep K F' (.ref a) o.toD
  | [], F, S => ⟨F, S, Same.refl F, fun a o h => nomatch h⟩
  | (a, o) :: cs, F, S => by
    obtain ⟨F1, S1, s1⟩ := S.top_frz
    obtain ⟨F2, S2, s2, h⟩ := frz_all (cs := cs) S1.pop
    refine ⟨F2, S2, s1.trans s2, fun b o' hm => ?_⟩
    rcases List.mem_cons.mp hm with e | hm
    · cases e; exact Rep.mono s2 S1.top
    · exact h b o' hm
end
end DL
/-! ### readings -/
namespace DR
open PySem PySem.Spec PyProof.Rows L2 DL
theorem cutC {t u : TDSc} {D : EndsC} {δ : DSt} {cs : Cells} (I : DSt → Cells → Prop) (h1 : ∀ N : DSt → Cells → Prop, (∀ δ cs, I δ cs → N δ cs) → t { D with nx := N } δ cs) (h2 : ∀ δ cs, I δ cs → u D δ cs) : seqC t u D δ cs := h1 _ h2
theorem upC {t : TDS} {D : EndsC} {δ : DSt} {cs : Cells} (h : t { nx := fun δ' => D.nx δ' cs, rt := fun x δ' => D.rt x δ' cs, ex := D.ex, bk := fun δ' => D.bk δ' cs, ct := fun δ' => D.ct δ' cs } δ) : upS t D δ cs := h
theorem forC {ti : TDI} {g : TDG} {tb : TDSc} {D : EndsC} {δ : DSt} {cs : Cells} (h : ti δ (fun xs δ1 => forDC g tb D xs δ1 cs) D.ex) : DL.forC ti g tb D δ cs := h
theorem forC_inv {g : TDG} {tb : TDSc} {D : EndsC} {xs : List DL.D} {δ : DSt} {cs : Cells} (I : Nat → DSt → Cells → Prop) (h0 : I 0 δ cs)
    (hs : ∀ i x δ cs (N : DSt → Cells → Prop), xs[i]? = some x → I i δ cs → (∀ δ' cs', I (i + 1) δ' cs' → N δ' cs') → g x δ (fun δ1 => tb { nx := N, ct := N, bk := D.nx, ex := D.ex, rt := fun _ _ _ => False } δ1 cs))
    (hn : ∀ δ cs, I xs.length δ cs → D.nx δ cs) : forDC g tb D xs δ cs := by
  have go : ∀ (m i : Nat) δ cs, i + m = xs.length → I i δ cs → forDC g tb D (xs.drop i) δ cs := fun m => by
    induction m with
    | zero =>
      intro i δ cs e h
      have e : i = xs.length := e
      subst e
      rw [List.drop_length]
      exact hn δ cs h
    | succ m ih =>
      intro i δ cs e h
      have hl : i < xs.length := by omega
      rw [List.drop_eq_getElem_cons hl]
      exact hs i _ δ cs _ (List.getElem?_eq_getElem hl) h fun δ' cs' h' => ih (i + 1) δ' cs' (by omega) h'
  have := go xs.length 0 δ cs (Nat.zero_add _) h0
  rwa [List.drop_zero] at this
end DR
namespace DL
open PySem PySem.Spec PyProof.Rows L2
section
variable {K : PySem.W.Frag} {cs : Cells} {x y : D} {xs ys : List D}
theorem Fill.refl : Fill K cs x x := fun _ _ _ r => r
theorem Fill.adr {a : Addr} {o : OC} (h : (a, o) ∈ cs) : Fill K cs (.adr a) o.toD := fun F v hc r => by
  cases r
  exact hc a o h
end
end DL
namespace DR
open PySem PySem.Spec PyProof.Rows L2 DL
section
variable {δ : DSt} {cs : Cells} {Q : DV → DSt → Cells → Prop} {E : XD} {D : EndsC}
theorem setC {i : Nat} {o : Bool} {t : TDc} (h : t δ cs (fun x δ1 cs1 => D.nx (δ1.set i (some (asD o x))) cs1) D.ex) : DL.setC i o t D δ cs := h
theorem seqC {t u : TDSc} (h : t { D with nx := u D } δ cs) : DL.seqC t u D δ cs := h
end
end DR

set_option Elab.async false
set_option linter.all false
set_option maxRecDepth 100000
set_option maxHeartbeats 2000000
/-! LamK: a lambda with one parameter, made and called -/
namespace LamY
open PySem PySem.Spec PyProof.Rows L2 LamX
section
variable {X : Cx} {pins : List (Addr × Obj)} {σ : L2.St} {H : Hp} {s : Shared}
end
/-! ### its names: one parameter, captured names and globals -/
section
variable {X : Cx} {pins : List (Addr × Obj)} {σ : L2.St} {H : Hp} {s : Shared}
end
end LamY

set_option Elab.async false
set_option linter.all false
set_option maxRecDepth 100000
set_option maxHeartbeats 2000000
/-! DL75: sorted(xs, key=lambda x: ..): the table of code objects is a cell -/
namespace DL
open PySem PySem.Spec PyProof.Rows L2
section
variable {K : PySem.W.Frag} {c c' : Fc} {F F' H H' H1 : Hp} {ow ow' : Addr → Option Hold} {δ : DSt} {σ : L2.St} {v : V} {x : DV}
theorem RepTmp.change {v : V} {x y : DV} {B : List (V × DV)} (n : ∀ k v x, k ≠ B.length → RepV K c F H ow (.t k) v x → RepV K c' F' H' ow' (.t k) v x) (r : RepV K c' F' H' ow' (.t B.length) v y) : ∀ {A : List (V × DV)}, RepTmp K c F H ow (A ++ (v, x) :: B) → RepTmp K c' F' H' ow' (A ++ (v, y) :: B)
  | [], q => ⟨r, by
      have go : ∀ {l : List (V × DV)}, l.length ≤ B.length → RepTmp K c F H ow l → RepTmp K c' F' H' ow' l := fun {l} => by
        induction l with
        | nil => exact fun _ _ => True.intro
        | cons e l ih =>
          obtain ⟨u, z⟩ := e
          exact fun hl q => ⟨n _ _ _ (by have : l.length + 1 ≤ B.length := hl; omega) q.1, ih (Nat.le_of_succ_le hl) q.2⟩
      exact go (Nat.le_refl _) q.2⟩
  | (u, z) :: A, q => ⟨by
      have hl : (A ++ (v, x) :: B).length = (A ++ (v, y) :: B).length := by rw [List.length_append, List.length_append]; rfl
      have hn : (A ++ (v, x) :: B).length ≠ B.length := by rw [List.length_append, List.length_cons]; omega
      have h1 : RepV K c' F' H' ow' (.t (A ++ (v, x) :: B).length) u z := n _ _ _ hn q.1
      rw [hl] at h1
      exact h1, RepTmp.change n r q.2⟩
end
/-! ### the lambda as a value; sorted by it -/
section
variable {X : Cx} {c : Fc} {W : WX}
end
/-! ### over data -/
section
variable {X : Cx} {c : Fc} {W : WX}
end
end DL
namespace DR
open PySem PySem.Spec PyProof.Rows L2 DL
end DR

set_option Elab.async false
set_option linter.all false
set_option maxRecDepth 100000
set_option maxHeartbeats 2000000
/-! DL76: defs that make lambdas, or call such: the table goes with the call -/
namespace DL
open PySem PySem.Spec PyProof.Rows L2
section
variable {K : PySem.W.Frag} {c : Fc} {F F' H H' : Hp} {ow : Addr → Option Hold} {δ : DSt} {σ : L2.St} {v : V} {x : DV} {P : Addr} {q : Str}
end
/-! ### the call -/
section
variable {X : Cx} {c : Fc} {W : WX}
/-! ### statements -/
end
/-! ### the def -/
section
variable {P : Program} {w : World} {K : PySem.W.Frag} {mg : Str → Option Value} {base : Heap}
end
end DL
namespace DR
open PySem PySem.Spec PyProof.Rows L2 DL
section
variable {δ : DSt} {cs : Cells} {Q : DV → DSt → Cells → Prop} {E : XD} {D : EndsC}
end
end DR
namespace DL
open PySem PySem.Spec PyProof.Rows L2
end DL

set_option Elab.async false
set_option linter.all false
set_option maxRecDepth 100000
set_option maxHeartbeats 2000000
/-! DL77: a dict of one's own in a field of one's own object (within a def): self.f = {..}; self.f[k] = e; g(self.f, x) -/
namespace DL
open PySem PySem.Spec PyProof.Rows L2
mutual
/-- no dict within -/
def D.noK : D → Bool
  | .lst xs => noKL xs
  | .ro xs => noKL xs
  | .tup xs => noKL xs
  | .rot xs => noKL xs
  | .ktp xs => noKL xs
  | .obj _ fs => noKF fs
  | .dT _ => false
  | .dK _ => false
  | .exc _ _ _ _ _ => false
  | .gho _ _ => false
  | .lkd _ _ _ _ => false
  | _ => true
def noKL : List D → Bool
  | [] => true
  | d :: ds => d.noK && noKL ds
def noKF : List (Str × D) → Bool
  | [] => true
  | (_, d) :: ds => d.noK && noKF ds
end
section
variable {K : PySem.W.Frag} {F F' : Hp}
theorem rd_less {a : Addr} {u : HO} {ks : List (Key × V)} (hd : F a = some (.dK ks)) (hF : ∀ b, b ≠ a → F' b = F b) {p : Addr} (n1 : u ≠ .dK ks) (n2 : ∀ o, HO.frz o u ≠ .dK ks) (h : Rd F p u) : Rd F' p u := by
  have np : p ≠ a := fun z => by
    rw [z] at h
    rcases h with h | ⟨o, h⟩
    · rw [hd] at h; exact n1 (Option.some.inj h).symm
    · rw [hd] at h; exact n2 o (Option.some.inj h).symm
  rcases h with h | ⟨o, h⟩
  · exact .inl ((hF p np).trans h)
  · exact .inr ⟨o, (hF p np).trans h⟩
theorem at_less {a : Addr} {u : HO} {ks : List (Key × V)} (hd : F a = some (.dK ks)) (hF : ∀ b, b ≠ a → F' b = F b) {p : Addr} (n1 : u ≠ .dK ks) (h : F p = some u) : F' p = some u := by
  have np : p ≠ a := fun z => by rw [z, hd] at h; exact n1 (Option.some.inj h).symm
  exact (hF p np).trans h
theorem ne_l {vs : List V} {ks : List (Key × V)} : HO.lst vs ≠ .dK ks := fun z => nomatch z
theorem ne_f {o : Obj} {u : HO} {ks : List (Key × V)} : HO.frz o u ≠ .dK ks := fun z => nomatch z
theorem ne_t {vs : List V} {ks : List (Key × V)} : HO.tup vs ≠ .dK ks := fun z => nomatch z
theorem ne_i {C d : Addr} {vs : List (Str × V)} {ks : List (Key × V)} : HO.ins C d vs ≠ .dK ks := fun z => nomatch z
mutual
/-- what has no dict within stands without one dict -/
theorem Rep.less {a : Addr} {ks : List (Key × V)} (hd : F a = some (.dK ks)) (hF : ∀ b, b ≠ a → F' b = F b) : ∀ {v : V} {d : D}, Rep K F v d → d.noK = true → Rep K F' v d
  | _, _, .non, _ => .non
  | _, _, .bl b, _ => .bl b
  | _, _, .int i, _ => .int i
  | _, _, .str k, _ => .str k
  | _, _, .ty n, _ => .ty n
  | _, _, .adr a, _ => .adr a
  | _, _, .lst s h, n => .lst (at_less hd hF ne_l s) (h.less hd hF n)
  | _, _, .ro s h, n => .ro (s.imp (rd_less hd hF ne_l fun _ => ne_f) id) (h.less hd hF n)
  | _, _, .tup s h, n => .tup (at_less hd hF ne_t s) (h.less hd hF n)
  | _, _, .rot s hc hd' h, n => .rot (at_less hd hF ne_f s) hc hd' (h.less hd hF n)
  | _, _, .ktp s h, n => .ktp (s.imp (rd_less hd hF ne_t fun _ => ne_f) id) (h.less hd hF n)
  | _, _, .obj s h, n => .obj (at_less hd hF ne_i s) (h.less hd hF n)
  | _, _, .dT _ _, h => nomatch h
  | _, _, .dK _ _, h => nomatch h
  | _, _, .exc0, h => nomatch h
  | _, _, .exc _ _, h => nomatch h
  | _, _, .gho _, h => nomatch h
  | _, _, .lkd _ _, h => nomatch h
theorem RepL.less {a : Addr} {ks : List (Key × V)} (hd : F a = some (.dK ks)) (hF : ∀ b, b ≠ a → F' b = F b) : ∀ {vs : List V} {ds : List D}, RepL K F vs ds → noKL ds = true → RepL K F' vs ds
  | _, _, .nil, _ => .nil
  | _, _, .cons h t, n => .cons (h.less hd hF (Bool.and_eq_true _ _ ▸ n).1) (t.less hd hF (Bool.and_eq_true _ _ ▸ n).2)
theorem RepF.less {a : Addr} {ks : List (Key × V)} (hd : F a = some (.dK ks)) (hF : ∀ b, b ≠ a → F' b = F b) : ∀ {vs : List (Str × V)} {ds : List (Str × D)}, RepF K F vs ds → noKF ds = true → RepF K F' vs ds
  | _, _, .nil, _ => .nil
  | _, _, .cons h t, n => .cons (h.less hd hF (Bool.and_eq_true _ _ ▸ n).1) (t.less hd hF (Bool.and_eq_true _ _ ▸ n).2)
end
end
section
variable {K : PySem.W.Frag} {c : Fc} {F H : Hp} {ow : Addr → Option Hold} {δ : DSt} {σ : L2.St}
/-- a cell's content is written -/
theorem SttF.writeC {A B : List (V × DV)} {a : Addr} {o o' : OC} {ob : HO} (S : SttF K c F ow δ (A ++ (.ref a, .own o) :: B) σ H) (r' : OwnRep K F (upd H a ob) a o') : SttF K c F ow δ (A ++ (.ref a, .own o') :: B) σ (upd H a ob) := by
  obtain ⟨p, e0, ea, b, w, r⟩ := S.tm.mid
  cases e0
  have keep : ∀ {h : Hold} {v : V} {x : DV}, RepV K c F H ow h v x → h ≠ .t B.length → RepV K c F (upd H a ob) ow h v x := fun {h v x} y ne => by
    cases x with
    | d z => exact y
    | own z =>
      obtain ⟨p, rfl, ep, bp, wp, rp⟩ := y
      exact ⟨p, rfl, ep, bp, wp, rp.mono (Same.refl F) (upd_ne fun t => by subst t; rw [ea] at ep; cases ep; exact ne rfl)⟩
  refine ⟨fun p u z => ?_, S.f0, S.fn, fun p u z n => ?_, fun p z => ?_, S.len, fun j z qz => let ⟨v, e1, e2⟩ := S.sl j z qz; ⟨v, e1, keep e2 fun z => nomatch z⟩, ?_, S.ps⟩
  · rw [upd_ne (ne_of_none z b)]
    exact S.fh _ _ z
  · rw [upd_ne (fun t => by subst t; rw [w.t] at z; cases z)]
    exact S.fr p u z n
  · by_cases t : p = a
    · subst t; rw [upd_same] at z; cases z
    · rw [upd_ne t] at z; exact S.up p z
  · exact RepTmp.change (x := .own o) (y := .own o') (fun k v x hk q => keep q fun z => hk (by cases z; rfl)) ⟨a, rfl, ea, b, w, r'⟩ S.tm
/-- an own object at a slot read in another way -/
theorem SttF.refit {i : Nat} {tmp : List (V × DV)} {o o' : OC} (S : SttF K c F ow δ tmp σ H) (q : δ[i]? = some (some (.own o))) (f : ∀ p, OwnRep K F H p o → OwnRep K F H p o') : SttF K c F ow (δ.set i (some (.own o'))) tmp σ H := by
  refine { S with len := by rw [List.length_set]; exact S.len, sl := fun j z qz => ?_ }
  by_cases e : i = j
  · subst e
    rw [List.getElem?_set_self (set_lt q)] at qz
    cases qz
    obtain ⟨v, e1, p, rfl, a, b, w, r⟩ := S.sl _ _ q
    exact ⟨_, e1, p, rfl, a, b, w, f p r⟩
  · rw [List.getElem?_set_ne e] at qz
    exact S.sl j z qz
end
section
variable {X : Cx} {c : Fc} {W : WX}
/-- self.f = e, e a new object of one's own that becomes a cell -/
def fldC (C : Addr) (i : Nat) (f : Str) (t : TD) : TDSc := fun D δ cs => t δ (fun y δ1 => ∃ fs o, y = .own o ∧ δ1[i]? = some (some (.own (.ins C fs))) ∧ fs.length < 1000 ∧ ∀ a, a ∉ cs.map (·.1) → D.nx (δ1.set i (some (.own (.ins C (putD f (.adr a) fs))))) ((a, o) :: cs)) D.ex
theorem psc_fldC {i : Nat} {x : Str} {C : Addr} {f : Str} {value : Expr} {t : TD} {pos px pos' : Pos} (he : PE X (.Name x px) (tVar i)) (hv : PE X value (LE X.K c W t)) (cl : Cls X.K C) (na : NoAttr X.K C f) (hs : swapsWith value (some (.Attribute (.Name x px) f pos')) pos.line X.env = pure false) :
    PS X (.Assign [.Attribute (.Name x px) f pos'] value pos) (LSc X.K c W (fldC C i f t)) :=
  PS_imp (ps_fld he hv hs) fun D σ H ⟨δ, cs, pre, tmp, Dd, S, q, k, kr, kb, kc, w⟩ => ⟨δ, _, _, _, S, q, fun v y δ1 H1 ⟨fs, o, ey, ei, lf, q'⟩ ⟨F, ow, S1⟩ => by
    subst ey
    obtain ⟨a', e0, ea, _⟩ := S1.tm.1
    subst e0
    have hfr : a' ∉ cs.map (·.1) := fun h => by
      obtain ⟨⟨b, o2⟩, hm, e⟩ := List.mem_map.mp h
      have e : b = a' := e
      subst e
      obtain ⟨k, hk, p', e0, eb, _⟩ := RepTmp.own S1.tm.2 (List.mem_append_right pre (List.mem_append_left tmp (List.mem_map.mpr ⟨(b, o2), hm, rfl⟩)))
      cases e0
      rw [ea] at eb
      cases eb
      exact Nat.lt_irrefl _ hk
    obtain ⟨ow2, S2⟩ := SttF.sink (A := pre) (B := stk cs ++ tmp) S1
    obtain ⟨u, e1, p, rfl, _, _, _, dx, vs, ep, r⟩ := S2.sl _ _ ei
    refine ⟨_, e1, p, C, dx, vs, rfl, ep, cl, na, by rw [r.length]; exact lf, k _ ((a', o) :: cs) _ _ (q' a' hfr) ⟨F, ow2, ?_⟩⟩
    exact S2.write ei e1 ⟨dx, _, upd_same, r.put (.adr a')⟩, (w.app _).app _⟩
/-- f(e, e'), e an alias of a dict that is lent; the answer holds no dict -/
def lendK (sd : SpD) (t u : TD) : TDc := fun δ cs Q E => t δ (fun x δ1 => u δ1 (fun y δ2 => ∃ a kvs, x.toD = .adr a ∧ (a, .dK kvs) ∈ cs ∧ sd [.d (.dK kvs), .d y.toD] (fun r os => os = [] ∧ ∃ z, r = .d z ∧ z.noK = true ∧ Q (.d z) δ2 cs) (fun _ _ => False)) E) E
theorem pec_lendK {k : Nat} {f : Addr} {fd : FuncData} {ps : List Str} {sd : SpD} {x : Str} {a b : Expr} {t u : TD} {p pos : Pos} (G : FnOk X.prog X.w X.K X.mg X.base (L2.CX X.prog X.w) k f fd ps (spOf X.K sd)) (hr : Room k X.A) (hg : Gl X x) (hm : X.mg x = some (.ref f)) (hk : PySem.W.keepIn X.K (.ref f) = true) (hb : Binds X.K fd ps []) (tk : Takes X W)
    (ha : PE X a (LE X.K c W t)) (hb' : PE X b (LE X.K c W u)) (hdb : (x == ("__debug__" : Str)) = false := by decide) (h1 : starEach [a, b] X.env = (false, eval a X.env) :: starEach [b] X.env := by rfl) (h2 : starEach [b] X.env = (false, eval b X.env) :: starEach [] X.env := by rfl) (hpl : (backTo pos (starEach [b] X.env)).any (·.1) = false := by rfl) :
    PE X (.Call (.Name x p) [a, b] [] pos) (LEc X.K c W (lendK sd t u)) :=
  PE_imp (pe_callSD (E := WE W) G hr hg hm hk hb .nil (fun σ => passAt tk σ) (pa_cons ha (pa_cons hb' pa_nil h2) h1) hdb h1 hpl) fun σ H Q ⟨δ, cs, pre, tmp, Qd, Ed, S, q, kk, w⟩ => by
    refine ⟨δ, _, _, _, S, q, fun v x δ1 H1 q1 ⟨F1, ow1, S1⟩ => ?_, (w.app _).app _⟩
    obtain ⟨F2, S2, _⟩ := S1.top_frz
    refine ⟨δ1, _, _, _, ⟨F2, ow1, S2⟩, q1, fun v2 y δ2 H2 ⟨ad, kvs, ex, hm, sp⟩ ⟨F3, ow3, S3⟩ => ?_, ((w.app _).app _).push⟩
    obtain ⟨F4, S4, s4⟩ := S3.top_frz
    have rx : Rep X.K F4 v x.toD := S4.pop.top
    rw [ex] at rx
    cases rx
    have ry := S4.top
    have S5 := S4.pop.pop
    obtain ⟨kx, _, p', e0, ea, bF, wP, ks, ep, rk⟩ := RepTmp.own S5.tm (List.mem_append_right pre (List.mem_append_left tmp (List.mem_map.mpr ⟨(ad, .dK kvs), hm, rfl⟩)))
    cases e0
    let F5 : Hp := upd F4 ad (.dK ks)
    have s5 : Same F4 F5 := same_upd (Same.refl F4) bF
    have s6 : Same F5 H2 := same_upd1 S5.fh ep
    refine ⟨F5, _, [], _, _, s6, .d (.dK (.inl upd_same) (rk.mono s5)) (.d (Rep.mono s5 ry) .nil), sp, fun u r os F' H' ⟨_, z, ez, hz, hq⟩ P rr => ?_, fun _ _ _ _ _ _ z _ _ => z.elim⟩
    subst ez
    let F'' : Hp := fun b => if b = ad then none else F' b
    have g1 : F'' ad = none := if_pos rfl
    have g2 : ∀ b, b ≠ ad → F'' b = F' b := fun b h => if_neg h
    have hd : F' ad = some (.dK ks) := P.f _ _ upd_same
    have sF : Same F4 F'' := fun b u e => by
      have hb : b ≠ ad := fun z => by rw [z, bF] at e; cases e
      rw [g2 b hb]
      exact P.f _ _ (s5 _ _ e)
    have P' : Post X.K F4 H2 [] [] F'' H' := by
      refine ⟨sF, fun b u e => ?_, fun b u e n => P.fr b u e n, P.up, fun b hb => ?_, .nil⟩
      · by_cases h : b = ad
        · rw [h, g1] at e; cases e
        · rw [g2 b h] at e; exact P.fh _ _ e
      · by_cases h : b = ad
        · rw [h, g1] at hb; exact (hb rfl).elim
        · rw [g2 b h] at hb
          rcases P.nw b hb with z | z
          · have z : upd F4 ad (.dK ks) b ≠ none := z
            rw [upd_ne h] at z; exact .inl z
          · exact .inr z
    have S6 := S5.called (is := []) (ps := []) (os := []) rfl (fun k i p e => nomatch e) .nil P'
    exact kk u (.d z) δ2 cs H' hq ⟨F'', ow3, S6.push (Rep.less hd g2 rr hz)⟩
/-- e[k] = v, e an alias of a dict -/
def putC (te : TDc) (to ti : TD) : TDSc := fun D δ cs => te δ cs (fun v δ1 cs1 => to δ1 (fun x δ2 => ti δ2 (fun k δ3 => ∃ n a kvs ks, x.toD = .adr a ∧ cs1[n]? = some (a, .dK kvs) ∧ k.toD = keyOne ks ∧ kvs.length < sizeLine ∧ D.nx δ3 (cs1.set n (a, .dK (putKD kvs ks v.toD)))) D.ex) D.ex) D.ex
theorem psc_putC {o i e : Expr} {te : TDc} {to ti : TD} {pos pos' : Pos} (h : ∀ {to ti tv : TE}, PE X o to → PE X i ti → PE X e tv → PS X (.Assign [.Subscript o i pos'] e pos) (sDPut to ti tv)) (ho : PE X o (LE X.K c W to)) (he : PE X e (LEc X.K c W te)) (hi : PE X i (LE X.K c W ti)) :
    PS X (.Assign [.Subscript o i pos'] e pos) (LSc X.K c W (putC te to ti)) :=
  PS_imp (h ho hi he) fun D σ H ⟨δ, cs, pre, tmp, Dd, S, q, k, kr, kb, kc, w⟩ => ⟨δ, cs, pre, tmp, _, _, S, q, fun u y δ1 cs1 H1 q1 ⟨F1, ow1, S1⟩ => by
    obtain ⟨F2, S2, _⟩ := S1.top_frz
    refine ⟨δ1, _, _, _, ⟨F2, ow1, S2⟩, q1, fun v x δ2 H2 q2 ⟨F3, ow3, S3⟩ => ?_, ((w.app _).app _).push⟩
    obtain ⟨F4, S4, _⟩ := S3.top_frz
    refine ⟨δ2, _, _, _, ⟨F4, ow3, S4⟩, q2, fun t z δ3 H3 ⟨n, a, kvs, ks, ex, en, ek, hl, q3⟩ ⟨F5, ow5, S5⟩ => ?_, (((w.app _).app _).push).push⟩
    obtain ⟨F6, S6, _⟩ := S5.top_frz
    rw [ek] at S6
    obtain rfl := key_one S6.top
    have rx : Rep X.K F6 v x.toD := S6.pop.top
    rw [ex] at rx
    cases rx
    have ry : Rep X.K F6 u y.toD := S6.pop.pop.top
    have S7 := S6.pop.pop.pop
    obtain ⟨l, r, e1, e2⟩ := cells_at en
    have es : pre ++ (stk cs1 ++ tmp) = (pre ++ stk l) ++ (V.ref a, .own (.dK kvs)) :: (stk r ++ tmp) := by rw [e1]; simp [stk]
    rw [es] at S7
    obtain ⟨p', e0, _, _, _, vs, ep, rk⟩ := S7.tm.mid
    cases e0
    refine ⟨a, _, rfl, DPut.k ep (by rw [repK_len rk]; exact hl), k _ _ _ _ q3 ⟨F6, ow5, ?_⟩⟩
    have S8 := S7.writeC (o' := .dK (putKD kvs ks y.toD)) (ob := .dK _) ⟨_, upd_same, repK_put ry rk⟩
    rw [e2]
    have es' : pre ++ (stk (l ++ (a, .dK (putKD kvs ks y.toD)) :: r) ++ tmp) = (pre ++ stk l) ++ (V.ref a, .own (.dK (putKD kvs ks y.toD))) :: (stk r ++ tmp) := by simp [stk]
    rw [es']
    exact S8, w⟩
/-! ### the end of an __init__ -/
def FillF (K : PySem.W.Frag) (cs : Cells) (fs gs : List (Str × D)) : Prop := ∀ (F : Hp) (vs : List (Str × V)), (∀ a o, (a, o) ∈ cs → Rep K F (.ref a) o.toD) → RepF K F vs fs → RepF K F vs gs
theorem FillF.nil {K : PySem.W.Frag} {cs : Cells} : FillF K cs [] [] := fun _ _ _ r => r
theorem FillF.cons {K : PySem.W.Frag} {cs : Cells} {n : Str} {x y : D} {fs gs : List (Str × D)} (h : Fill K cs x y) (t : FillF K cs fs gs) : FillF K cs ((n, x) :: fs) ((n, y) :: gs) := fun F vs hc r => by
  cases r with
  | cons r rs => exact .cons (h F _ hc r) (t F _ hc rs)
def exitI (K : PySem.W.Frag) (i : Nat) (t : TDSc) : TDS := fun D δ => t { nx := fun δ' cs => ∃ C fs gs, δ'[i]? = some (some (.own (.ins C fs))) ∧ FillF K cs fs gs ∧ D.nx (δ'.set i (some (.own (.ins C gs)))), rt := fun _ _ _ => False, ex := D.ex } δ []
theorem pss_exitI {K : PySem.W.Frag} {i : Nat} {body : List Stmt} {t : TDSc} (h : PSs X body (LSc X.K c W t)) (hK : X.K = K := by rfl) : PSs X body (LS X.K c W (exitI K i t)) := by
  subst hK
  exact PSs_imp h fun D σ H ⟨δ, tmp, Dd, S, q, k, kr, kb, kc, w⟩ => ⟨δ, [], [], tmp, _, S, q, fun δ' cs' σ' H' ⟨C, fs, gs, ei, hf, q'⟩ ⟨F, ow, S'⟩ => by
    obtain ⟨F', S2, s, hc⟩ := frz_all (cs := cs') S'
    exact k _ σ' H' q' ⟨F', ow, S2.refit ei fun p ⟨dx, vs, e, r⟩ => ⟨dx, vs, e, hf F' vs hc r⟩⟩, fun _ _ _ _ _ _ z _ => z.elim, fun _ _ _ _ z _ => z.elim, fun _ _ _ _ z _ => z.elim, w⟩
end
end DL

set_option Elab.async false
set_option linter.all false
set_option maxRecDepth 100000
set_option maxHeartbeats 2000000
/-! DL78: a dict by plain keys walked (locked while a statement runs); list(d) -/
namespace DL
open PySem PySem.Spec PyProof.Rows L2
section
variable {K : PySem.W.Frag} {F F2 H : Hp} {a : Addr} {od : Obj} {ks : List (Key × V)}
abbrev zO (od : Obj) (ks : List (Key × V)) : HO := .frz od (.dK ks)
theorem ne_x {vs : List (Str × V)} : HO.xd vs ≠ .dK ks := fun z => nomatch z
theorem nf_l {vs : List V} : ∀ o x, HO.lst vs ≠ .frz o x := fun _ _ z => nomatch z
theorem nf_p {vs : List V} : ∀ o x, HO.tup vs ≠ .frz o x := fun _ _ z => nomatch z
theorem nf_t {vs : List (List Key × V)} : ∀ o x, HO.dT vs ≠ .frz o x := fun _ _ z => nomatch z
theorem nf_k {vs : List (Key × V)} : ∀ o x, HO.dK vs ≠ .frz o x := fun _ _ z => nomatch z
theorem rd_lock (hd : F a = some (.dK ks)) {p : Addr} {u : HO} (h : Rd F p u) : Rd (upd F a (zO od ks)) p u := by
  by_cases e : p = a
  · subst e
    rcases h with h | ⟨o, h⟩
    · rw [hd] at h; cases h; exact .inr ⟨od, upd_same⟩
    · rw [hd] at h; cases h
  · rcases h with h | ⟨o, h⟩
    · exact .inl (by rw [upd_ne e]; exact h)
    · exact .inr ⟨o, by rw [upd_ne e]; exact h⟩
theorem at_lock (hd : F a = some (.dK ks)) {p : Addr} {u : HO} (n : u ≠ .dK ks) (h : F p = some u) : upd F a (zO od ks) p = some u := by
  rw [upd_ne (fun e => by rw [e, hd] at h; exact n (Option.some.inj h).symm)]; exact h
mutual
theorem Rep.lockT (hd : F a = some (.dK ks)) : ∀ {v : V} {d : D}, Rep K F v d → Rep K (upd F a (zO od ks)) v d
  | _, _, .non => .non
  | _, _, .bl b => .bl b
  | _, _, .int i => .int i
  | _, _, .str k => .str k
  | _, _, .ty n => .ty n
  | _, _, .adr a => .adr a
  | _, _, .lst s h => .lst (at_lock hd ne_l s) (h.lockT hd)
  | _, _, .ro s h => .ro (s.imp (rd_lock hd) id) (h.lockT hd)
  | _, _, .tup s h => .tup (at_lock hd ne_t s) (h.lockT hd)
  | _, _, .rot s hc hd' h => .rot (at_lock hd ne_f s) hc hd' (h.lockT hd)
  | _, _, .ktp s h => .ktp (s.imp (rd_lock hd) id) (h.lockT hd)
  | _, _, .obj s h => .obj (at_lock hd ne_i s) (h.lockT hd)
  | _, _, .dT s h => .dT (rd_lock hd s) (h.lockT hd)
  | _, _, .dK s h => .dK (rd_lock hd s) (h.lockT hd)
  | _, _, .exc0 => .exc0
  | _, _, .exc s h => .exc (at_lock hd ne_x s) (h.lockT hd)
  | _, _, .gho h => .gho (h.lockT hd)
  | _, _, .lkd s h => .lkd (at_lock hd ne_f s) (h.lockT hd)
theorem RepL.lockT (hd : F a = some (.dK ks)) : ∀ {vs : List V} {ds : List D}, RepL K F vs ds → RepL K (upd F a (zO od ks)) vs ds
  | _, _, .nil => .nil
  | _, _, .cons h t => .cons (h.lockT hd) (t.lockT hd)
theorem RepF.lockT (hd : F a = some (.dK ks)) : ∀ {vs : List (Str × V)} {ds : List (Str × D)}, RepF K F vs ds → RepF K (upd F a (zO od ks)) vs ds
  | _, _, .nil => .nil
  | _, _, .cons h t => .cons (h.lockT hd) (t.lockT hd)
theorem RepT.lockT (hd : F a = some (.dK ks)) : ∀ {vs : List (List Key × V)} {ds : List (List Key × D)}, RepT K F vs ds → RepT K (upd F a (zO od ks)) vs ds
  | _, _, .nil => .nil
  | _, _, .cons h t => .cons (h.lockT hd) (t.lockT hd)
theorem RepK.lockT (hd : F a = some (.dK ks)) : ∀ {vs : List (Key × V)} {ds : List (Key × D)}, RepK K F vs ds → RepK K (upd F a (zO od ks)) vs ds
  | _, _, .nil => .nil
  | _, _, .cons h t => .cons (h.lockT hd) (t.lockT hd)
end
/-! back -/
theorem rd_back (hd : F2 a = some (zO od ks)) {p : Addr} {u : HO} (n : ∀ o x, u ≠ .frz o x) (h : Rd F2 p u) : Rd (upd F2 a (.dK ks)) p u := by
  by_cases e : p = a
  · subst e
    rcases h with h | ⟨o, h⟩
    · rw [hd] at h; exact absurd (Option.some.inj h).symm (n _ _)
    · rw [hd] at h; cases h; exact .inl upd_same
  · rcases h with h | ⟨o, h⟩
    · exact .inl (by rw [upd_ne e]; exact h)
    · exact .inr ⟨o, by rw [upd_ne e]; exact h⟩
theorem at_back (hd : F2 a = some (zO od ks)) {p : Addr} {u : HO} {y : HO} (n : u ≠ zO od ks) (h : F2 p = some u) : upd F2 a y p = some u := by
  rw [upd_ne (fun e => by rw [e, hd] at h; exact n (Option.some.inj h).symm)]; exact h
theorem ne_l2 {vs : List V} : HO.lst vs ≠ zO od ks := fun z => nomatch z
theorem ne_t2 {vs : List V} : HO.tup vs ≠ zO od ks := fun z => nomatch z
theorem ne_i2 {C d : Addr} {vs : List (Str × V)} : HO.ins C d vs ≠ zO od ks := fun z => nomatch z
theorem ne_x2 {vs : List (Str × V)} : HO.xd vs ≠ zO od ks := fun z => nomatch z
theorem ne_r2 {ob : Obj} {vs : List V} : HO.frz ob (.tup vs) ≠ zO od ks := fun z => nomatch z
theorem lkd_ne (hd : F a = some (.dK ks)) {p : Addr} {o : Obj} {x : HO} (h : F p = some (.frz o x)) : p ≠ a := fun z => by rw [z, hd] at h; cases h
theorem at_back2 {p : Addr} {y : HO} (n : p ≠ a) {u : HO} (h : F2 p = some u) : upd F2 a y p = some u := by rw [upd_ne n]; exact h
mutual
/-- what stood ahead of the lock stands behind it -/
theorem Rep.back (h0 : F a = some (.dK ks)) (hd : F2 a = some (zO od ks)) : ∀ {v v' : V} {d : D}, Rep K F2 v d → Rep K F v' d → Rep K (upd F2 a (.dK ks)) v d
  | _, _, _, .non, _ => .non
  | _, _, _, .bl b, _ => .bl b
  | _, _, _, .int i, _ => .int i
  | _, _, _, .str k, _ => .str k
  | _, _, _, .ty n, _ => .ty n
  | _, _, _, .adr a, _ => .adr a
  | _, _, _, .lst s h, .lst _ g => .lst (at_back hd ne_l2 s) (h.back h0 hd g)
  | _, _, _, .ro s h, .ro _ g => .ro (s.imp (rd_back hd nf_l) id) (h.back h0 hd g)
  | _, _, _, .tup s h, .tup _ g => .tup (at_back hd ne_t2 s) (h.back h0 hd g)
  | _, _, _, .rot s hc hd' h, .rot _ _ _ g => .rot (at_back hd ne_r2 s) hc hd' (h.back h0 hd g)
  | _, _, _, .obj s h, .obj _ g => .obj (at_back hd ne_i2 s) (h.back h0 hd g)
  | _, _, _, .dT s h, .dT _ g => .dT (rd_back hd nf_t s) (h.back h0 hd g)
  | _, _, _, .dK s h, .dK _ g => .dK (rd_back hd nf_k s) (h.back h0 hd g)
  | _, _, _, .exc0, _ => .exc0
  | _, _, _, .exc s h, .exc _ g => .exc (at_back hd ne_x2 s) (h.back h0 hd g)
  | _, _, _, .gho h, .gho g => .gho (h.back h0 hd g)
  | _, _, _, .ktp s h, .ktp _ g => .ktp (s.imp (rd_back hd nf_p) id) (h.back h0 hd g)
  | _, _, _, .lkd s h, .lkd t g => .lkd (at_back2 (lkd_ne h0 t) s) (h.back h0 hd g)
theorem RepL.back (h0 : F a = some (.dK ks)) (hd : F2 a = some (zO od ks)) : ∀ {vs vs' : List V} {ds : List D}, RepL K F2 vs ds → RepL K F vs' ds → RepL K (upd F2 a (.dK ks)) vs ds
  | _, _, _, .nil, _ => .nil
  | _, _, _, .cons h t, .cons g u => .cons (h.back h0 hd g) (t.back h0 hd u)
theorem RepF.back (h0 : F a = some (.dK ks)) (hd : F2 a = some (zO od ks)) : ∀ {vs vs' : List (Str × V)} {ds : List (Str × D)}, RepF K F2 vs ds → RepF K F vs' ds → RepF K (upd F2 a (.dK ks)) vs ds
  | _, _, _, .nil, _ => .nil
  | _, _, _, .cons h t, .cons g u => .cons (h.back h0 hd g) (t.back h0 hd u)
theorem RepT.back (h0 : F a = some (.dK ks)) (hd : F2 a = some (zO od ks)) : ∀ {vs vs' : List (List Key × V)} {ds : List (List Key × D)}, RepT K F2 vs ds → RepT K F vs' ds → RepT K (upd F2 a (.dK ks)) vs ds
  | _, _, _, .nil, _ => .nil
  | _, _, _, .cons h t, .cons g u => .cons (h.back h0 hd g) (t.back h0 hd u)
theorem RepK.back (h0 : F a = some (.dK ks)) (hd : F2 a = some (zO od ks)) : ∀ {vs vs' : List (Key × V)} {ds : List (Key × D)}, RepK K F2 vs ds → RepK K F vs' ds → RepK K (upd F2 a (.dK ks)) vs ds
  | _, _, _, .nil, _ => .nil
  | _, _, _, .cons h t, .cons g u => .cons (h.back h0 hd g) (t.back h0 hd u)
end
theorem at_drop {F3 : Hp} (hd : F2 a = some (zO od ks)) (hF : ∀ b, b ≠ a → F3 b = F2 b) {p : Addr} {u : HO} (n : u ≠ zO od ks) (h : F2 p = some u) : F3 p = some u := by
  rw [hF p (fun e => by rw [e, hd] at h; exact n (Option.some.inj h).symm)]; exact h
theorem rd_drop {F3 : Hp} (hd : F2 a = some (zO od ks)) (hF : ∀ b, b ≠ a → F3 b = F2 b) {p : Addr} {vs : List V} (s : Rd F2 p (.lst vs)) : Rd F3 p (.lst vs) := by
  rcases s with s | ⟨o, s⟩
  · exact .inl (at_drop hd hF ne_l2 s)
  · exact .inr ⟨o, at_drop hd hF (fun z => nomatch z) s⟩
theorem rd_dropT {F3 : Hp} (hd : F2 a = some (zO od ks)) (hF : ∀ b, b ≠ a → F3 b = F2 b) {p : Addr} {vs : List V} (s : Rd F2 p (.tup vs)) : Rd F3 p (.tup vs) := by
  rcases s with s | ⟨o, s⟩
  · exact .inl (at_drop hd hF ne_t2 s)
  · exact .inr ⟨o, at_drop hd hF (fun z => nomatch z) s⟩
mutual
/-- what has no dict within stands behind the lock -/
theorem Rep.dropK {F3 : Hp} (hd : F2 a = some (zO od ks)) (hF : ∀ b, b ≠ a → F3 b = F2 b) : ∀ {v : V} {d : D}, Rep K F2 v d → d.noK = true → Rep K F3 v d
  | _, _, .non, _ => .non
  | _, _, .bl b, _ => .bl b
  | _, _, .int i, _ => .int i
  | _, _, .str k, _ => .str k
  | _, _, .ty n, _ => .ty n
  | _, _, .adr a, _ => .adr a
  | _, _, .lst s h, n => .lst (at_drop hd hF ne_l2 s) (h.dropK hd hF n)
  | _, _, .ro s h, n => .ro (s.imp (rd_drop hd hF) id) (h.dropK hd hF n)
  | _, _, .ktp s h, n => .ktp (s.imp (rd_dropT hd hF) id) (h.dropK hd hF n)
  | _, _, .tup s h, n => .tup (at_drop hd hF ne_t2 s) (h.dropK hd hF n)
  | _, _, .rot s hc hd' h, n => .rot (at_drop hd hF ne_r2 s) hc hd' (h.dropK hd hF n)
  | _, _, .obj s h, n => .obj (at_drop hd hF ne_i2 s) (h.dropK hd hF n)
  | _, _, .dT _ _, h => nomatch h
  | _, _, .dK _ _, h => nomatch h
  | _, _, .exc0, h => nomatch h
  | _, _, .exc _ _, h => nomatch h
  | _, _, .gho _, h => nomatch h
  | _, _, .lkd _ _, h => nomatch h
theorem RepL.dropK {F3 : Hp} (hd : F2 a = some (zO od ks)) (hF : ∀ b, b ≠ a → F3 b = F2 b) : ∀ {vs : List V} {ds : List D}, RepL K F2 vs ds → noKL ds = true → RepL K F3 vs ds
  | _, _, .nil, _ => .nil
  | _, _, .cons h t, n => .cons (h.dropK hd hF (Bool.and_eq_true _ _ ▸ n).1) (t.dropK hd hF (Bool.and_eq_true _ _ ▸ n).2)
theorem RepF.dropK {F3 : Hp} (hd : F2 a = some (zO od ks)) (hF : ∀ b, b ≠ a → F3 b = F2 b) : ∀ {vs : List (Str × V)} {ds : List (Str × D)}, RepF K F2 vs ds → noKF ds = true → RepF K F3 vs ds
  | _, _, .nil, _ => .nil
  | _, _, .cons h t, n => .cons (h.dropK hd hF (Bool.and_eq_true _ _ ▸ n).1) (t.dropK hd hF (Bool.and_eq_true _ _ ▸ n).2)
end
def noKK : List (Key × D) → Bool
  | [] => true
  | (_, d) :: r => d.noK && noKK r
theorem RepK.dropK {F3 : Hp} (hd : F2 a = some (zO od ks)) (hF : ∀ b, b ≠ a → F3 b = F2 b) : ∀ {vs : List (Key × V)} {ds : List (Key × D)}, RepK K F2 vs ds → noKK ds = true → RepK K F3 vs ds
  | _, _, .nil, _ => .nil
  | _, _, .cons h t, n => .cons (h.dropK hd hF (Bool.and_eq_true _ _ ▸ n).1) (t.dropK hd hF (Bool.and_eq_true _ _ ▸ n).2)
def OC.noK : OC → Bool
  | .lst ds => noKL ds
  | .ins _ fs => noKF fs
  | .dK kvs => noKK kvs
  | _ => false
def DV.noK : DV → Bool
  | .d x => x.noK
  | .own o => o.noK
theorem OwnRep.dropK {F3 H H3 : Hp} {p : Addr} {o : OC} (hd : F2 a = some (zO od ks)) (hF : ∀ b, b ≠ a → F3 b = F2 b) (e : H3 p = H p) (q : OwnRep K F2 H p o) (n : o.noK = true) : OwnRep K F3 H3 p o := by
  cases o with
  | lst ds => obtain ⟨vs, z, r⟩ := q; exact ⟨vs, e.trans z, r.dropK hd hF n⟩
  | ins C fs => obtain ⟨dx, vs, z, r⟩ := q; exact ⟨dx, vs, e.trans z, r.dropK hd hF n⟩
  | dT kvs => cases n
  | dK kvs => obtain ⟨vs, z, r⟩ := q; exact ⟨vs, e.trans z, r.dropK hd hF n⟩
  | tab P r => cases n
end
/-! ### the state -/
section
variable {K : PySem.W.Frag} {c : Fc} {F F2 H H2 : Hp} {ow ow2 : Addr → Option Hold} {δ δ2 : DSt} {tmp tmp2 : List (V × DV)} {σ σ2 : L2.St} {a : Addr} {od : Obj} {ks : List (Key × V)}
end
/-! ### a statement while a dict is locked -/
section
variable {X : Cx} {c : Fc} {W : WX}
/-! ### walked -/
def okK : Key → Prop
  | .inl _ => True
  | .inr x => PyData.strOk x = true
def keysD (kvs : List (Key × D)) : List D := kvs.map fun kv => keyOne kv.1
theorem rep_key {K : PySem.W.Frag} {F : Hp} : ∀ {k : Key}, okK k → Rep K F (kV k) (keyOne k)
  | .inl i, _ => .int i
  | .inr x, h => .str h
theorem repK_at {K : PySem.W.Frag} {F : Hp} : ∀ {vs : List (Key × V)} {ds : List (Key × D)}, RepK K F vs ds → vs.map (·.1) = ds.map (·.1)
  | _, _, .nil => rfl
  | _, _, .cons h t => by rw [List.map_cons, List.map_cons, repK_at t]
theorem keys_at {vs : List (Key × V)} {ds : List (Key × D)} (e : vs.map (·.1) = ds.map (·.1)) {i : Nat} {d : D} (h : (keysD ds)[i]? = some d) : ∃ k v, vs[i]? = some (k, v) ∧ d = keyOne k ∧ ∃ x, (k, x) ∈ ds := by
  unfold keysD at h
  rw [List.getElem?_map] at h
  cases q : ds[i]? with
  | none => rw [q] at h; cases h
  | some kd =>
    rw [q] at h
    cases h
    have e1 : (vs.map (·.1))[i]? = (ds.map (·.1))[i]? := by rw [e]
    rw [List.getElem?_map, List.getElem?_map, q] at e1
    cases z : vs[i]? with
    | none => rw [z] at e1; cases e1
    | some kv =>
      rw [z] at e1
      have e2 : kv.1 = kd.1 := Option.some.inj e1
      exact ⟨kv.1, kv.2, rfl, by rw [e2], kd.2, by rw [e2]; exact List.mem_of_getElem? q⟩
theorem serve_lkd {K : PySem.W.Frag} {p : Addr} {od : Obj} {vs : List (Key × V)} {ds : List (Key × D)} (el : vs.map (·.1) = ds.map (·.1)) (hk : ∀ kv ∈ ds, okK kv.1) : Serve K (Itk p od vs) (.ref p) (.lkd p od vs ds) (keysD ds) := by
  have ll : vs.length = (keysD ds).length := by
    have := congrArg List.length el
    rw [List.length_map, List.length_map] at this
    unfold keysD
    rw [List.length_map]
    exact this
  refine ⟨fun i F H s r hi => ?_, fun i F H s r hi => ?_, fun i F H x H' s r y d hd => ?_⟩
  · cases r with | lkd q _ => exact ⟨s _ _ q, by rw [ll]; exact hi⟩
  · cases r with | lkd q _ => exact ⟨s _ _ q, by rw [ll]; exact hi⟩
  · obtain ⟨rfl, k, v, e1, rfl⟩ := y
    obtain ⟨k', v', e2, rfl, z, hm⟩ := keys_at el hd
    rw [e1] at e2
    cases e2
    exact ⟨F, Ext.refl s, rep_key (hk _ hm)⟩
def lkI (t : TD) : TDI := fun δ Q E => t δ (fun x δ1 => ∃ p od vs kvs, x.toD = .lkd p od vs kvs ∧ (∀ kv ∈ kvs, okK kv.1) ∧ Q (keysD kvs) δ1) E
theorem pid_lk {tg e : Expr} {t : TD} (he : PE X e (LE X.K c W t)) : PI X tg e (LI X.K c W (lkI t)) :=
  PI_imp (pi_keys he) fun σ H R ⟨δ, tmp, Qd, Ed, S, q, k, w⟩ => ⟨δ, tmp, _, _, S, q, fun v x δ' H' ⟨p, od, vs, kvs, e, hk, q'⟩ ⟨F, ow, S'⟩ => by
    obtain ⟨F2, S2, _⟩ := S'.top_frz
    rw [e] at S2
    have r0 := S2.top
    cases r0 with
    | lkd s r => exact ⟨p, od, rfl, .inl ⟨vs, S2.fh _ _ s, k _ _ _ _ _ _ q' (serve_lkd (repK_at r) hk) ⟨F2, ow, S2⟩⟩⟩, w⟩
/-! ### an expression while an own dict is locked -/
def hidO (x : Option DV) : Option DV := match x with | some (.own _) => none | y => y
def hid (δ : DSt) : DSt := δ.map hidO
theorem hid_at {δ : DSt} {i : Nat} {x : DV} (h : (hid δ)[i]? = some (some x)) : ∃ d, x = .d d ∧ δ[i]? = some (some (.d d)) := by
  unfold hid at h
  rw [List.getElem?_map] at h
  cases q : δ[i]? with
  | none => rw [q] at h; cases h
  | some y =>
    rw [q] at h
    have h : hidO y = some x := Option.some.inj h
    cases y with
    | none => cases h
    | some y =>
      cases y with
      | d z => cases h; exact ⟨z, rfl, rfl⟩
      | own o => cases h
/-- while it runs, the own dict at slot j is walked; nothing else of one's own is touched -/
def lockO (j : Nat) (t : TD) : TD := fun δ Q _ => ∃ kvs, δ[j]? = some (some (.own (.dK kvs))) ∧ ∀ p od vs, t (hid (δ.set j (some (.d (.lkd p od vs kvs))))) (fun x _ => x.noK = true ∧ Q x δ) fun _ _ => False
theorem pd_lockO {j : Nat} {e : Expr} {t : TD} (h : ∀ F0 H0, PE X e (LE X.K ⟨[], [], F0, H0⟩ W t)) : PE X e (LE X.K c W (lockO j t)) := by
  have hu : PE X e fun σ H Q => ∃ F0 H0, LE X.K ⟨[], [], F0, H0⟩ W t σ H Q := ⟨fun pins s σ H Q I ⟨F0, H0, q⟩ => (h F0 H0).run pins s σ H Q I q⟩
  refine PE_imp (pe_lock hu) fun σ H Q ⟨δ, tmp, Qd, Ed, ⟨F, ow, S⟩, ⟨kvs, ej, q⟩, k, w⟩ => ?_
  have hj : j < δ.length := (List.getElem?_eq_some_iff.mp ej).1
  obtain ⟨v, e1, p, rfl, eo, en, ew, vs, ep, r⟩ := S.sl _ _ ej
  refine ⟨p, .dK vs, ep, trivial, fun od => ?_⟩
  have s1 : Same F (upd F p (zO od vs)) := same_upd (Same.refl F) en
  refine ⟨upd F p (zO od vs), upd H p (zO od vs), hid (δ.set j (some (.d (.lkd p od vs kvs)))), [], _, _, ⟨upd F p (zO od vs), fun _ => none, ?_⟩, q p od vs, ?_, fun x δ' σ' H' F' ow' cls d z => z.elim⟩
  · refine ⟨same_upd2 S.fh, Same.refl _, fun a h => .inl h, fun a o h _ => h, fun a h => h, by unfold hid; rw [List.length_map, List.length_set]; exact S.len, fun i x hx => ?_, True.intro, fun k i p z => by cases z⟩
    obtain ⟨d, rfl, hy⟩ := hid_at hx
    by_cases z : j = i
    · subst z
      rw [List.getElem?_set_self hj] at hy
      cases hy
      exact ⟨_, e1, .lkd upd_same (r.mono s1)⟩
    · rw [List.getElem?_set_ne z] at hy
      obtain ⟨u, e2, ru⟩ := S.sl i _ hy
      exact ⟨u, e2, Rep.mono s1 ru⟩
  · intro v x δ' H' ⟨nk, q'⟩ ⟨F2, ow2, S2⟩
    have hd : F2 p = some (zO od vs) := S2.f0 p _ upd_same
    have hh : H' p = some (zO od vs) := S2.fh _ _ hd
    have ext : Ext F H (fun b => if b = p then none else F2 b) (upd H' p (.dK vs)) := by
      refine ⟨fun b u e => ?_, fun b u e => ?_, fun b u e => ?_, fun b e => ?_⟩
      · have n : b ≠ p := ne_of_none e en
        show (if b = p then none else F2 b) = some u
        rw [if_neg n]
        exact S2.f0 b u (show upd F p (zO od vs) b = some u by rw [upd_ne n]; exact e)
      · by_cases n : b = p
        · subst n; rw [ep] at e; rw [upd_same]; exact e
        · rw [upd_ne n]
          exact S2.fr b u (show upd H p (zO od vs) b = some u by rw [upd_ne n]; exact e) (fun z => nomatch z)
      · have e : (if b = p then none else F2 b) = some u := e
        by_cases n : b = p
        · rw [if_pos n] at e; cases e
        · rw [if_neg n] at e
          rw [upd_ne n]
          exact S2.fh _ _ e
      · have e : (if b = p then none else F2 b) ≠ none := e
        by_cases n : b = p
        · rw [if_pos n] at e; exact absurd rfl e
        · rw [if_neg n] at e
          rcases S2.fn b e with y | y
          · exact .inl fun z => y (show upd F p (zO od vs) b = none by rw [upd_ne n]; exact z)
          · exact .inr ((upd_ne n).symm.trans y)
    have hF : ∀ b, b ≠ p → (fun b => if b = p then none else F2 b : Hp) b = F2 b := fun b n => if_neg n
    refine ⟨hh, k _ _ _ _ q' ?_⟩
    cases x with
    | d d => exact ⟨_, ow, (S.ext ext).push (Rep.dropK hd hF S2.tm.1 nk)⟩
    | own o =>
      obtain ⟨a, rfl, ea, na, wa, ra⟩ := S2.tm.1
      have wa : upd H p (zO od vs) a = none := wa.elim id fun z => nomatch z.1
      have ne : a ≠ p := fun z => by rw [z, upd_same] at wa; cases wa
      have wa : H a = none := (upd_ne ne).symm.trans wa
      have S' := (S.reown (ow' := owSet ow a (.t tmp.length)) (fun k b _ z => owSet_ne fun e => z (by rw [e]; exact wa)) (fun k b _ _ z => owSet_ne fun e => z (by rw [e]; exact wa))).ext ext
      exact ⟨_, _, { S' with tm := ⟨⟨a, rfl, owSet_at, (if_neg ne).trans na, .inl (S.up _ wa), ra.dropK hd hF (upd_ne ne) nk⟩, S'.tm⟩ }⟩
end
/-! ### list(d) -/
theorem call_list_keys {X : Cx} (hc : X.calm = true) : CallR X (.type "list") (fun xs H Q => ∃ d kvs, xs = [V.ref d] ∧ Rd H d (.dK kvs) ∧ ∀ p, H p = none → Q (.ref p) (upd H p (.lst (keysV kvs)))) := by
  intro pins s σ H xs us Q I rr ⟨d, kvs, ex, rd, fin⟩
  subst ex
  obtain ⟨u, rfl, ru⟩ := rr.one
  obtain rfl : u = Value.ref d := ru
  have ok : ObjOk X.prog X.w H s.heap d (.dK kvs) := rd.ok I.hok
  obtain ⟨zz, lo, ws, pw, hof⟩ := ok
  obtain ⟨ep, dat⟩ := hof.dictAt
  have ln : kvs.length = ws.length := Paired.length pw
  refine PySem.W.kdl_call (PySem.W.kdl_dict (ep := ep) (kvs := ws) (knd := mixKind X.prog X.w) lo) (I.ok.hd hc) dat (by omega) fun h2 tk acc n keep e ha => ?_
  have la : (keysV kvs).length = acc.toList.length := by rw [List.length_map, ln, ← ha.1]; exact Array.length_toList.symm
  have val : Vals (keysV kvs) acc.toList := vals_of_at la fun j x w h1 h2 => by
    obtain ⟨k, y, hky, hi⟩ := ha.2 j w (by rw [← Array.getElem?_toList]; exact h2)
    have e1 : (kvs.map (·.1))[j]? = some k := by rw [KV.keys pw, List.getElem?_map, hky]; rfl
    unfold keysV at h1
    rw [List.getElem?_map] at h1 e1
    cases q : kvs[j]? with
    | none => rw [q] at h1; cases h1
    | some kv =>
      rw [q] at h1 e1
      cases h1
      show RelV (kV kv.1) w
      rw [show kv.1 = k from Option.some.inj e1]
      exact keyIs_rel hi
  have sz : (keysV kvs).length ≤ sizeLine := by rw [List.length_map]; exact zz
  exact ⟨.ref s.heap.objs.size, _, I.laid (t' := tk) (o := .lst (keysV kvs)) keep (Nat.le_refl _) ⟨sz, acc.toList, n, val, by rw [Array.toArray_toList]; exact e⟩, rfl, fin _ (I.hok.fresh (Nat.le_refl _))⟩
abbrev listKN : RDN := fun ds Q => ∃ kvs, ds = [.dK kvs] ∧ (∀ kv ∈ kvs, okK kv.1) ∧ Q (.own (.lst (keysD kvs)))
theorem repK_keysD {K : PySem.W.Frag} {F : Hp} : ∀ {vs : List (Key × V)} {ds : List (Key × D)}, RepK K F vs ds → (∀ kv ∈ ds, okK kv.1) → RepL K F (keysV vs) (keysD ds)
  | _, _, .nil, _ => .nil
  | _, _, .cons h t, hk => .cons (rep_key (hk _ List.mem_cons_self)) (repK_keysD t fun kv q => hk kv (List.mem_cons_of_mem _ q))
theorem cn_listK {K : PySem.W.Frag} : CallN K (fun xs H Q => ∃ d kvs, xs = [V.ref d] ∧ Rd H d (.dK kvs) ∧ ∀ p, H p = none → Q (.ref p) (upd H p (.lst (keysV kvs)))) listKN := fun xs ds F H Q Qd s r ⟨kvs, e1, hk, q⟩ k => by
  subst e1
  cases r with
  | cons r t =>
    cases t
    cases r with
    | dK s1 r1 => exact ⟨_, _, rfl, rd_mono s s1, fun p n => k _ _ _ _ q (made_list n s (repK_keysD r1 hk))⟩
end DL
namespace DR
open PySem PySem.Spec PyProof.Rows L2 DL
variable {δ : DSt} {Q : DK} {E : XD}
theorem lockO {j : Nat} {t : TD} {kvs : List (Key × DL.D)} (e : δ[j]? = some (some (.own (.dK kvs)))) (h : ∀ p od vs, t (hid (δ.set j (some (.d (.lkd p od vs kvs))))) (fun x _ => x.noK = true ∧ Q x δ) fun _ _ => False) : DL.lockO j t δ Q E := ⟨kvs, e, h⟩
theorem lkI {t : TD} {Q : List DL.D → DSt → Prop} (h : t δ (fun x δ1 => ∃ p od vs kvs, x.toD = .lkd p od vs kvs ∧ (∀ kv ∈ kvs, okK kv.1) ∧ Q (keysD kvs) δ1) E) : DL.lkI t δ Q E := h
end DR

set_option Elab.async false
set_option linter.all false
set_option maxRecDepth 100000
/-! DL79: a loop's target that unpacks tuples or lists -/
namespace DL
open PySem PySem.Spec PyProof.Rows L2
def orG (g h : TDG) : TDG := fun x δ Q => g x δ Q ∨ h x δ Q
theorem PG.or {X : Cx} {c : Fc} {vs : List Nat} {tg : Expr} {g h : TDG} (h1 : PG X tg (LG X.K c vs g)) (h2 : PG X tg (LG X.K c vs h)) : PG X tg (LG X.K c vs (orG g h)) :=
  ⟨fun pins s σ H v u Q I r ⟨δ, tmp, x, Qd, S, q, k⟩ => q.elim (fun q => h1.run pins s σ H v u Q I r ⟨δ, tmp, x, Qd, S, q, k⟩) fun q => h2.run pins s σ H v u Q I r ⟨δ, tmp, x, Qd, S, q, k⟩⟩
end DL
namespace DR
open PySem PySem.Spec PyProof.Rows L2 DL
end DR

set_option Elab.async false
set_option linter.all false
set_option maxRecDepth 100000
/-! DL80: readings of DL77 -/
namespace DR
open PySem PySem.Spec PyProof.Rows L2 DL
section
variable {δ : DSt} {cs : Cells} {Q : DV → DSt → Cells → Prop} {E : XD} {D : EndsC}
theorem fldC {C : Addr} {i : Nat} {f : Str} {t : TD} (h : t δ (fun y δ1 => ∃ fs o, y = .own o ∧ δ1[i]? = some (some (.own (.ins C fs))) ∧ fs.length < 1000 ∧ ∀ a, a ∉ cs.map (·.1) → D.nx (δ1.set i (some (.own (.ins C (putD f (.adr a) fs))))) ((a, o) :: cs)) D.ex) : DL.fldC C i f t D δ cs := h
theorem lendK {sd : SpD} {t u : TD} (h : t δ (fun x δ1 => u δ1 (fun y δ2 => ∃ a kvs, x.toD = .adr a ∧ (a, .dK kvs) ∈ cs ∧ sd [.d (.dK kvs), .d y.toD] (fun r os => os = [] ∧ ∃ z, r = .d z ∧ z.noK = true ∧ Q (.d z) δ2 cs) (fun _ _ => False)) E) E) : DL.lendK sd t u δ cs Q E := h
theorem putC {te : TDc} {to ti : TD} (h : te δ cs (fun v δ1 cs1 => to δ1 (fun x δ2 => ti δ2 (fun k δ3 => ∃ n a kvs ks, x.toD = .adr a ∧ cs1[n]? = some (a, .dK kvs) ∧ k.toD = keyOne ks ∧ kvs.length < sizeLine ∧ D.nx δ3 (cs1.set n (a, .dK (putKD kvs ks v.toD)))) D.ex) D.ex) D.ex) : DL.putC te to ti D δ cs := h
theorem exitI {K : PySem.W.Frag} {i : Nat} {t : TDSc} {D : EndsD} {δ : DSt} (h : t { nx := fun δ' cs => ∃ C fs gs, δ'[i]? = some (some (.own (.ins C fs))) ∧ FillF K cs fs gs ∧ D.nx (δ'.set i (some (.own (.ins C gs)))), rt := fun _ _ _ => False, ex := D.ex } δ []) : DL.exitI K i t D δ := h
end
end DR

set_option Elab.async false
set_option linter.all false
set_option maxRecDepth 100000
/-! DL81: tuples of the module (a default, a constant) -/
namespace DL
open PySem PySem.Spec PyProof.Rows L2
section
variable {X : Cx} {c : Fc} {W : WX}
theorem serve_enumKT {K : PySem.W.Frag} {p : Addr} {items : List D} : Serve K (IteT K p) (.ref p) (.ktp items) (enumL items) := by
  have sq : ∀ {F H : Hp}, Same F H → Rep K F (.ref p) (.ktp items) → ∃ vs, SqT K H p vs ∧ RepL K F vs items := fun {F H} s r => by
    cases r with | ktp s1 r1 => exact ⟨_, sqt_mono s s1, r1⟩
  have hl : (enumL items).length = items.length := by simp [enumL]
  refine ⟨fun i F H s r hi => ?_, fun i F H s r hi => ?_, fun i F H x H' s r y d hd => ?_⟩
  · obtain ⟨vs, h, rl⟩ := sq s r
    rw [hl] at hi
    obtain ⟨v, e, _⟩ := rl.get (List.getElem?_eq_getElem hi)
    exact ⟨vs, v, h, e⟩
  · obtain ⟨vs, h, rl⟩ := sq s r
    exact ⟨vs, h, by rw [rl.len, ← hl]; exact hi⟩
  · obtain ⟨vs, h, rl⟩ := sq s r
    obtain ⟨T, z, rfl, nT, rfl, y⟩ := y
    have hi : i < items.length := by rw [← hl]; exact set_lt hd
    obtain ⟨v, e, rv⟩ := rl.get (List.getElem?_eq_getElem hi)
    rw [y vs h] at e
    cases e
    have : d = .tup [.int (i : Nat), items[i]] := by
      unfold enumL at hd
      rw [List.getElem?_map, List.getElem?_zipIdx, List.getElem?_eq_getElem hi] at hd
      simpa using hd.symm
    subst this
    exact ⟨_, Ext.new s nT, .tup upd_same (.cons (.int _) (.cons (rv.mono (same_upd (Same.refl F) (s.free nT))) .nil))⟩
def enumKI (ta : TDA) : TDI := fun δ Q E => ta δ (fun as δ1 => ∃ xs, as = [.d (.ktp xs)] ∧ Q (enumL xs) δ1) E
theorem pid_enumK {e : Expr} {ta : TDA} {p pos tpos : Pos} {elts : List Expr} {kk : Nat} (hg : Gl X "enumerate") (hm : X.mg "enumerate" = none) (ha : PA X [e] (LA X.K c W ta)) (hs : starEach [e] X.env = [(false, eval e X.env)] := by rfl) : PI X (.Tuple elts kk tpos) (.Call (.Name "enumerate" p) [e] [] pos) (LI X.K c W (enumKI ta)) :=
  PI_imp (pi_enumT hg hm ha hs) fun σ H R ⟨δ, tmp, Qd, Ed, S, q, k, w⟩ => ⟨δ, tmp, _, _, S, q, fun vs as δ' F ow H' ⟨xs, e, q'⟩ S' ra => by
    subst e
    cases ra with
    | d h t =>
      cases t
      have h0 := h
      cases h with | ktp s1 r1 => exact ⟨_, _, rfl, sqt_mono S'.fh s1, k _ _ _ _ _ _ q' serve_enumKT ⟨F, ow, S'.push h0⟩⟩, w⟩
end
end DL
namespace DR
open PySem PySem.Spec PyProof.Rows L2 DL
variable {δ : DSt} {Q : List DL.D → DSt → Prop} {E : XD}
end DR

set_option Elab.async false
set_option linter.all false
set_option maxRecDepth 100000
/-! DL82: o.m(.., k = v) -/
namespace DL
open PySem PySem.Spec PyProof.Rows L2
section
variable {X : Cx} {k n : Nat} {f C : Addr} {fd : FuncData} {ps ks : List Str} {sp : Sp} {E : L2.St → XK} {m : Str} {pos apos : Pos} {e o : Expr} {es : List Expr} {kws : List Keyword} {t tk : TA} {to : TE} {gU : List Value → List Value → List Value} {gV : List V → List V → List V}
end
section
variable {X : Cx} {c : Fc} {W : WX} {k n : Nat} {f C : Addr} {fd : FuncData} {ps ks : List Str} {sd : SpD} {m : Str} {pos apos : Pos} {e o : Expr} {es : List Expr} {kws : List Keyword} {to : TD} {ta tk : TDA} {gU : List Value → List Value → List Value}
end
end DL
namespace DR
open PySem PySem.Spec PyProof.Rows L2 DL
end DR

set_option Elab.async false
set_option linter.all false
set_option maxRecDepth 100000
set_option maxHeartbeats 4000000
/-! DL83: lists within lists that change: cells made by an expression, looked at while an expression runs, written through an alias -/
namespace DL
open PySem PySem.Spec PyProof.Rows L2
mutual
/-- no list within -/
def D.noL : D → Bool
  | .lst _ => false
  | .ro _ => false
  | .tup xs => noLL xs
  | .rot xs => noLL xs
  | .ktp xs => noLL xs
  | .obj _ fs => noLF fs
  | .dT _ => false
  | .dK kvs => noLK kvs
  | .exc _ _ _ _ _ => false
  | .gho _ _ => false
  | .lkd _ _ _ _ => false
  | _ => true
def noLL : List D → Bool
  | [] => true
  | d :: ds => d.noL && noLL ds
def noLF : List (Str × D) → Bool
  | [] => true
  | (_, d) :: ds => d.noL && noLF ds
def noLK : List (Key × D) → Bool
  | [] => true
  | (_, d) :: ds => d.noL && noLK ds
end
section
variable {K : PySem.W.Frag} {F F' : Hp} {L : List Addr}
/-- all at L are lists, F' has the rest -/
structure DropL (F F' : Hp) (L : List Addr) : Prop where
  ls : ∀ a ∈ L, ∃ vs, F a = some (.lst vs)
  at_ : ∀ b, b ∉ L → F' b = F b
theorem DropL.keep (q : DropL F F' L) {p : Addr} {u : HO} (n : ∀ vs, u ≠ .lst vs) (h : F p = some u) : F' p = some u := by
  rw [q.at_ p fun z => by obtain ⟨vs, e⟩ := q.ls p z; rw [h] at e; exact n vs (Option.some.inj e)]
  exact h
theorem DropL.rd (q : DropL F F' L) {p : Addr} {u : HO} (n : ∀ vs, u ≠ .lst vs) (h : Rd F p u) : Rd F' p u := by
  rcases h with h | ⟨o, h⟩
  · exact .inl (q.keep n h)
  · exact .inr ⟨o, q.keep (fun vs z => nomatch z) h⟩
theorem nl_t {vs : List V} : ∀ us, HO.tup vs ≠ .lst us := fun _ z => nomatch z
theorem nl_f {o : Obj} {u : HO} : ∀ us, HO.frz o u ≠ .lst us := fun _ z => nomatch z
theorem nl_i {C d : Addr} {vs : List (Str × V)} : ∀ us, HO.ins C d vs ≠ .lst us := fun _ z => nomatch z
theorem nl_k {vs : List (Key × V)} : ∀ us, HO.dK vs ≠ .lst us := fun _ z => nomatch z
mutual
theorem Rep.dropL (q : DropL F F' L) : ∀ {v : V} {d : D}, Rep K F v d → d.noL = true → Rep K F' v d
  | _, _, .non, _ => .non
  | _, _, .bl b, _ => .bl b
  | _, _, .int i, _ => .int i
  | _, _, .str k, _ => .str k
  | _, _, .ty n, _ => .ty n
  | _, _, .adr a, _ => .adr a
  | _, _, .lst _ _, n => nomatch n
  | _, _, .ro _ _, n => nomatch n
  | _, _, .tup s h, n => .tup (q.keep nl_t s) (h.dropL q n)
  | _, _, .rot s hc hd' h, n => .rot (q.keep nl_f s) hc hd' (h.dropL q n)
  | _, _, .ktp s h, n => .ktp (s.imp (q.rd nl_t) id) (h.dropL q n)
  | _, _, .obj s h, n => .obj (q.keep nl_i s) (h.dropL q n)
  | _, _, .dT _ _, h => nomatch h
  | _, _, .dK s h, n => .dK (q.rd nl_k s) (h.dropL q n)
  | _, _, .exc0, h => nomatch h
  | _, _, .exc _ _, h => nomatch h
  | _, _, .gho _, h => nomatch h
  | _, _, .lkd _ _, h => nomatch h
theorem RepL.dropL (q : DropL F F' L) : ∀ {vs : List V} {ds : List D}, RepL K F vs ds → noLL ds = true → RepL K F' vs ds
  | _, _, .nil, _ => .nil
  | _, _, .cons h t, n => .cons (h.dropL q (Bool.and_eq_true _ _ ▸ n).1) (t.dropL q (Bool.and_eq_true _ _ ▸ n).2)
theorem RepF.dropL (q : DropL F F' L) : ∀ {vs : List (Str × V)} {ds : List (Str × D)}, RepF K F vs ds → noLF ds = true → RepF K F' vs ds
  | _, _, .nil, _ => .nil
  | _, _, .cons h t, n => .cons (h.dropL q (Bool.and_eq_true _ _ ▸ n).1) (t.dropL q (Bool.and_eq_true _ _ ▸ n).2)
theorem RepK.dropL (q : DropL F F' L) : ∀ {vs : List (Key × V)} {ds : List (Key × D)}, RepK K F vs ds → noLK ds = true → RepK K F' vs ds
  | _, _, .nil, _ => .nil
  | _, _, .cons h t, n => .cons (h.dropL q (Bool.and_eq_true _ _ ▸ n).1) (t.dropL q (Bool.and_eq_true _ _ ▸ n).2)
end
end
section
variable {X : Cx} {c : Fc} {W : WX}
end
end DL
namespace DR
open PySem PySem.Spec PyProof.Rows L2 DL
section
variable {δ : DSt} {cs : Cells} {Q : DV → DSt → Cells → Prop} {E : XD} {D : EndsC}
end
end DR

set_option Elab.async false
set_option linter.all false
set_option maxRecDepth 100000
/-! DL84: text.upper() -/
namespace DL
open PySem PySem.Spec PyProof.Rows L2
section
variable {X : Cx} {c : Fc} {W : WX}
end
end DL
namespace DR
open PySem PySem.Spec PyProof.Rows L2 DL
end DR

set_option Elab.async false
set_option linter.all false
set_option maxRecDepth 100000
/-! t[lo:hi] of a tuple, the whole of it or not -/
namespace DL
open PySem PySem.Spec PyProof.Rows L2
abbrev sliceTA : RDS := fun a lo hi Q => ∃ xs, a = .tup xs ∧ Q (.d (.tup (cutD xs lo hi)))
theorem cut_whole {xs : List D} {lo hi : Option Int} (h : HT.sIx xs.length 0 lo = 0 ∧ HT.sIx xs.length xs.length hi = xs.length) : cutD xs lo hi = xs := by
  unfold cutD
  rw [h.1, h.2, List.drop_zero, Nat.sub_zero, List.take_length]
theorem sld_tupA {K : PySem.W.Frag} : SlD K (rSlA K) sliceTA := fun x a lo hi F H Q Qd s r ⟨xs, e, q⟩ k => by
  subst e
  cases r with
  | tup s1 r1 =>
    refine ⟨_, _, rfl, SqT.of (s _ _ s1), fun w => ?_, fun w p n => k _ _ _ _ q (made_tup n s (r1.cut lo hi))⟩
    rw [r1.len] at w
    exact k _ _ _ _ q (by rw [cut_whole w]; exact made_d s (.tup s1 r1))
theorem pd_sliceTA {X : Cx} {c : Fc} {W : WX} {e : Expr} {lo hi : Option Expr} {t : TD} {tl th : TDO} {p2 pos : Pos} (he : PE X e (LE X.K c W t)) (hl : PO X lo (LO X.K c W tl)) (hh : PO X hi (LO X.K c W th)) : PE X (.Subscript e (.Slice lo hi none p2) pos) (LE X.K c W (sliceD sliceTA t tl th)) := pd_sliceR sl_tupA sld_tupA he hl hh
end DL

set_option Elab.async false
set_option linter.all false
set_option maxRecDepth 100000
set_option maxHeartbeats 4000000
/-! DL86: a slice of an own list, which stays own; a guarded def's lent lists -/
namespace DL
open PySem PySem.Spec PyProof.Rows L2
section
variable {X : Cx} {c : Fc} {W : WX}
/-- a slice of the own list in slot i -/
def sliceO (i : Nat) (tl th : TDO) : TD := fun δ Q E => (∃ o, δ[i]? = some (some (.own o))) ∧ tl δ (fun l δ1 => th δ1 (fun h δ2 => ∃ xs, δ2[i]? = some (some (.own (.lst xs))) ∧ Q (.own (.lst (cutD xs l h))) δ2) E) E
theorem pd_sliceO {i : Nat} {x : Str} {lo hi : Option Expr} {tl th : TDO} {p2 pos px : Pos} (he : PE X (.Name x px) (tVar i)) (hl : PO X lo (LO X.K c W tl)) (hh : PO X hi (LO X.K c W th)) : PE X (.Subscript (.Name x px) (.Slice lo hi none p2) pos) (LE X.K c W (sliceO i tl th)) :=
  PE_imp (pe_slice sl_list he hl hh) fun σ H Q ⟨δ, tmp, Qd, Ed, ⟨F, ow, S⟩, ⟨⟨o, eo⟩, q⟩, k, w⟩ => by
    obtain ⟨v, e1, p, rfl, _⟩ := S.sl _ _ eo
    refine ⟨_, e1, δ, tmp, _, Ed, ⟨F, ow, S⟩, q, fun l δ1 H1 q1 S1 => ⟨δ1, tmp, _, Ed, S1, q1, fun h δ2 H2 ⟨xs, ei, q2⟩ ⟨F1, ow1, S2⟩ => ?_, w⟩, w⟩
    obtain ⟨v', e2, p', rfl, _, _, _, vs, ep, r⟩ := S2.sl _ _ ei
    rw [e1] at e2
    cases e2
    exact ⟨p, vs, rfl, SqL.of ep, fun p' n => k _ _ _ _ q2 ((made_list n S2.fh (r.cut l h)).stt S2)⟩
/-- xs != [], xs the own list in slot i, which stays own -/
def neO (i : Nat) : TDT := fun δ Q _ => ∃ xs, δ[i]? = some (some (.own (.lst xs))) ∧ neX (.lst xs) (.lst []) fun z => ∃ b, z = .bl b ∧ Q b δ
theorem ptd_neO {i : Nat} {x : Str} {pos px lp : Pos} (hu : X.A.units + 64 < cLine) (hv : PE X (.Name x px) (tVar i)) (hl : PE X (.List [] lp) (LE X.K c W (lstD nilD))) : PT X (.Compare (.Name x px) [.NotEq] [.List [] lp] pos) (LT X.K c W (neO i)) :=
  PT_imp (pt_cmpR (op_neX hu) hv hl rfl) fun σ H Q ⟨δ, tmp, Qd, Ed, ⟨F, ow, S⟩, ⟨xs, ei, q⟩, k, w⟩ => by
    obtain ⟨v, e1, p, rfl, _⟩ := S.sl _ _ ei
    refine ⟨_, e1, δ, tmp, (fun y δ1 => y = .own (.lst []) ∧ δ1 = δ), _, ⟨F, ow, S⟩, ⟨[], rfl, Nat.zero_le _, rfl, rfl⟩, fun u y δ1 H1 ⟨ey, ed⟩ ⟨F1, ow1, S1⟩ => ?_, w⟩
    subst ed
    obtain ⟨F2, S2, _⟩ := S1.top_frz
    rw [ey] at S2
    obtain ⟨v', e2, p', rfl, _, n, _, r⟩ := S2.sl _ _ ei
    rw [e1] at e2
    cases e2
    obtain ⟨uo, eu, r'⟩ := OwnRep.freeze (o := .lst xs) r n S2.fh
    refine op2_neX (.ref p) u (.lst xs) (.lst []) (upd F2 p uo) H1 _ _ (same_upd1 S2.fh eu) r' (Rep.mono (same_upd (Same.refl F2) n) S2.top) q fun v z ⟨b, ez, qb⟩ e => ?_
    subst ez
    cases e
    exact ⟨b, rfl, k _ _ _ qb ⟨F2, ow1, S2.pop⟩⟩
end
theorem FnOkG.lent {P : Program} {w : World} {K : PySem.W.Frag} {mg : Str → Option Value} {base : Heap} {k : Nat} {f : Addr} {fd : FuncData} {ps : List Str} {sd : SpD} (G : FnOkG P w K mg base (L2.CX P w) k f fd ps (spOf K sd)) : FnOkG P w K mg base (L2.CX P w) k f fd ps (spOf K (lent sd)) :=
  ⟨fun vs H Q E h => G.len vs H Q E (spOf_lent vs H Q E h), fun A g outer s H args us vs Q E hr en bi rv h => G.go A g outer s H args us vs Q E hr en bi rv (spOf_lent vs H Q E h)⟩
end DL
namespace DR
open PySem PySem.Spec PyProof.Rows L2 DL
section
variable {δ : DSt} {Q : DK} {E : XD}
theorem slcO {i : Nat} {tl th : TDO} {o : OC} (e : δ[i]? = some (some (.own o))) (h : tl δ (fun l δ1 => th δ1 (fun h δ2 => ∃ xs, δ2[i]? = some (some (.own (.lst xs))) ∧ Q (.own (.lst (cutD xs l h))) δ2) E) E) : sliceO i tl th δ Q E := ⟨⟨o, e⟩, h⟩
theorem neO {i : Nat} {Q : Bool → DSt → Prop} {xs : List DL.D} (e : δ[i]? = some (some (.own (.lst xs)))) (h : neX (.lst xs) (.lst []) fun z => ∃ b, z = .bl b ∧ Q b δ) : DL.neO i δ Q E := ⟨xs, e, h⟩
end
end DR

set_option Elab.async false
set_option linter.all false
set_option maxRecDepth 100000
set_option maxHeartbeats 0
set_option pp.deepTerms false
set_option pp.deepTerms.threshold 8

namespace RD9
open PySem PySem.Spec PyProof.Rows L2
theorem mulr {i j : Int} (h1 : -(2 ^ 64) < j) (h2 : j < 2 ^ 64) : CMul i j := .inr ⟨h1, h2⟩
theorem divw {i j : Int} (h1 : 0 < j) (h2 : j.natAbs.log2 < 9000) : CDivW i j := ⟨h1, h2⟩
theorem mull {i j : Int} (h1 : -(2 ^ 64) < i) (h2 : i < 2 ^ 64) : CMul i j := .inl ⟨h1, h2⟩
theorem pow18 : CPow 10 18 := ⟨by decide, by decide, by decide⟩
theorem scalI {i j : Int} : scal (.int i) (.int j) = true := rfl
theorem scalS {i j : Str} : scal (.str i) (.str j) = true := rfl
theorem iteEqI {A B : Prop} {i j : Int} (h : if decide (i = j) = true then A else B) : if (if false = true then !decide (V.int i = V.int j) else decide (V.int i = V.int j)) = true then A else B := by
  rw [show decide (V.int i = V.int j) = decide (i = j) from decide_eq_decide.mpr ⟨fun e => V.int.inj e, fun e => congrArg _ e⟩]; exact h
theorem iteNeS {A B : Prop} {i j : Str} (h : if (!decide (i = j)) = true then A else B) : if (if true = true then !decide (V.str i = V.str j) else decide (V.str i = V.str j)) = true then A else B := by
  rw [show decide (V.str i = V.str j) = decide (i = j) from decide_eq_decide.mpr ⟨fun e => V.str.inj e, fun e => congrArg _ e⟩]; exact h
theorem iteNF {A B : Prop} (h : A) : if (if true = true then !false else false) = true then A else B := h
theorem iteNT {A B : Prop} (h : B) : if (if true = true then !true else true) = true then A else B := h
theorem iteIF {A B : Prop} (h : B) : if (if false = true then !false else false) = true then A else B := h
theorem f1k {α : Type} {l : List α} (h : Nat.blt l.length 1000 = true) : l.length < 1000 := by simpa [Nat.blt_eq] using h
theorem nd0 : ([] : List Nat).Nodup := .nil
theorem nd1 {a : Nat} : [a].Nodup := List.nodup_cons.mpr ⟨(fun h => nomatch h), .nil⟩
theorem nd2 {a b : Nat} (h : (a == b) = false) : [a, b].Nodup := List.nodup_cons.mpr ⟨(fun z => by rw [List.mem_singleton.mp z] at h; simp at h), nd1⟩
theorem sh0 {α : Type} : ([] : List α).length ≤ sizeLine := by show 0 ≤ sizeLine; decide
theorem sh1 {α : Type} {a : α} : [a].length ≤ sizeLine := by show 1 ≤ sizeLine; decide
theorem sh2 {α : Type} {a b : α} : [a, b].length ≤ sizeLine := by show 2 ≤ sizeLine; decide
theorem sh3 {α : Type} {a b c : α} : [a, b, c].length ≤ sizeLine := by show 3 ≤ sizeLine; decide
theorem sh4 {α : Type} {a b c d : α} : [a, b, c, d].length ≤ sizeLine := by show 4 ≤ sizeLine; decide
end RD9
local macro_rules
  | `(tactic| walk_at "da") => `(tactic| repeat (first | exact DR.args_n | apply DR.args_d | (apply DR.args_o; (with_unfolding_all rfl))))
local macro_rules
  | `(tactic| walk_at "dt") => `(tactic| repeat (first | exact DR.tk_n | (apply DR.tk_c; (with_unfolding_all rfl))))
local macro_rules
  | `(tactic| walk_at "dc") => `(tactic| first | (exact RD9.mulr (by decide) (by decide)) | (exact RD9.mull (by decide) (by decide)) | (exact RD9.mulr (by omega) (by omega)) | (exact RD9.mull (by omega) (by omega)) | (show (0 : Int) < _; first | decide | omega) | (exact RD9.divw (by decide) (by decide +kernel)) | (exact RD9.divw (by omega) (by decide +kernel)))
local macro_rules
  | `(tactic| walk_at "dd1") => `(tactic| with_reducible first
    | apply DR.op | (apply DR.var; (with_unfolding_all rfl)) | apply DR.const | apply DR.cons | apply DR.nil | apply DR.seq | apply DR.set | apply DR.tv | apply DR.built | apply DR.call | apply DR.consO
    | apply DR.if_ | apply DR.ifE | apply DR.ret | apply DR.retN | apply DR.next | apply DR.drop | apply DR.setO | apply DR.setLc | apply DR.par | apply DR.par3 | apply DR.consk | apply DR.nilk | apply DR.unpack
    | (apply DR.fvar; (with_unfolding_all rfl)) | (apply DR.mvar; (with_unfolding_all rfl)) | apply DR.lst | apply DR.tup | apply DR.not | apply DR.and | apply DR.or | apply DR.boolE | apply DR.notv | apply DR.andv | apply DR.orv | apply DR.chain | apply DR.neg
    | (apply DR.ixo; (with_unfolding_all rfl)) | (apply DR.setItem; (with_unfolding_all rfl)) | (apply DR.meth; (with_unfolding_all rfl)) | (apply DR.builtO; (with_unfolding_all rfl))
    | apply DR.newDK | (apply DR.getKO; (with_unfolding_all rfl)) | apply DR.putK | apply DR.inKO | apply DR.inKF | (apply DR.aug; (with_unfolding_all rfl)) | apply DR.makeO | (apply DR.methO; (with_unfolding_all rfl); exact RD9.lkn (by with_unfolding_all rfl)) | (apply DR.owniO; (with_unfolding_all rfl); (with_unfolding_all rfl)) | apply DR.sortK | apply DR.tupItems
    | apply DR.both | apply DR.sub | apply DR.newk | (apply DR.newl; (with_unfolding_all rfl)) | apply DR.callr | apply DR.starA | apply DR.tseq | apply DR.clsm | apply DR.owni | apply DR.tryc | apply DR.tryca | apply DR.tryo | apply DR.trym | apply DR.xf | apply DR.raiser | apply DR.methr | apply DR.methk | apply DR.clsmk | apply DR.join | apply DR.upper | apply DR.dzip | apply DR.tzip | apply DR.slc | apply DR.slN | apply DR.slS | apply DR.cnt | apply DR.cntT | apply DR.rotI | apply DR.lenSetR | apply DR.dcomp | apply DR.rev | apply DR.intO | apply DR.negO | apply DR.tupgV | apply DR.getK | apply DR.index
    | apply DR.inLO | apply DR.enumi | apply DR.zipi | apply DR.zipm | apply DR.lenSet | apply DR.comp2 | apply DR.compX
    | apply DR.for_ | apply DR.comp | apply DR.yes | apply DR.nameg | apply DR.tupg | apply DR.namesC | apply DR.namesN | apply DR.listi | apply DR.tupi | apply DR.stri | apply DR.range1 | apply DR.raise
    | apply DR.newT | (apply DR.getO; (with_unfolding_all rfl)) | apply DR.getF | apply DR.put | apply DR.inO | apply DR.inF | apply DR.prop | refine ⟨⟨_, by with_unfolding_all rfl⟩, ?_⟩
    | apply DR.fld | (apply DR.fldo; (with_unfolding_all rfl); (with_unfolding_all rfl)) | apply DR.fldset | apply DR.make | apply DR.methd
    | apply RD9.iteEqI | apply RD9.iteNeI | apply RD9.iteEqS | apply RD9.iteNeS | refine ⟨RD9.scalI, ?_⟩ | refine ⟨RD9.scalS, ?_⟩
    | apply RD9.iteNF | apply RD9.iteNT | apply RD9.iteIF | apply RD9.iteIT
    | apply DR.iteT | apply DR.iteF | apply DR.nit | apply DR.nif
    | (apply DR.rt; walk_at "dt") | (apply DR.nx; walk_at "dt") | (apply DR.ex; walk_at "dt")
    | refine ⟨RD9.sh3, ?_⟩ | refine ⟨RD9.sh2, ?_⟩ | refine ⟨RD9.sh1, ?_⟩ | refine ⟨RD9.sh0, ?_⟩ | refine ⟨RD9.sh4, ?_⟩ | refine ⟨RD9.pow18, ?_⟩ | refine ⟨RD9.pow12, ?_⟩
    | refine ⟨DR.nost_i, ?_⟩ | refine ⟨DR.nost_b, ?_⟩ | refine ⟨DR.nost_n, ?_⟩
    | refine ⟨_, _, (by with_unfolding_all rfl), (by walk_at "da"), (by with_unfolding_all first | exact RD9.nd0 | exact RD9.nd1 | exact RD9.nd2 rfl), ?_⟩
    | refine ⟨_, (by walk_at "da"), (by with_unfolding_all first | exact RD9.nd0 | exact RD9.nd1 | exact RD9.nd2 rfl), ?_⟩
    | refine ⟨_, _, _, by with_unfolding_all rfl, rfl, by with_unfolding_all rfl, ?_⟩
    | refine ⟨[_], rfl, ?_⟩ | refine ⟨[_, _], rfl, ?_⟩ | refine ⟨[], rfl, ?_⟩ | refine ⟨[_, _, _], rfl, ?_⟩ | refine ⟨[_, _, _, _], rfl, ?_⟩ | refine ⟨[_, _, _, _, _], rfl, ?_⟩ | refine ⟨[_, _, _, _, _, _], rfl, ?_⟩
    | refine ⟨_, _, rfl, rfl, by with_unfolding_all walk_at "dc", ?_⟩
    | refine ⟨_, _, rfl, rfl, ?_⟩
    | refine ⟨_, rfl, _, rfl, ?_⟩
    | refine ⟨_, rfl, ?_⟩
    | refine ⟨_, _, rfl, ?_⟩
    | refine ⟨_, .inl rfl, ?_⟩
    | refine ⟨RD9.f1k (by with_unfolding_all rfl), ?_⟩
    | refine ⟨RD9.lkn (by with_unfolding_all rfl), ?_⟩
   )
local macro_rules
  | `(tactic| walk_at "dd") => `(tactic| repeat walk_at "dd1")

namespace KT
open PySem PySem.Spec PyProof.Rows L2 DL
def top (i : Nat) : Stmt := PySem.Challenge.pw_coveredday_k09_parcels_refused.main.body.getD i (.Pass ⟨0, 0, 0, 0⟩)
structure TxtB (mg : Str → Option Value) : Prop where
  b_int : mg "int" = none
  b_abs : mg "abs" = none
  b_len : mg "len" = none
  b_range : mg "range" = none
  b_min : mg "min" = none
structure TxtN (mg : Str → Option Value) : Prop extends TxtB mg where
  b_isinstance : mg "isinstance" = none
  b_all : mg "all" = none
  b_str : mg "str" = none
  b_bool : mg "bool" = none
  b_list : mg "list" = none
  b_tuple : mg "tuple" = none
  b_set : mg "set" = none
  b_enumerate : mg "enumerate" = none
  b_iter : mg "iter" = none
  b_zip : mg "zip" = none
  b_max : mg "max" = none
  b_repr : mg "repr" = none
  k__CASH : ∃ t, mg "_CASH" = some (.str "cash" t)
  k__LETTERS : ∃ t, mg "_LETTERS" = some (.str "abcdefghijklmnopqrstuvwxyz" t)
  k__LONGEST_NAME : ∃ t, mg "_LONGEST_NAME" = some (.int 12 t)
  k__MOST_GOODS : ∃ t, mg "_MOST_GOODS" = some (.int 5 t)
def Nm (g : Str) : Prop := g ≠ "cash" ∧ 1 ≤ g.length ∧ g.length ≤ 12 ∧ ∀ c ∈ g.cps.toList, 97 ≤ c ∧ c ≤ 122
def Goods (gs : List Str) : Prop := gs.Nodup ∧ 1 ≤ gs.length ∧ gs.length ≤ 5 ∧ ∀ g ∈ gs, Nm g
def cash : Str := "cash"
def RowOf (x : D) (xs : List D) : Prop := x = .lst xs ∨ x = .tup xs
theorem in_abz {c : Nat} (h : 97 ≤ c ∧ c ≤ 122) : c ∈ (Str.ofString "abcdefghijklmnopqrstuvwxyz").cps.toList := by
  have e : ∀ k : Fin 26, 97 + k.val ∈ (Str.ofString "abcdefghijklmnopqrstuvwxyz").cps.toList := by decide +kernel
  have := e ⟨c - 97, by omega⟩
  rwa [show 97 + (c - 97) = c by omega] at this
theorem kit_self {K : PySem.W.Frag} {n : String} : PySem.W.kitOne K (.type n) (.type n) = some true := by
  unfold PySem.W.kitOne
  exact if_pos (beq_iff_eq.mpr rfl)
theorem dp_strs (l : List Str) : Dp_ 2 (.tup (l.map .str)) := dp_tup (dp_map fun r _ => dp_str)
theorem eqv_names {l k : List Str} : PyData.eqv (D.tup (l.map .str)).py (D.tup (k.map .str)).py = decide (l = k) := eqv_tups eqv_strs
abbrev s_is_name : Stmt := top 19
theorem sc_is_name : FnScope ["thing", "letter"] ["thing"] (defScope s_is_name) := ⟨rfl, rfl, rfl, by decide +kernel, rfl, by decide +kernel, by decide +kernel⟩
abbrev s_is_sequence : Stmt := top 16
theorem sc_is_sequence : FnScope ["thing"] ["thing"] (defScope s_is_sequence) := ⟨rfl, rfl, rfl, by decide +kernel, rfl, by decide +kernel, by decide +kernel⟩
abbrev s_is_integer : Stmt := top 14
theorem sc_is_integer : FnScope ["thing"] ["thing"] (defScope s_is_integer) := ⟨rfl, rfl, rfl, by decide +kernel, rfl, by decide +kernel, by decide +kernel⟩
abbrev s_is_row : Stmt := top 17
theorem sc_is_row : FnScope ["thing", "length"] ["thing", "length"] (defScope s_is_row) := ⟨rfl, rfl, rfl, by decide +kernel, rfl, by decide +kernel, by decide +kernel⟩
abbrev s_checked_goods : Stmt := top 21
theorem sc_checked_goods : FnScope ["goods", "told", "good"] ["goods"] (defScope s_checked_goods) := ⟨rfl, rfl, rfl, by decide +kernel, rfl, by decide +kernel, by decide +kernel⟩
end KT

set_option Elab.async false
set_option linter.all false
set_option maxRecDepth 100000
set_option maxHeartbeats 0
set_option pp.deepTerms false
set_option pp.deepTerms.threshold 8


namespace KT
open PySem PySem.Spec PyProof.Rows L2 DL
abbrev s_NoAsset___init : Stmt := inClass (top 4) 0
theorem sc_NoAsset___init : FnScope ["self", "name"] ["self", "name"] (defScope s_NoAsset___init) := ⟨rfl, rfl, rfl, by decide +kernel, rfl, by decide +kernel, by decide +kernel⟩
theorem ok_NoAsset {P : Program} {w : World} {K : PySem.W.Frag} {mg : Str → Option Value} {base : Heap} {B : Addr} {f : Addr} {fd : FuncData} (F : Fun K "__init__" "NoAsset.__init__" s_NoAsset___init f fd) (ox : OexC K B) (nw0 : PySem.W.findIn K (.ref B) "name" = some none) : FnOk P w K mg base CX0 1 f fd ["self", "name"] (ErrR K B ["name"]) :=
  ok_err1 F sc_NoAsset___init ox nw0 fun cdv A outer s H E => pss_one (ps_ost (pv 0) (pv 1))
abbrev s_BadGoods___init : Stmt := inClass (top 3) 0
theorem sc_BadGoods___init : FnScope ["self", "what"] ["self", "what"] (defScope s_BadGoods___init) := ⟨rfl, rfl, rfl, by decide +kernel, rfl, by decide +kernel, by decide +kernel⟩
theorem ok_BadGoods {P : Program} {w : World} {K : PySem.W.Frag} {mg : Str → Option Value} {base : Heap} {B : Addr} {f : Addr} {fd : FuncData} (F : Fun K "__init__" "BadGoods.__init__" s_BadGoods___init f fd) (ox : OexC K B) (nw0 : PySem.W.findIn K (.ref B) "what" = some none) : FnOk P w K mg base CX0 1 f fd ["self", "what"] (ErrR K B ["what"]) :=
  ok_err1 F sc_BadGoods___init ox nw0 fun cdv A outer s H E => pss_one (ps_ost (pv 0) (pv 1))
abbrev s_BadPosition___init : Stmt := inClass (top 5) 0
theorem sc_BadPosition___init : FnScope ["self", "what"] ["self", "what"] (defScope s_BadPosition___init) := ⟨rfl, rfl, rfl, by decide +kernel, rfl, by decide +kernel, by decide +kernel⟩
theorem ok_BadPosition {P : Program} {w : World} {K : PySem.W.Frag} {mg : Str → Option Value} {base : Heap} {B : Addr} {f : Addr} {fd : FuncData} (F : Fun K "__init__" "BadPosition.__init__" s_BadPosition___init f fd) (ox : OexC K B) (nw0 : PySem.W.findIn K (.ref B) "what" = some none) : FnOk P w K mg base CX0 1 f fd ["self", "what"] (ErrR K B ["what"]) :=
  ok_err1 F sc_BadPosition___init ox nw0 fun cdv A outer s H E => pss_one (ps_ost (pv 0) (pv 1))
/-- plain data and its type -/
inductive Pl : D → String → Prop
  | non : Pl .non "NoneType"
  | bl (b : Bool) : Pl (.bl b) "bool"
  | int (i : Int) : Pl (.int i) "int"
  | str (s : Str) : Pl (.str s) "str"
  | lst (l : List D) : Pl (.lst l) "list"
  | tup (l : List D) : Pl (.tup l) "tuple"
def isI : D → Bool
  | .int _ => true
  | _ => false
def isS : D → Bool
  | .lst _ => true
  | .tup _ => true
  | _ => false
def low (z : Str) : Bool := z.cps.toList.all fun c => decide (c ∈ (Str.ofString "abcdefghijklmnopqrstuvwxyz").cps.toList)
def nmB (z : Str) : Bool := decide (1 ≤ z.length) && decide (z.length ≤ 12) && low z
def nmD : D → Bool
  | .str z => nmB z
  | _ => false
def seqOf : D → List D
  | .lst l => l
  | .tup l => l
  | _ => []
section
variable {P : Program} {w : World} {K : PySem.W.Frag} {mg : Str → Option Value} {base : Heap} {C OG NA BG BM : Addr}
/-! ### kinds of things -/
def sdIntX : SpD := fun as Q _ => ∃ (x : D) (n : String), as = [.d x] ∧ Pl x n ∧ Q (.d (.bl (isI x))) []
theorem ok_integerX {f : Addr} {fd : FuncData} (G : Fun K "is_integer" "is_integer" s_is_integer f fd) (T : TxtN mg) : FnOk P w K mg base (L2.CX P w) 1 f fd ["thing"] (spOf K sdIntX) := by
  refine okD G sc_is_integer [] (fun as Q E ⟨xs, n, e, _⟩ => by subst e; exact ⟨rfl, rfl⟩) ⟨_, fun cdv A outer s H E ad F0 H0 hr => (pds_one (psd_ret (pd_and (pd_builtB (fun h => pe_callB call_isi (by rfl) T.b_isinstance (by decide +kernel) h) (cn_isi (K := K)).op (pda_cons (pd_var (pv 0)) (pda_cons (pd_const (pe_bltn (v := .ty "int") (by rfl) T.b_int (by decide +kernel) rfl) (fun _ => .ty _)) pda_nil))) (pd_one (pd_not (pd_builtB (fun h => pe_callB call_isi (by rfl) T.b_isinstance (by decide +kernel) h) (cn_isi (K := K)).op (pda_cons (pd_var (pv 0)) (pda_cons (pd_const (pe_bltn (v := .ty "bool") (by rfl) T.b_bool (by decide +kernel) rfl) (fun _ => .ty _)) pda_nil)))))))), ?_⟩
  rintro as Qd Ed ⟨x, n, rfl, hx, k⟩
  refine DR.start (δ' := [some (.d x)]) rfl ?_
  walk_at "dd"
  cases hx with
  | non => exact ⟨_, _, _, _, false, rfl, .ty _, .non, by rfl, DR.nost_b, by walk_at "dd"; exact k⟩
  | bl b =>
    refine ⟨_, _, _, _, true, rfl, .ty _, .bl _, by rfl, ?_⟩
    walk_at "dd"
    refine ⟨_, _, _, _, true, rfl, .ty _, .bl _, kit_self, ?_⟩
    walk_at "dd"
    exact k
  | int i =>
    refine ⟨_, _, _, _, true, rfl, .ty _, .int _, kit_self, ?_⟩
    walk_at "dd"
    refine ⟨_, _, _, _, false, rfl, .ty _, .int _, by rfl, ?_⟩
    walk_at "dd"
    exact k
  | str s => exact ⟨_, _, _, _, false, rfl, .ty _, .str _, by rfl, DR.nost_b, by walk_at "dd"; exact k⟩
  | lst l => exact ⟨_, _, _, _, false, rfl, .ty _, .lst _, by rfl, DR.nost_b, by walk_at "dd"; exact k⟩
  | tup l => exact ⟨_, _, _, _, false, rfl, .ty _, .tup _, by rfl, DR.nost_b, by walk_at "dd"; exact k⟩
def sdSeqX : SpD := fun as Q _ => ∃ (x : D) (n : String), as = [.d x] ∧ Pl x n ∧ Q (.d (.bl (isS x))) []
theorem ok_seqX {f : Addr} {fd : FuncData} (G : Fun K "is_sequence" "is_sequence" s_is_sequence f fd) (T : TxtN mg) : FnOk P w K mg base (L2.CX P w) 1 f fd ["thing"] (spOf K sdSeqX) := by
  refine okD G sc_is_sequence [] (fun as Q E ⟨xs, y, e, _⟩ => by subst e; exact ⟨rfl, rfl⟩) ⟨_, fun cdv A outer s H E ad F0 H0 hr => (pds_one (psd_ret (pd_builtB (fun h => pe_callB call_isiT (by rfl) T.b_isinstance (by decide +kernel) h) (cn_isiT (K := K)).op (pda_cons (pd_var (pv 0)) (pda_cons (pd_tup (fun h => pe_tup h) (pda_cons (pd_const (pe_bltn (v := .ty "list") (by rfl) T.b_list (by decide +kernel) rfl) (fun _ => .ty _)) (pda_cons (pd_const (pe_bltn (v := .ty "tuple") (by rfl) T.b_tuple (by decide +kernel) rfl) (fun _ => .ty _)) pda_nil))) pda_nil))))), ?_⟩
  rintro as Qd Ed ⟨x, n, rfl, hx, k⟩
  refine DR.start (δ' := [some (.d x)]) rfl ?_
  walk_at "dd"
  cases hx with
  | non => exact ⟨_, _, _, _, false, rfl, .cons (.ty _) (.cons (.ty _) .nil), .non, rfl, DR.nost_b, by walk_at "dd"; exact k⟩
  | bl b => exact ⟨_, _, _, _, false, rfl, .cons (.ty _) (.cons (.ty _) .nil), .bl _, rfl, DR.nost_b, by walk_at "dd"; exact k⟩
  | int i => exact ⟨_, _, _, _, false, rfl, .cons (.ty _) (.cons (.ty _) .nil), .int _, rfl, DR.nost_b, by walk_at "dd"; exact k⟩
  | str s => exact ⟨_, _, _, _, false, rfl, .cons (.ty _) (.cons (.ty _) .nil), .str _, rfl, DR.nost_b, by walk_at "dd"; exact k⟩
  | lst l => exact ⟨_, _, _, _, true, rfl, .cons (.ty _) (.cons (.ty _) .nil), .lst _, rfl, DR.nost_b, by walk_at "dd"; exact k⟩
  | tup l => exact ⟨_, _, _, _, true, rfl, .cons (.ty _) (.cons (.ty _) .nil), .tup _, rfl, DR.nost_b, by walk_at "dd"; exact k⟩
def isR (n : Nat) (x : D) : Bool := isS x && decide ((seqOf x).length = n)
def sdRowX : SpD := fun as Q _ => ∃ (x : D) (t : String) (n : Nat), as = [.d x, .d (.int n)] ∧ Pl x t ∧ n ≤ 1000 ∧ Q (.d (.bl (isR n x))) []
theorem ok_rowX (D_is_sequence : DefD P w K mg base "is_sequence" 1 ["thing"] sdSeqX) {f : Addr} {fd : FuncData} (G : Fun K "is_row" "is_row" s_is_row f fd) (T : TxtN mg) : FnOk P w K mg base (L2.CX P w) 3 f fd ["thing", "length"] (spOf K sdRowX) := by
  refine okD G sc_is_row [] (fun as Q E ⟨xs, y, n, e, _⟩ => by subst e; exact ⟨rfl, rfl⟩) ⟨_, fun cdv A outer s H E ad F0 H0 hr => (pds_one (psd_ret (pd_and (pd_call D_is_sequence.ok (hr.mono (by decide)) (by rfl) D_is_sequence.mg D_is_sequence.kp D_is_sequence.b (takes_of rfl rfl rfl rfl) (pda_cons (pd_var (pv 0)) pda_nil)) (pd_one (pd_cmp op_eq op2_eq.op (pd_builtB (fun h => pe_callB call_len_seq (by rfl) T.b_len (by decide +kernel) h) cn_len.op (pda_cons (pd_var (pv 0)) pda_nil)) (pd_var (pv 1)) (nomark _)))))), ?_⟩
  rintro as Qd Ed ⟨x, t, n, rfl, hx, hn, k⟩
  refine DR.start (δ' := [some (.d x), some (.d (.int n))]) rfl ?_
  walk_at "dd"
  refine ⟨x, t, rfl, hx, ?_⟩
  have e : ∀ l : List D, decide (V.int (l.length : Int) = V.int (n : Int)) = decide (l.length = n) := fun l => decide_eq_decide.mpr ⟨fun q => by injection q with q; omega, fun q => by rw [q]⟩
  have no : isS x = false → isR n x = false := fun h => by unfold isR; rw [h]; rfl
  have yes : isS x = true → isR n x = decide ((seqOf x).length = n) := fun h => by unfold isR; rw [h]; rfl
  cases q : isS x with
  | false =>
    rw [no q] at k
    walk_at "dd"
    exact k
  | true =>
    rw [yes q] at k
    cases hx with
    | lst l =>
      walk_at "dd"
      rw [if_neg Bool.false_ne_true, e]
      exact k
    | tup l =>
      walk_at "dd"
      rw [if_neg Bool.false_ne_true, e]
      exact k
    | _ => cases q
def isN (n : Nat) (x : D) : Bool := isR n x && (seqOf x).all isI
def AllPl (x : D) : Prop := ∀ d ∈ seqOf x, ∃ n, Pl d n
def sdNumX : SpD := fun as Q _ => ∃ (x : D) (t : String) (n : Nat), as = [.d x, .d (.int n)] ∧ Pl x t ∧ AllPl x ∧ n ≤ 1000 ∧ Q (.d (.bl (isN n x))) []
abbrev s_is_number_row : Stmt := top 18
theorem sc_is_number_row : FnScope ["thing", "length", "number"] ["thing", "length"] (defScope s_is_number_row) := ⟨rfl, rfl, rfl, by decide +kernel, rfl, by decide +kernel, by decide +kernel⟩
theorem ok_numX (D_is_row : DefD P w K mg base "is_row" 3 ["thing", "length"] sdRowX) (D_is_integer : DefD P w K mg base "is_integer" 1 ["thing"] sdIntX) {f : Addr} {fd : FuncData} (G : Fun K "is_number_row" "is_number_row" s_is_number_row f fd) (T : TxtN mg) : FnOk P w K mg base (L2.CX P w) 5 f fd ["thing", "length"] (spOf K sdNumX) := by
  refine okD G sc_is_number_row [] (fun as Q E ⟨xs, y, n, e, _⟩ => by subst e; exact ⟨rfl, rfl⟩) ⟨_, fun cdv A outer s H E ad F0 H0 hr => (pds_one (psd_ret (pd_and (pd_call D_is_row.ok (hr.mono (by decide)) (by rfl) D_is_row.mg D_is_row.kp D_is_row.b (takes_of rfl rfl rfl rfl) (pda_cons (pd_var (pv 0)) (pda_cons (pd_var (pv 1)) pda_nil))) (pd_one (pd_builtB (fun h => pe_callB (cr_all rfl) (by rfl) T.b_all (by decide +kernel) h) cn_all.op (pda_cons (pd_lc (own := [("number", 2)]) (by rfl) sc_is_number_row.nd (pid_seq (pd_var (pv 0))) (blkOk_by (own := [("number", 2)]) (N := ["thing", "length", "number"]) (sc := defScope s_is_number_row) (by decide +kernel)) (fun _ _ _ _ _ => (pgd_name (i := 2) (vs := [2]) (pg_name (i := 2) sc_is_number_row.nd rfl (.inl rfl)) (by show ¬ (2 ∈ ([] : List Nat)); decide) (by decide))) (fun _ _ _ _ _ => ptsd_nil) (fun _ _ _ _ _ => (pd_call D_is_integer.ok (hr.mono (by decide)) (by rfl) D_is_integer.mg D_is_integer.kp D_is_integer.b takes0 (pda_cons (pd_var (pv 2)) pda_nil))) (by show ∀ i ∈ ([2] : List Nat), ¬ (i ∈ ([] : List Nat)); decide)) pda_nil)))))), ?_⟩
  rintro as Qd Ed ⟨x, t, n, rfl, hx, ha, hn, k⟩
  refine DR.start (δ' := [some (.d x), some (.d (.int n)), none]) rfl ?_
  walk_at "dd"
  refine ⟨x, t, n, rfl, hx, hn, ?_⟩
  cases q : isR n x with
  | false =>
    rw [show isN n x = false by unfold isN; rw [q]; rfl] at k
    walk_at "dd"
    exact k
  | true =>
    rw [show isN n x = (seqOf x).all isI by unfold isN; rw [q]; rfl] at k
    have hlen : (seqOf x).length = n := by
      unfold isR at q
      rw [Bool.and_eq_true] at q
      exact of_decide_eq_true q.2
    walk_at "dd"
    have ea : ∀ l : List D, (l.map isI).all id = l.all isI := fun l => by rw [List.all_map]; rfl
    cases hx with
    | lst l =>
      refine DR.seqL ?_
      walk_at "dd"
      refine DR.lc_map (fun d => D.bl (isI d)) (fun d acc N hd hl kN => ?_) ?_
      · obtain ⟨m, hm⟩ := ha d hd
        walk_at "dd"
        refine ⟨d, m, rfl, hm, ?_⟩
        exact ⟨Nat.lt_of_lt_of_le hl (Nat.le_trans (Nat.le_of_eq hlen) (Nat.le_trans hn (by decide))), kN⟩
      walk_at "dd"
      refine ⟨l.map isI, .inl (by rw [List.map_map]; rfl), ?_⟩
      dsimp only
      rw [ea]
      walk_at "dd"
      exact k
    | tup l =>
      refine DR.seqT ?_
      walk_at "dd"
      refine DR.lc_map (fun d => D.bl (isI d)) (fun d acc N hd hl kN => ?_) ?_
      · obtain ⟨m, hm⟩ := ha d hd
        walk_at "dd"
        refine ⟨d, m, rfl, hm, ?_⟩
        exact ⟨Nat.lt_of_lt_of_le hl (Nat.le_trans (Nat.le_of_eq hlen) (Nat.le_trans hn (by decide))), kN⟩
      walk_at "dd"
      refine ⟨l.map isI, .inl (by rw [List.map_map]; rfl), ?_⟩
      dsimp only
      rw [ea]
      walk_at "dd"
      exact k
    | _ => unfold isR at q; cases q
/-! ### names -/
def sdNameX : SpD := fun as Q _ => ∃ (x : D) (n : String), as = [.d x] ∧ Pl x n ∧ (∀ z, x = .str z → z.length ≤ 1000) ∧ Q (.d (.bl (nmD x))) []
theorem ok_nameX {f : Addr} {fd : FuncData} (G : Fun K "is_name" "is_name" s_is_name f fd) (T : TxtN mg) : FnOk P w K mg base (L2.CX P w) 1 f fd ["thing"] (spOf K sdNameX) := by
  obtain ⟨_, k__LETTERS⟩ := T.k__LETTERS
  obtain ⟨_, k__LONGEST_NAME⟩ := T.k__LONGEST_NAME
  refine okD G sc_is_name [] (fun as Q E ⟨xs, n, e, _⟩ => by subst e; exact ⟨rfl, rfl⟩) ⟨_, fun cdv A outer s H E ad F0 H0 hr => (pds_cons (psd_if (PW.pt (pwd_or (ptd_not (ptd_val (pd_builtB (fun h => pe_callB call_isi (by rfl) T.b_isinstance (by decide +kernel) h) (cn_isi (K := K)).op (pda_cons (pd_var (pv 0)) (pda_cons (pd_const (pe_bltn (v := .ty "str") (by rfl) T.b_str (by decide +kernel) rfl) (fun _ => .ty _)) pda_nil))) (fun h => pt_val h))) (pwd_or1 (ptd_not (ptd_chain op_le (op2_I0 fun _ _ _ => .bl _) op_le (op2_I0 fun _ _ _ => .bl _) (pd_const pe_int (fun _ => .int _)) (pd_builtB (fun h => pe_callB call_len_str (by rfl) T.b_len (by decide +kernel) h) cn_lenS.op (pda_cons (pd_var (pv 0)) pda_nil)) (pd_const (pe_glob (v := (.int 12)) rfl k__LONGEST_NAME ⟨_, rfl⟩) (fun _ => .int _)) (by with_unfolding_all rfl)))))) (pds_one (psd_ret (pd_const pe_bl (fun _ => .bl _)))) pds_nil)
      (pds_one (psd_ret (pd_builtB (fun h => pe_callB (cr_all rfl) (by rfl) T.b_all (by decide +kernel) h) cn_all.op (pda_cons (pd_lc (own := [("letter", 1)]) (by rfl) sc_is_name.nd (pid_str (pd_var (pv 0))) (blkOk_by (own := [("letter", 1)]) (N := ["thing", "letter"]) (sc := defScope s_is_name) (by decide +kernel)) (fun _ _ _ _ _ => (pgd_name (i := 1) (vs := [1]) (pg_name (i := 1) sc_is_name.nd rfl (.inl rfl)) (by show ¬ (1 ∈ ([] : List Nat)); decide) (by decide))) (fun _ _ _ _ _ => ptsd_nil) (fun _ _ _ _ _ => (pd_cmp op_in_sign op2_inSign.op (pd_var (pv 1)) (pd_const (pe_glob (v := (.str "abcdefghijklmnopqrstuvwxyz")) rfl k__LETTERS ⟨_, rfl⟩) (fun _ => .str (by decide +kernel))) rfl)) (by show ∀ i ∈ ([1] : List Nat), ¬ (i ∈ ([] : List Nat)); decide)) pda_nil))))), ?_⟩
  rintro as Qd Ed ⟨x, n, rfl, hx, hz, k⟩
  refine DR.start (δ' := [some (.d x), none]) rfl ?_
  walk_at "dd"
  cases hx with
  | str g =>
    have hz := hz g rfl
    refine ⟨_, _, _, _, true, rfl, .ty _, .str _, kit_self, ?_⟩
    walk_at "dd"
    refine ⟨Nat.le_trans hz (by decide), ?_⟩
    walk_at "dd"
    by_cases c1 : 1 ≤ g.length
    · rw [show decide (1 ≤ (g.length : Int)) = true from decide_eq_true (by omega)]
      walk_at "dd"
      by_cases c2 : g.length ≤ 12
      · rw [show decide ((g.length : Int) ≤ 12) = true from decide_eq_true (by omega)]
        walk_at "dd"
        refine DR.lc_mapM (fun c => D.bl (decide (c ∈ (Str.ofString "abcdefghijklmnopqrstuvwxyz").cps.toList))) (fun ch acc N hc hl kN => ?_) ?_
        · walk_at "dd"
          refine ⟨Nat.lt_of_lt_of_le hl (Nat.le_trans (show g.cps.toList.length ≤ 1000 by rw [Array.length_toList]; exact hz) (by decide)), ?_⟩
          rw [if_neg Bool.false_ne_true]
          exact kN
        · walk_at "dd"
          refine ⟨g.cps.toList.map fun c => decide (c ∈ (Str.ofString "abcdefghijklmnopqrstuvwxyz").cps.toList), .inl (by rw [List.map_map]; rfl), ?_⟩
          walk_at "dd"
          rw [show nmD (.str g) = low g by show nmB g = _; unfold nmB; rw [decide_eq_true c1, decide_eq_true c2]; rfl] at k
          dsimp only
          rw [List.all_map]
          exact k
      · rw [show decide ((g.length : Int) ≤ 12) = false from decide_eq_false (by omega)]
        walk_at "dd"
        rw [show nmD (.str g) = false by show nmB g = _; unfold nmB; rw [decide_eq_false c2, Bool.and_false]; rfl] at k
        exact k
    · rw [show decide (1 ≤ (g.length : Int)) = false from decide_eq_false (by omega)]
      walk_at "dd"
      rw [show nmD (.str g) = false by show nmB g = _; unfold nmB; rw [decide_eq_false c1]; rfl] at k
      exact k
  | non =>
    refine ⟨_, _, _, _, false, rfl, .ty _, .non, by rfl, ?_⟩
    walk_at "dd"
    exact k
  | bl b =>
    refine ⟨_, _, _, _, false, rfl, .ty _, .bl _, by rfl, ?_⟩
    walk_at "dd"
    exact k
  | int i =>
    refine ⟨_, _, _, _, false, rfl, .ty _, .int _, by rfl, ?_⟩
    walk_at "dd"
    exact k
  | lst l =>
    refine ⟨_, _, _, _, false, rfl, .ty _, .lst _, by rfl, ?_⟩
    walk_at "dd"
    exact k
  | tup l =>
    refine ⟨_, _, _, _, false, rfl, .ty _, .tup _, by rfl, ?_⟩
    walk_at "dd"
    exact k
/-! ### goods -/
theorem any_str {s : Str} : ∀ {ns : List Str}, ((pyL (ns.map D.str)).any fun z => PyData.eqv z (D.str s).py) = decide (s ∈ ns)
  | [] => by simp [pyL]
  | a :: ns => by
    rw [List.map_cons]
    simp only [pyL, List.any_cons]
    rw [any_str, eqv_str]
    by_cases e : a = s
    · simp [e]
    · simp [e, Ne.symm e]
def txs (ds : List D) : List Str := ds.filterMap fun d => match d with
  | .str z => some z
  | _ => none
theorem txs_map {ds : List D} (h : ds.all nmD = true) : ds = (txs ds).map .str := by
  induction ds with
  | nil => rfl
  | cons d ds ih =>
    rw [List.all_cons, Bool.and_eq_true] at h
    cases d with
    | str z =>
      show _ = D.str z :: (txs ds).map .str
      rw [← ih h.2]
    | _ => exact absurd h.1 (by simp [nmD])
/-- what is wrong with goods, by the words in their order -/
def goodsW (x : D) : Option Str :=
  if isS x = false ∨ (seqOf x).length < 1 ∨ 5 < (seqOf x).length then some "goods"
  else if (seqOf x).all nmD = false then some "name"
  else if cash ∈ txs (seqOf x) then some "cash"
  else if (txs (seqOf x)).Nodup then none else some "double"
def FewT (x : D) : Prop := ∀ d ∈ seqOf x, ∀ z, d = .str z → z.length ≤ 1000
theorem low_ok {z : Str} (h : low z = true) : ∀ c ∈ z.cps.toList, 97 ≤ c ∧ c ≤ 122 := fun c hc => by
  have q := of_decide_eq_true (List.all_eq_true.mp h c hc)
  have e : ∀ c ∈ (Str.ofString "abcdefghijklmnopqrstuvwxyz").cps.toList, 97 ≤ c ∧ c ≤ 122 := by decide +kernel
  exact e c q
theorem nmB_nm {z : Str} (h : nmB z = true) (hc : z ≠ cash) : Nm z := by
  unfold nmB at h
  rw [Bool.and_eq_true, Bool.and_eq_true] at h
  exact ⟨hc, of_decide_eq_true h.1.1, of_decide_eq_true h.1.2, low_ok h.2⟩
theorem nm_nmB {z : Str} (h : Nm z) : nmB z = true := by
  obtain ⟨_, h1, h2, h3⟩ := h
  unfold nmB low
  rw [decide_eq_true h1, decide_eq_true h2, Bool.true_and, Bool.true_and]
  exact List.all_eq_true.mpr fun c hc => decide_eq_true (in_abz (h3 c hc))
theorem txs_str {gs : List Str} : txs (gs.map .str) = gs := by
  induction gs with
  | nil => rfl
  | cons g gs ih => exact congrArg (g :: ·) ih
/-- right goods -/
theorem goodsW_none {x : D} (h : goodsW x = none) : ∃ gs, RowOf x (gs.map .str) ∧ Goods gs := by
  unfold goodsW at h
  split at h
  · cases h
  · rename_i h1
    split at h
    · cases h
    · rename_i h2
      split at h
      · cases h
      · rename_i h3
        split at h
        · rename_i h4
          have ha : (seqOf x).all nmD = true := by simpa using h2
          refine ⟨txs (seqOf x), ?_, h4, ?_, ?_, fun g hg => ?_⟩
          · rw [← txs_map ha]
            cases x <;> first | exact .inl rfl | exact .inr rfl | (exact absurd (.inl rfl) h1)
          · have := congrArg List.length (txs_map ha); rw [List.length_map] at this; omega
          · have := congrArg List.length (txs_map ha); rw [List.length_map] at this; omega
          · have hm : D.str g ∈ seqOf x := by rw [txs_map ha]; exact List.mem_map_of_mem hg
            exact nmB_nm (List.all_eq_true.mp ha _ hm) fun e => h3 (e ▸ hg)
        · cases h
theorem goodsW_ok {x : D} {gs : List Str} (hx : RowOf x (gs.map .str)) (hg : Goods gs) : goodsW x = none := by
  have e : seqOf x = gs.map .str := by rcases hx with rfl | rfl <;> rfl
  have s : isS x = true := by rcases hx with rfl | rfl <;> rfl
  unfold goodsW
  rw [e, txs_str, s, List.length_map]
  have h1 := hg.2.1
  have h2 := hg.2.2.1
  have n1 : ¬ (true = false ∨ gs.length < 1 ∨ 5 < gs.length) := by rintro (h | h | h); cases h; omega; omega
  have n2 : ¬ ((gs.map D.str).all nmD = false) := by
    simp only [Bool.not_eq_false]
    exact List.all_eq_true.mpr fun d hd => by obtain ⟨g, h, rfl⟩ := List.mem_map.mp hd; exact nm_nmB (hg.2.2.2 g h)
  have n3 : ¬ cash ∈ gs := fun h => (hg.2.2.2 _ h).1 rfl
  rw [if_neg n1, if_neg n2, if_neg n3, if_pos hg.1]
def sdGoodsX (BG : Addr) : SpD := fun as Q E => ∃ (x : D) (n : String), as = [.d x] ∧ Pl x n ∧ AllPl x ∧ FewT x ∧ (seqOf x).length ≤ 1000 ∧ (∀ gs, RowOf x (gs.map .str) → Goods gs → Q (.d (.tup (gs.map .str))) []) ∧ (∀ v, goodsW x = some v → E ⟨BG, some [("what", .str v)]⟩ [])
theorem ok_goodsX (X_BadGoods : DefX P w K mg base "BadGoods" BG ["what"]) (D_is_sequence : DefD P w K mg base "is_sequence" 1 ["thing"] sdSeqX) (D_is_name : DefD P w K mg base "is_name" 1 ["thing"] sdNameX) {f : Addr} {fd : FuncData} (G : Fun K "checked_goods" "checked_goods" s_checked_goods f fd) (T : TxtN mg) : FnOk P w K mg base (L2.CX P w) 3 f fd ["goods"] (spOf K (sdGoodsX BG)) := by
  obtain ⟨_, k__CASH⟩ := T.k__CASH
  obtain ⟨_, k__MOST_GOODS⟩ := T.k__MOST_GOODS
  refine okD G sc_checked_goods [] (fun as Q E ⟨xs, y, e, _⟩ => by subst e; exact ⟨rfl, rfl⟩) ⟨_, fun cdv A outer s H E ad F0 H0 hr => (pds_cons (psd_if (PW.pt (pwd_or (ptd_not (ptd_val (pd_call D_is_sequence.ok (hr.mono (by decide)) (by rfl) D_is_sequence.mg D_is_sequence.kp D_is_sequence.b (takes_of rfl rfl rfl rfl) (pda_cons (pd_var (pv 0)) pda_nil)) (fun h => pt_val h))) (pwd_or1 (ptd_not (ptd_chain op_le (op2_I0 fun _ _ _ => .bl _) op_le (op2_I0 fun _ _ _ => .bl _) (pd_const pe_int (fun _ => .int _)) (pd_builtB (fun h => pe_callB call_len_seq (by rfl) T.b_len (by decide +kernel) h) cn_len.op (pda_cons (pd_var (pv 0)) pda_nil)) (pd_const (pe_glob (v := (.int 5)) rfl k__MOST_GOODS ⟨_, rfl⟩) (fun _ => .int _)) (by with_unfolding_all rfl)))))) (pds_one (psd_raiseR rfl (takes_of rfl rfl rfl rfl) (fun h => pmk_oex X_BadGoods.ox X_BadGoods.ini X_BadGoods.ty X_BadGoods.ok (hr.mono (by decide)) X_BadGoods.b .nil pass0 (by rfl) X_BadGoods.mg h) (pda_cons (pd_const pe_str (fun _ => .str (by decide +kernel))) pda_nil))) pds_nil)
      (pds_cons (psd_set (i := 1) (pd_builtB (fun h => pe_callTy call_tuple_of (by rfl) T.b_tuple (by decide +kernel) h) cn_tuple (pda_cons (pd_var (pv 0)) pda_nil)) (by show ¬ (1 ∈ ([] : List Nat)); decide) sc_checked_goods.nd rfl (.inl rfl))
      (pds_cons (psd_if (ptd_not (ptd_val (pd_builtB (fun h => pe_callB (cr_all rfl) (by rfl) T.b_all (by decide +kernel) h) cn_all.op (pda_cons (pd_lc (own := [("good", 2)]) (by rfl) sc_checked_goods.nd (pid_tup (pd_var (pv 1))) (blkOk_by (own := [("good", 2)]) (N := ["goods", "told", "good"]) (sc := defScope s_checked_goods) (by decide +kernel)) (fun _ _ _ _ _ => (pgd_name (i := 2) (vs := [2]) (pg_name (i := 2) sc_checked_goods.nd rfl (.inl rfl)) (by show ¬ (2 ∈ ([] : List Nat)); decide) (by decide))) (fun _ _ _ _ _ => ptsd_nil) (fun _ _ _ _ _ => (pd_call D_is_name.ok (hr.mono (by decide)) (by rfl) D_is_name.mg D_is_name.kp D_is_name.b takes0 (pda_cons (pd_var (pv 2)) pda_nil))) (by show ∀ i ∈ ([2] : List Nat), ¬ (i ∈ ([] : List Nat)); decide)) pda_nil)) (fun h => pt_val h))) (pds_one (psd_raiseR rfl (takes_of rfl rfl rfl rfl) (fun h => pmk_oex X_BadGoods.ox X_BadGoods.ini X_BadGoods.ty X_BadGoods.ok (hr.mono (by decide)) X_BadGoods.b .nil pass0 (by rfl) X_BadGoods.mg h) (pda_cons (pd_const pe_str (fun _ => .str (by decide +kernel))) pda_nil))) pds_nil)
      (pds_cons (psd_if (ptd_cmp (op_inT (units65 hr)) (op2_inT false).op (pd_const (pe_glob (v := (.str "cash")) rfl k__CASH ⟨_, rfl⟩) (fun _ => .str (by decide +kernel))) (pd_var (pv 1)) rfl) (pds_one (psd_raiseR rfl (takes_of rfl rfl rfl rfl) (fun h => pmk_oex X_BadGoods.ox X_BadGoods.ini X_BadGoods.ty X_BadGoods.ok (hr.mono (by decide)) X_BadGoods.b .nil pass0 (by rfl) X_BadGoods.mg h) (pda_cons (pd_const pe_str (fun _ => .str (by decide +kernel))) pda_nil))) pds_nil)
      (pds_cons (psd_if (ptd_cmp op_lt (op2_I0 fun _ _ _ => .bl _) (pd_lenSet (fun h => RS.pe_lenSetT rfl (by rfl) T.b_len (by rfl) T.b_set h) (pd_var (pv 1))) (pd_builtB (fun h => pe_callB call_len_seq (by rfl) T.b_len (by decide +kernel) h) cn_len.op (pda_cons (pd_var (pv 1)) pda_nil)) (nomark _)) (pds_one (psd_raiseR rfl (takes_of rfl rfl rfl rfl) (fun h => pmk_oex X_BadGoods.ox X_BadGoods.ini X_BadGoods.ty X_BadGoods.ok (hr.mono (by decide)) X_BadGoods.b .nil pass0 (by rfl) X_BadGoods.mg h) (pda_cons (pd_const pe_str (fun _ => .str (by decide +kernel))) pda_nil))) pds_nil)
      (pds_one (psd_ret (pd_var (pv 1))))))))), ?_⟩
  rintro as Qd Ed ⟨x, n, rfl, hx, ha, hf, hl, k1, k2⟩
  refine DR.start (δ' := [some (.d x), none, none]) rfl ?_
  with_reducible refine DR.cut (fun δ => δ = [some (.d x), none, none] ∧ isS x = true ∧ 1 ≤ (seqOf x).length ∧ (seqOf x).length ≤ 5) (fun N kN => ?_) ?_
  · walk_at "dd"
    refine ⟨x, n, rfl, hx, ?_⟩
    cases q : isS x with
    | false =>
      walk_at "dd"
      exact ⟨rfl, by show 1 ≤ 1000; decide, _, rfl, k2 "goods" (by unfold goodsW; rw [if_pos (.inl q)])⟩
    | true =>
      have step : ∀ y : D, y = x → (y = .lst (seqOf x) ∨ y = .tup (seqOf x)) → True := fun _ _ _ => trivial
      have hz : (seqOf x).length ≤ sizeLine := Nat.le_trans hl (by decide)
      cases hx with
      | lst l =>
        walk_at "dd"
        by_cases c1 : 1 ≤ l.length
        · rw [show decide (1 ≤ (l.length : Int)) = true from decide_eq_true (by omega)]
          walk_at "dd"
          by_cases c2 : l.length ≤ 5
          · rw [show decide ((l.length : Int) ≤ 5) = true from decide_eq_true (by omega)]
            walk_at "dd"
            exact kN _ ⟨rfl, q, c1, c2⟩
          · rw [show decide ((l.length : Int) ≤ 5) = false from decide_eq_false (by omega)]
            walk_at "dd"
            exact ⟨rfl, by show 1 ≤ 1000; decide, _, rfl, k2 "goods" (by unfold goodsW; rw [if_pos (.inr (.inr (by show 5 < l.length; omega)))])⟩
        · rw [show decide (1 ≤ (l.length : Int)) = false from decide_eq_false (by omega)]
          walk_at "dd"
          exact ⟨rfl, by show 1 ≤ 1000; decide, _, rfl, k2 "goods" (by unfold goodsW; rw [if_pos (.inr (.inl (by show l.length < 1; omega)))])⟩
      | tup l =>
        walk_at "dd"
        by_cases c1 : 1 ≤ l.length
        · rw [show decide (1 ≤ (l.length : Int)) = true from decide_eq_true (by omega)]
          walk_at "dd"
          by_cases c2 : l.length ≤ 5
          · rw [show decide ((l.length : Int) ≤ 5) = true from decide_eq_true (by omega)]
            walk_at "dd"
            exact kN _ ⟨rfl, q, c1, c2⟩
          · rw [show decide ((l.length : Int) ≤ 5) = false from decide_eq_false (by omega)]
            walk_at "dd"
            exact ⟨rfl, by show 1 ≤ 1000; decide, _, rfl, k2 "goods" (by unfold goodsW; rw [if_pos (.inr (.inr (by show 5 < l.length; omega)))])⟩
        · rw [show decide (1 ≤ (l.length : Int)) = false from decide_eq_false (by omega)]
          walk_at "dd"
          exact ⟨rfl, by show 1 ≤ 1000; decide, _, rfl, k2 "goods" (by unfold goodsW; rw [if_pos (.inr (.inl (by show l.length < 1; omega)))])⟩
      | _ => cases q
  rintro δ ⟨rfl, q, c1, c2⟩
  with_reducible refine DR.cut (fun δ => δ = [some (.d x), some (.d (.tup (seqOf x))), none]) (fun N kN => ?_) ?_
  · walk_at "dd"
    cases hx with
    | lst l => exact ⟨_, _, rfl, .inl rfl, by walk_at "dd"; exact kN _ rfl⟩
    | tup l => exact ⟨_, _, rfl, .inr (.inr rfl), by walk_at "dd"; exact kN _ rfl⟩
    | _ => cases q
  rintro δ rfl
  walk_at "dd"
  refine DR.lc_map (fun d => D.bl (nmD d)) (fun d acc N hd hl kN => ?_) ?_
  · obtain ⟨m, hm⟩ := ha d hd
    walk_at "dd"
    refine ⟨d, m, rfl, hm, hf d hd, ?_⟩
    exact ⟨Nat.lt_of_lt_of_le hl (Nat.le_trans c2 (by decide)), kN⟩
  walk_at "dd"
  refine ⟨(seqOf x).map nmD, .inl (by rw [List.map_map]; rfl), ?_⟩
  dsimp only
  rw [List.all_map]
  have n1 : ¬ (isS x = false ∨ (seqOf x).length < 1 ∨ 5 < (seqOf x).length) := by rintro (h | h | h); (rw [q] at h; cases h); omega; omega
  cases hn : (seqOf x).all nmD with
  | false =>
    rw [show (seqOf x).all (id ∘ nmD) = false from hn]
    walk_at "dd"
    exact ⟨rfl, by show 1 ≤ 1000; decide, _, rfl, k2 "name" (by unfold goodsW; rw [if_neg n1, if_pos hn])⟩
  | true =>
    rw [show (seqOf x).all (id ∘ nmD) = true from hn]
    have n2 : ¬ ((seqOf x).all nmD = false) := by rw [hn]; exact Bool.noConfusion
    have em := txs_map hn
    have hlen : (txs (seqOf x)).length = (seqOf x).length := by have := congrArg List.length em; rw [List.length_map] at this; omega
    rw [em]
    walk_at "dd"
    refine ⟨_, .inr rfl, dp_str.cmp, (dp_strs _).cmp, ?_⟩
    rw [if_neg Bool.false_ne_true, show ((pyL ((txs (seqOf x)).map D.str)).any fun z => PyData.eqv z (DV.d (D.str "cash")).toD.py) = decide (cash ∈ txs (seqOf x)) from any_str]
    refine ⟨DR.nost_b, _, rfl, ?_⟩
    refine DR.split (fun c => ?_) (fun c => ?_)
    · walk_at "dd"
      exact ⟨rfl, by show 1 ≤ 1000; decide, _, rfl, k2 "cash" (by unfold goodsW; rw [if_neg n1, if_neg n2, if_pos c])⟩
    · walk_at "dd"
      refine ⟨by omega, ?_⟩
      walk_at "dd"
      refine DR.split (fun c2 => ?_) (fun c2 => ?_)
      · rw [List.length_map] at c2
        have nd := (RS.uniq_lt (txs (seqOf x))).mp (by omega)
        walk_at "dd"
        exact ⟨rfl, by show 1 ≤ 1000; decide, _, rfl, k2 "double" (by unfold goodsW; rw [if_neg n1, if_neg n2, if_neg c, if_neg nd])⟩
      · rw [List.length_map] at c2
        have nd : (txs (seqOf x)).Nodup := Decidable.byContradiction fun h => c2 (by have := (RS.uniq_lt (txs (seqOf x))).mpr h; omega)
        walk_at "dd"
        obtain ⟨gs, hr, hg⟩ := goodsW_none (x := x) (by unfold goodsW; rw [if_neg n1, if_neg n2, if_neg c, if_pos nd])
        have e2 : txs (seqOf x) = gs := by rcases hr with rfl | rfl <;> exact txs_str
        rw [e2]
        exact k1 gs hr hg
end
end KT

set_option Elab.async false
set_option linter.all false
set_option maxRecDepth 100000
set_option maxHeartbeats 0
set_option pp.deepTerms false
set_option pp.deepTerms.threshold 8


namespace KT
open PySem PySem.Spec PyProof.Rows L2 DL
abbrev ppD (p : Str × Int) : D := .tup [.str p.1, .int p.2]
/-- what a position holds -/
def posFs (gs : List Str) (js : List Int) : List (Str × D) := [("goods", .tup (gs.map .str)), ("counts", .tup (js.map .int)), ("_rows", .tup ((gs.zip js).map ppD))]
abbrev posD (C : Addr) (gs : List Str) (js : List Int) : D := .obj C (posFs gs js)
/-- a right position -/
def Po (gs : List Str) (js : List Int) : Prop := Goods gs ∧ js.length = gs.length
theorem zip_pp : ∀ {gs : List Str} {js : List Int}, zipL (gs.map .str) (js.map .int) = (gs.zip js).map ppD
  | [], _ => rfl
  | _ :: _, [] => rfl
  | g :: gs, j :: js => congrArg (D.tup [.str g, .int j] :: ·) (zip_pp (gs := gs) (js := js))
theorem itF {c : Bool} {a b : Prop} (e : c = false) (h : b) : if c = true then a else b := by rw [e, if_neg Bool.false_ne_true]; exact h
structure TxtP (K : PySem.W.Frag) (mg : Str → Option Value) (C BR : Addr) : Prop extends TxtN mg where
  cl_Position : Cls K C
  na_Position : ∀ n : Str, (["goods", "counts", "_rows"] : List Str).contains n = true → NoAttr K C n
  c_Position : mg "Position" = some (.ref C)
  b_sum : mg "sum" = none
theorem isN_ok {y : D} {js : List Int} (hy : RowOf y (js.map .int)) : isR js.length y = true ∧ isN js.length y = true := by
  have e : seqOf y = js.map .int := by rcases hy with rfl | rfl <;> rfl
  have s : isS y = true := by rcases hy with rfl | rfl <;> rfl
  have r : isR js.length y = true := by unfold isR; rw [s, e, List.length_map, decide_eq_true rfl]; rfl
  refine ⟨r, ?_⟩
  unfold isN
  rw [r, e, Bool.true_and]
  exact List.all_eq_true.mpr fun d hd => by obtain ⟨i, _, rfl⟩ := List.mem_map.mp hd; rfl
theorem pl_row {x : D} {xs : List D} (h : RowOf x xs) : ∃ n, Pl x n := by rcases h with rfl | rfl; exact ⟨_, .lst _⟩; exact ⟨_, .tup _⟩
theorem allpl_ints {x : D} {js : List Int} (h : RowOf x (js.map .int)) : AllPl x := fun d hd => by
  have e : seqOf x = js.map .int := by rcases h with rfl | rfl <;> rfl
  rw [e] at hd; obtain ⟨g, _, rfl⟩ := List.mem_map.mp hd; exact ⟨_, .int _⟩
/-- what may be passed for goods, for counts -/
structure GA (x : D) : Prop where
  pl : ∃ n, Pl x n
  all : AllPl x
  few : FewT x
  len : (seqOf x).length ≤ 1000
structure CA (y : D) : Prop where
  pl : ∃ n, Pl y n
  all : AllPl y
  len : (seqOf y).length ≤ 1000
/-- what is wrong with counts of n goods -/
def cntW (n : Nat) (y : D) : Option Str := if isR n y = false then some ("counts" : Str) else if isN n y = false then some ("count" : Str) else none
theorem cntW_none {n : Nat} {y : D} (h : cntW n y = none) : ∃ js : List Int, RowOf y (js.map .int) ∧ js.length = n := by
  unfold cntW at h
  split at h
  · cases h
  · rename_i h1
    split at h
    · cases h
    · rename_i h2
      have r : isR n y = true := by simpa using h1
      have m : isN n y = true := by simpa using h2
      have ml : n = (seqOf y).length ∧ isS y = true := by
        unfold isR at r
        rw [Bool.and_eq_true] at r
        exact ⟨(of_decide_eq_true r.2).symm, r.1⟩
      have all : (seqOf y).all isI = true := by
        unfold isN at m
        rw [Bool.and_eq_true] at m
        exact m.2
      have key : ∀ l : List D, l.all isI = true → ∃ js : List Int, l = js.map .int := by
        intro l
        induction l with
        | nil => exact fun _ => ⟨[], rfl⟩
        | cons d l ih =>
          intro ha
          rw [List.all_cons, Bool.and_eq_true] at ha
          obtain ⟨js, rfl⟩ := ih ha.2
          cases d with
          | int i => exact ⟨i :: js, rfl⟩
          | _ => exact absurd ha.1 Bool.false_ne_true
      obtain ⟨js, e⟩ := key _ all
      refine ⟨js, ?_, by rw [ml.1, e, List.length_map]⟩
      cases y <;> first | (exact .inl (congrArg _ e)) | (exact .inr (congrArg _ e)) | cases ml.2
theorem cntW_ok {y : D} {js : List Int} (h : RowOf y (js.map .int)) : cntW js.length y = none := by
  have z := isN_ok h
  unfold cntW
  rw [z.1, z.2]
  rfl
section
variable {P : Program} {w : World} {K : PySem.W.Frag} {mg : Str → Option Value} {base : Heap} {C BG BP BR NA : Addr}
theorem goods_any {x : D} {Q : DV → List OC → Prop} {E : Ex → List OC → Prop} (h : GA x) (k1 : ∀ gs, RowOf x (gs.map .str) → Goods gs → Q (.d (.tup (gs.map .str))) []) (k2 : ∀ v, goodsW x = some v → E ⟨BG, some [("what", .str v)]⟩ []) : sdGoodsX BG [.d x] Q E := by
  obtain ⟨n, hn⟩ := h.pl
  exact ⟨x, n, rfl, hn, h.all, h.few, h.len, k1, k2⟩
def sdPInit (C BG BP : Addr) : SpD := fun as Q E => ∃ x y : D, as = [.own (.ins C []), .d x, .d y] ∧ GA x ∧ CA y ∧ (∀ gs js, RowOf x (gs.map .str) → RowOf y (js.map .int) → Po gs js → Q (.d .non) [.ins C (posFs gs js)]) ∧
  (∀ v, goodsW x = some v → ∀ o, E ⟨BG, some [("what", .str v)]⟩ [o]) ∧ (∀ gs, RowOf x (gs.map .str) → Goods gs → ∀ v, cntW gs.length y = some v → ∀ o, E ⟨BP, some [("what", .str v)]⟩ [o])
abbrev s_Position___init : Stmt := inClass (top 24) 0
theorem sc_Position___init : FnScope ["self", "goods", "counts"] ["self", "goods", "counts"] (defScope s_Position___init) := ⟨rfl, rfl, rfl, by decide +kernel, rfl, by decide +kernel, by decide +kernel⟩
theorem ok_pinit (X_BadPosition : DefX P w K mg base "BadPosition" BP ["what"]) (D_checked_goods : DefD P w K mg base "checked_goods" 3 ["goods"] (sdGoodsX BG)) (D_is_row : DefD P w K mg base "is_row" 3 ["thing", "length"] sdRowX) (D_is_number_row : DefD P w K mg base "is_number_row" 5 ["thing", "length"] sdNumX) {f : Addr} {fd : FuncData} (G : Fun K "__init__" "Position.__init__" s_Position___init f fd) (T : TxtP K mg C BR) : FnOk P w K mg base (L2.CX P w) 7 f fd ["self", "goods", "counts"] (spOf K (sdPInit C BG BP)) := by
  refine okD G sc_Position___init [0] (fun as Q E ⟨x, y, e, _⟩ => by subst e; exact ⟨rfl, rfl⟩) ⟨_, fun cdv A outer s H E ad F0 H0 hr => (pds_cons (psd_fld (i := 0) (pv 0) (pd_call D_checked_goods.ok (hr.mono (by decide)) (by rfl) D_checked_goods.mg D_checked_goods.kp D_checked_goods.b (takes_of rfl rfl rfl rfl) (pda_cons (pd_var (pv 1)) pda_nil)) T.cl_Position (T.na_Position _ (by decide)) rfl)
      (pds_cons (psd_if (ptd_not (ptd_val (pd_call D_is_row.ok (hr.mono (by decide)) (by rfl) D_is_row.mg D_is_row.kp D_is_row.b (takes_of rfl rfl rfl rfl) (pda_cons (pd_var (pv 2)) (pda_cons (pd_builtB (fun h => pe_callB call_len_seq (by rfl) T.b_len (by decide +kernel) h) cn_len.op (pda_cons (pd_fldO (i := 0) (pv 0) T.cl_Position (T.na_Position _ (by decide)) rfl) pda_nil)) pda_nil))) (fun h => pt_val h))) (pds_one (psd_raiseR rfl (takes_of rfl rfl rfl rfl) (fun h => pmk_oex X_BadPosition.ox X_BadPosition.ini X_BadPosition.ty X_BadPosition.ok (hr.mono (by decide)) X_BadPosition.b .nil pass0 (by rfl) X_BadPosition.mg h) (pda_cons (pd_const pe_str (fun _ => .str (by decide +kernel))) pda_nil))) pds_nil)
      (pds_cons (psd_if (ptd_not (ptd_val (pd_call D_is_number_row.ok (hr.mono (by decide)) (by rfl) D_is_number_row.mg D_is_number_row.kp D_is_number_row.b (takes_of rfl rfl rfl rfl) (pda_cons (pd_var (pv 2)) (pda_cons (pd_builtB (fun h => pe_callB call_len_seq (by rfl) T.b_len (by decide +kernel) h) cn_len.op (pda_cons (pd_fldO (i := 0) (pv 0) T.cl_Position (T.na_Position _ (by decide)) rfl) pda_nil)) pda_nil))) (fun h => pt_val h))) (pds_one (psd_raiseR rfl (takes_of rfl rfl rfl rfl) (fun h => pmk_oex X_BadPosition.ox X_BadPosition.ini X_BadPosition.ty X_BadPosition.ok (hr.mono (by decide)) X_BadPosition.b .nil pass0 (by rfl) X_BadPosition.mg h) (pda_cons (pd_const pe_str (fun _ => .str (by decide +kernel))) pda_nil))) pds_nil)
      (pds_cons (psd_fld (i := 0) (pv 0) (pd_builtB (fun h => pe_callTy call_tuple_of (by rfl) T.b_tuple (by decide +kernel) h) cn_tuple (pda_cons (pd_var (pv 2)) pda_nil)) T.cl_Position (T.na_Position _ (by decide)) rfl)
      (pds_one (psd_fld (i := 0) (pv 0) (pd_tzip rfl (by rfl) T.b_tuple (by rfl) T.b_zip (pda_cons (pd_fldO (i := 0) (pv 0) T.cl_Position (T.na_Position _ (by decide)) rfl) (pda_cons (pd_fldO (i := 0) (pv 0) T.cl_Position (T.na_Position _ (by decide)) rfl) pda_nil))) T.cl_Position (T.na_Position _ (by decide)) rfl)))))), ?_⟩
  rintro as Qd Ed ⟨x, y, rfl, hx, hy, k1, k2, k3⟩
  refine DR.start (δ' := [some (.own (.ins C [])), some (.d x), some (.d y)]) rfl ?_
  walk_at "dd"
  refine goods_any hx (fun gs hxr hg => ?_) fun v hv => ?_
  · obtain ⟨n, pl⟩ := hy.pl
    have hlen : gs.length ≤ 1000 := Nat.le_trans hg.2.2.1 (by decide)
    walk_at "dd"
    refine ⟨y, n, gs.length, by rw [List.length_map]; rfl, pl, hlen, ?_⟩
    cases q : isR gs.length y with
    | false =>
      walk_at "dd"
      refine ⟨rfl, by show 1 ≤ 1000; decide, ?_⟩
      walk_at "dd"
      exact k3 gs hxr hg _ (by unfold cntW; exact if_pos q) _
    | true =>
      walk_at "dd"
      refine ⟨y, n, gs.length, by rw [List.length_map]; rfl, pl, hy.all, hlen, ?_⟩
      have nq : ¬ isR gs.length y = false := by rw [q]; exact Bool.noConfusion
      cases q2 : isN gs.length y with
      | false =>
        walk_at "dd"
        refine ⟨rfl, by show 1 ≤ 1000; decide, ?_⟩
        walk_at "dd"
        exact k3 gs hxr hg _ (by unfold cntW; rw [if_neg nq]; exact if_pos q2) _
      | true =>
        have nq2 : ¬ isN gs.length y = false := by rw [q2]; exact Bool.noConfusion
        obtain ⟨js, hyr, hl⟩ := cntW_none (n := gs.length) (y := y) (by unfold cntW; rw [if_neg nq]; exact if_neg nq2)
        have k := k1 gs js hxr hyr ⟨hg, hl⟩
        walk_at "dd"
        have k : Qd (.d .non) [.ins C [("goods", .tup (gs.map .str)), ("counts", .tup (js.map .int)), ("_rows", .tup (zipL (gs.map .str) (js.map .int)))]] := by rw [zip_pp]; exact k
        have jl : js.length ≤ 1000 := by omega
        rcases hyr with rfl | rfl
        · refine ⟨_, _, rfl, .inl rfl, ?_⟩
          walk_at "dd"
          refine ⟨by rw [List.length_map, List.length_map, hl], by rw [List.length_map]; exact hlen, ?_⟩
          walk_at "dd"
          exact k
        · refine ⟨_, _, rfl, .inr (.inr rfl), ?_⟩
          walk_at "dd"
          refine ⟨by rw [List.length_map, List.length_map, hl], by rw [List.length_map]; exact hlen, ?_⟩
          walk_at "dd"
          exact k
  · walk_at "dd"
    exact k2 v hv _
/-! ### reading a position: no asset -/
theorem eqv_ds {g : Str} {a : D} (h : a ≠ .str g) (c : Cmp a) : PyData.eqv (D.str g).py a.py = false := by
  obtain ⟨p, _⟩ := c
  cases a with
  | str z =>
    rw [eqv_str]
    exact decide_eq_false fun e => h (congrArg _ e.symm)
  | ty _ => cases p
  | adr _ => cases p
  | obj _ _ => cases p
  | dT _ => cases p
  | dK _ => cases p
  | exc _ _ _ _ _ => cases p
  | gho _ _ => cases p
  | _ => simp only [D.py, PyData.eqv]
theorem zip_ints : ∀ {js ks : List Int}, zipL (js.map .int) (ks.map .int) = (js.zip ks).map fun p => .tup [.int p.1, .int p.2]
  | [], _ => rfl
  | _ :: _, [] => rfl
  | j :: js, k :: ks => congrArg (D.tup [.int j, .int k] :: ·) (zip_ints (js := js) (ks := ks))
theorem zip_with {f : Int → Int → Int} : ∀ {js ks : List Int}, (js.zip ks).map (fun p => D.int (f p.1 p.2)) = (js.zipWith f ks).map .int
  | [], _ => rfl
  | _ :: _, [] => rfl
  | j :: js, k :: ks => congrArg (D.int (f j k) :: ·) (zip_with (js := js) (ks := ks))
end
end KT

set_option Elab.async false
set_option linter.all false
set_option maxRecDepth 100000
set_option maxHeartbeats 0
set_option pp.deepTerms false
set_option pp.deepTerms.threshold 8


namespace KT
open PySem PySem.Spec PyProof.Rows L2 DL
section
variable {P : Program} {w : World} {K : PySem.W.Frag} {mg : Str → Option Value} {base : Heap} {C BG BP BR NA : Addr}
theorem ga_row {x : D} {gs : List Str} (hx : RowOf x (gs.map .str)) (hg : Goods gs) : GA x := by
  have e : seqOf x = gs.map .str := by rcases hx with rfl | rfl <;> rfl
  refine ⟨pl_row hx, fun d hd => ?_, fun d hd z hz => ?_, ?_⟩
  · rw [e] at hd; obtain ⟨g, _, rfl⟩ := List.mem_map.mp hd; exact ⟨_, .str _⟩
  · rw [e] at hd; obtain ⟨g, h, rfl⟩ := List.mem_map.mp hd; cases hz; exact Nat.le_trans (hg.2.2.2 _ h).2.2.1 (by decide)
  · rw [e, List.length_map]; exact Nat.le_trans hg.2.2.1 (by decide)
theorem ca_row {y : D} {js : List Int} (hy : RowOf y (js.map .int)) (hl : js.length ≤ 1000) : CA y := by
  have e : seqOf y = js.map .int := by rcases hy with rfl | rfl <;> rfl
  exact ⟨pl_row hy, allpl_ints hy, by rw [e, List.length_map]; exact hl⟩
theorem row_same {x : D} {gs hs : List Str} (a : RowOf x (gs.map .str)) (b : RowOf x (hs.map .str)) : gs = hs := by
  have e1 : txs (seqOf x) = gs := by rcases a with rfl | rfl <;> exact txs_str
  have e2 : txs (seqOf x) = hs := by rcases b with rfl | rfl <;> exact txs_str
  exact e1.symm.trans e2
theorem ints_same {y : D} {js ks : List Int} (a : RowOf y (js.map .int)) (b : RowOf y (ks.map .int)) : js = ks := by
  have e1 : seqOf y = js.map .int := by rcases a with rfl | rfl <;> rfl
  have e2 : seqOf y = ks.map .int := by rcases b with rfl | rfl <;> rfl
  have e := e1.symm.trans e2
  exact (List.map_inj_right (fun _ _ h => D.int.inj h)).mp e
/-- the class is called with right ones -/
theorem init_ok {x y : D} {gs : List Str} {js : List Int} {Q : DV → List OC → Prop} {E : Ex → List OC → Prop} (hx : RowOf x (gs.map .str)) (hy : RowOf y (js.map .int)) (hp : Po gs js) (k : Q (.d .non) [.ins C (posFs gs js)]) : sdPInit C BG BP [.own (.ins C []), .d x, .d y] Q E := by
  refine ⟨x, y, rfl, ga_row hx hp.1, ca_row hy (by rw [hp.2]; exact Nat.le_trans hp.1.2.2.1 (by decide)), fun gs2 js2 h1 h2 _ => ?_, fun v hv o => ?_, fun gs2 h1 _ v hv o => ?_⟩
  · rw [← row_same hx h1, ← ints_same hy h2]; exact k
  · rw [goodsW_ok hx hp.1] at hv; cases hv
  · rw [← row_same hx h1, ← hp.2, cntW_ok hy] at hv; cases hv
theorem any_ne {a : D} (c : Cmp a) : ∀ {gs : List Str}, (∀ g ∈ gs, a ≠ .str g) → ((pyL (gs.map D.str)).any fun z => PyData.eqv z a.py) = false
  | [], _ => by simp [pyL]
  | g :: gs, h => by
    rw [List.map_cons]
    simp only [pyL, List.any_cons]
    rw [any_ne c fun g hg => h g (List.mem_cons_of_mem _ hg), eqv_ds (h g List.mem_cons_self) c]
    rfl
def sdPSingle (C BG BP NA : Addr) : SpD := fun as Q E => ∃ x a n : D, as = [.d (.adr C), .d x, .d a, .d n] ∧ GA x ∧ Cmp a ∧ (∃ t, Pl n t) ∧ (∀ v, goodsW x = some v → E ⟨BG, some [("what", .str v)]⟩ []) ∧
  (∀ gs, RowOf x (gs.map .str) → Goods gs → ((∀ g ∈ gs, a ≠ .str g) → E ⟨NA, some [("name", a)]⟩ []) ∧ ∀ g ∈ gs, a = .str g → (∀ i, n = .int i → Q (.d (posD C gs (gs.map fun b => if b = g then i else 0))) []) ∧ (isI n = false → E ⟨BP, some [("what", .str "count")]⟩ []))
abbrev s_Position_single : Stmt := inClass (top 24) 2
theorem sc_Position_single : FnScope ["cls", "goods", "good", "count", "told", "one"] ["cls", "goods", "good", "count"] (defScope s_Position_single) := ⟨rfl, rfl, rfl, by decide +kernel, rfl, by decide +kernel, by decide +kernel⟩
theorem ok_psingle (X_NoAsset : DefX P w K mg base "NoAsset" NA ["name"]) (D_checked_goods : DefD P w K mg base "checked_goods" 3 ["goods"] (sdGoodsX BG)) (K_Position : DefK P w K mg base C 7 3 ["self", "goods", "counts"] [] [] (sdPInit C BG BP)) {f : Addr} {fd : FuncData} (G : FunD K "single" "Position.single" (defArgs s_Position_single) (defBody s_Position_single) (defScope s_Position_single) [.int 1] [] f fd) (T : TxtP K mg C BR) : FnOk P w K mg base (L2.CX P w) 9 f fd ["cls", "goods", "good", "count"] (spOf K (sdPSingle C BG BP NA)) := by
  refine okDD G sc_Position_single [] (fun as Q E ⟨x, a, n, e, _⟩ => by subst e; exact ⟨rfl, rfl⟩) ⟨_, fun cdv A outer s H E ad F0 H0 hr => (pds_cons (psd_set (i := 4) (pd_call D_checked_goods.ok (hr.mono (by decide)) (by rfl) D_checked_goods.mg D_checked_goods.kp D_checked_goods.b (takes_of rfl rfl rfl rfl) (pda_cons (pd_var (pv 1)) pda_nil)) (by show ¬ (4 ∈ ([] : List Nat)); decide) sc_Position_single.nd rfl (.inl rfl))
      (pds_cons (psd_if (ptd_cmp (op_notInT (units65 hr)) (op2_inT true).op (pd_var (pv 2)) (pd_var (pv 4)) rfl) (pds_one (psd_raiseR rfl (takes_of rfl rfl rfl rfl) (fun h => pmk_oex X_NoAsset.ox X_NoAsset.ini X_NoAsset.ty X_NoAsset.ok (hr.mono (by decide)) X_NoAsset.b .nil pass0 (by rfl) X_NoAsset.mg h) (pda_cons (pd_var (pv 2)) pda_nil))) pds_nil)
      (pds_one (psd_ret (pd_newL (i := 0) (n := 2) K_Position.mkc K_Position.ok (hr.mono (by decide)) (by rfl) (.inl rfl) K_Position.kb0 (fun _ => .nil) (fun _ _ _ => rfl) (takes_of rfl rfl rfl rfl) (pda_cons (pd_var (pv 4)) (pda_cons (pd_lc (own := [("one", 5)]) (by rfl) sc_Position_single.nd (pid_tup (pd_var (pv 4))) (blkOk_by (own := [("one", 5)]) (N := ["cls", "goods", "good", "count", "told", "one"]) (sc := defScope s_Position_single) (by decide +kernel)) (fun _ _ _ _ _ => (pgd_name (i := 5) (vs := [5]) (pg_name (i := 5) sc_Position_single.nd rfl (.inl rfl)) (by show ¬ (5 ∈ ([] : List Nat)); decide) (by decide))) (fun _ _ _ _ _ => ptsd_nil) (fun _ _ _ _ _ => (pd_ifExp (ptd_cmp (op_eqD hr.units) op2_eqD.op (pd_var (pv 5)) (pd_var (pv 2)) (nomark _)) (pd_var (pv 3)) (pd_const pe_int (fun _ => .int _)))) (by show ∀ i ∈ ([5] : List Nat), ¬ (i ∈ ([] : List Nat)); decide)) pda_nil)) pkd_nil))))), ?_⟩
  rintro as Qd Ed ⟨x, a, n, rfl, hx, ca, pn, k1, k2⟩
  refine DR.start (δ' := [some (.d (.adr C)), some (.d x), some (.d a), some (.d n), none, none]) rfl ?_
  walk_at "dd"
  refine goods_any hx (fun gs hxr hg => ?_) fun v hv => ?_
  · obtain ⟨kn, ks⟩ := k2 gs hxr hg
    walk_at "dd"
    refine ⟨_, .inr rfl, ca, (dp_strs _).cmp, ?_⟩
    by_cases hm : ∃ g ∈ gs, a = .str g
    · obtain ⟨g, hgm, rfl⟩ := hm
      rw [if_pos rfl, show ((pyL (gs.map D.str)).any fun z => PyData.eqv z (DV.d (D.str g)).toD.py) = decide (g ∈ gs) from any_str, decide_eq_true hgm]
      refine ⟨DR.nost_b, _, rfl, ?_⟩
      walk_at "dd"
      obtain ⟨ki, ko⟩ := ks g hgm rfl
      refine DR.lc_mapM (l := gs) (r := D.str) (fun b => if b = g then n else .int 0) (fun b acc N hb hl3 kN => ?_) ?_
      · walk_at "dd"
        have al : acc.length < sizeLine := Nat.lt_of_lt_of_le hl3 (Nat.le_trans hg.2.2.1 (show 5 ≤ sizeLine by decide))
        refine eqd_t dp_str.cmp dp_str.cmp eqv_str ?_
        walk_at "dd"
        refine DR.split (fun c => ?_) (fun c => ?_)
        · rw [if_pos c] at kN
          walk_at "dd"
          exact ⟨al, kN⟩
        · rw [if_neg c] at kN
          walk_at "dd"
          exact ⟨al, kN⟩
      walk_at "dd"
      refine ⟨rfl, ?_⟩
      walk_at "dd"
      refine ⟨rfl, ?_⟩
      obtain ⟨t, pn⟩ := pn
      cases q : isI n with
      | true =>
        obtain ⟨i, rfl⟩ : ∃ i, n = .int i := by cases pn <;> first | exact ⟨_, rfl⟩ | cases q
        rw [show (gs.map fun b => if b = g then D.int i else .int 0) = (gs.map fun b => if b = g then i else 0).map D.int by
          rw [List.map_map]; exact List.map_congr_left fun b _ => by by_cases e : b = g <;> simp [e]]
        refine init_ok (.inr rfl) (.inl rfl) ⟨hg, by rw [List.length_map]⟩ ?_
        exact ⟨rfl, _, _, rfl, _, rfl, ki i rfl⟩
      | false =>
        have hin : ∀ b ∈ gs, ∃ t, Pl (if b = g then n else .int 0) t := fun b _ => by by_cases e : b = g; (rw [if_pos e]; exact ⟨_, pn⟩); (rw [if_neg e]; exact ⟨_, .int 0⟩)
        refine ⟨_, _, rfl, ga_row (.inr rfl) hg, ⟨⟨_, .lst _⟩, fun d hd => ?_, ?_⟩, fun gs2 js h1 h2 hp => ?_, fun v hv o => ?_, fun gs2 h1 h2 v hv o => ?_⟩
        · obtain ⟨b, hb, rfl⟩ := List.mem_map.mp hd
          exact hin b hb
        · show (gs.map _).length ≤ 1000
          rw [List.length_map]; exact Nat.le_trans hg.2.2.1 (by decide)
        · exfalso
          have e : (gs.map fun b => if b = g then n else .int 0) = js.map .int := by rcases h2 with h2 | h2; (injection h2); cases h2
          have m : n ∈ js.map D.int := by rw [← e]; exact List.mem_map.mpr ⟨g, hgm, if_pos rfl⟩
          obtain ⟨i, _, rfl⟩ := List.mem_map.mp m
          cases q
        · have hv : goodsW (.tup (gs.map .str)) = some v := hv
          rw [goodsW_ok (.inr rfl) hg] at hv; cases hv
        · have e : gs = gs2 := row_same (x := .tup (gs.map .str)) (.inr rfl) h1
          subst e
          have r : isR gs.length (.lst (gs.map fun b => if b = g then n else .int 0)) = true := by
            unfold isR seqOf isS; rw [List.length_map, decide_eq_true rfl]; rfl
          have m : isN gs.length (.lst (gs.map fun b => if b = g then n else .int 0)) = false := by
            unfold isN
            rw [r, Bool.true_and]
            refine Bool.eq_false_iff.mpr fun h => ?_
            have := List.all_eq_true.mp h n (List.mem_map.mpr ⟨g, hgm, if_pos rfl⟩)
            rw [q] at this
            cases this
          have hv : cntW gs.length (.lst (gs.map fun b => if b = g then n else .int 0)) = some v := hv
          unfold cntW at hv
          rw [r, m] at hv
          obtain rfl := Option.some.inj hv
          exact ⟨_, _, rfl, _, rfl, ko q⟩
    · have no : ∀ g ∈ gs, a ≠ .str g := fun g hg e => hm ⟨g, hg, e⟩
      rw [if_pos rfl, show ((pyL (gs.map D.str)).any fun z => PyData.eqv z (DV.d a).toD.py) = false from any_ne ca no]
      refine ⟨DR.nost_b, _, rfl, ?_⟩
      walk_at "dd"
      refine ⟨rfl, by show 1 ≤ 1000; decide, ?_⟩
      walk_at "dd"
      exact kn no
  · walk_at "dd"
    exact k1 v hv
end
end KT

set_option Elab.async false
set_option linter.all false
set_option maxRecDepth 100000
set_option maxHeartbeats 0
set_option pp.deepTerms false
set_option pp.deepTerms.threshold 8


namespace KT
open PySem PySem.Spec PyProof.Rows L2 DL
theorem atI_map {f : α → β} {xs : List α} {i : Nat} {x : α} (h : xs[i]? = some x) : atI (xs.map f) (i : Int) = some (f x) := by
  unfold atI
  rw [List.length_map]
  have hl : i < xs.length := by
    rcases Nat.lt_or_ge i xs.length with h1 | h1
    · exact h1
    · rw [List.getElem?_eq_none h1] at h; cases h
  have e : ixN xs.length (i : Int) = some i := by
    unfold ixN
    rw [if_pos (by omega)]
    simp [hl]
  rw [e]
  show (xs.map f)[i]? = _
  rw [List.getElem?_map, h]
  rfl
/-- a bag of draws -/
def Bg (ys : List D) : Prop := ∃ x y : Int, ys = [.int x, .int y] ∧ 0 ≤ x ∧ 0 ≤ y ∧ y < 2147483647
section
variable {P : Program} {w : World} {K : PySem.W.Frag} {mg : Str → Option Value} {base : Heap} {C OG BG : Addr}
def sdTake : SpD := fun as Q _ => ∃ (ys : List D) (m : Int), as = [.own (.lst ys), .d (.int m)] ∧ Bg ys ∧ 0 < m ∧ m < 2 ^ 64 ∧ ∀ (r : Int) (ys : List D), 0 ≤ r → r < m → Bg ys → Q (.d (.int r)) [.lst ys]
abbrev s_law_take : Stmt := top 35
theorem sc_law_take : FnScope ["_law_bag_here", "_law_many", "_law_digit"] ["_law_bag_here", "_law_many"] (defScope s_law_take) := ⟨rfl, rfl, rfl, by decide +kernel, rfl, by decide +kernel, by decide +kernel⟩
theorem ok_take {f : Addr} {fd : FuncData} (G : Fun K "_law_take" "_law_take" s_law_take f fd) (T : TxtB mg) : FnOk P w K mg base (L2.CX P w) 1 f fd ["_law_bag_here", "_law_many"] (spOf K sdTake) := by
  refine okD G sc_law_take [0] (fun as Q E ⟨ys, m, e, _⟩ => by subst e; exact ⟨rfl, rfl⟩) ⟨_, fun cdv A outer s H E ad F0 H0 hr => (pds_cons (psd_if (ptd_cmp op_gt (op2_I0 fun _ _ _ => .bl _) (pd_ixO (i := 0) (pv 0) (pd_const pe_int (fun _ => .int _)) (fun _ _ => rfl)) (pd_const pe_int (fun _ => .int _)) (nomark _)) (pds_cons (psd_set (i := 2) (pd_op op_mod (op2_I fun _ _ _ => .int _) (pd_builtB (fun h => pe_callTy call_int1 (by rfl) T.b_int (by decide +kernel) h) cn_int.op (pda_cons (pd_ixO (i := 0) (pv 0) (pd_const pe_int (fun _ => .int _)) (fun _ _ => rfl)) pda_nil)) (pd_var (pv 1))) (by show ¬ (2 ∈ ([0] : List Nat)); decide) sc_law_take.nd rfl (.inl rfl))
      (pds_cons (psd_setItem (j := 0) (fun h g => ps_asg h g) (fun ho hi hs => pg_sub ho hi hs) (pv 0) (pd_op op_fdivW (op2_I fun _ _ _ => .int _) (pd_ixO (i := 0) (pv 0) (pd_const pe_int (fun _ => .int _)) (fun _ _ => rfl)) (pd_var (pv 1))) (pd_const pe_int (fun _ => .int _)))
      (pds_one (psd_ret (pd_var (pv 2)))))) pds_nil)
      (pds_cons (psd_setItem (j := 0) (fun h g => ps_asg h g) (fun ho hi hs => pg_sub ho hi hs) (pv 0) (pd_op op_mod (op2_I fun _ _ _ => .int _) (pd_builtB (fun h => pe_callTy call_int1 (by rfl) T.b_int (by decide +kernel) h) cn_int.op (pda_cons (pd_op op_add (op2_I0 fun _ _ _ => .int _) (pd_op op_mul (op2_I fun _ _ _ => .int _) (pd_ixO (i := 0) (pv 0) (pd_const pe_int (fun _ => .int _)) (fun _ _ => rfl)) (pd_const pe_int (fun _ => .int _))) (pd_const pe_int (fun _ => .int _))) pda_nil)) (pd_const pe_int (fun _ => .int _))) (pd_const pe_int (fun _ => .int _)))
      (pds_one (psd_ret (pd_op op_mod (op2_I fun _ _ _ => .int _) (pd_op op_fdivW (op2_I fun _ _ _ => .int _) (pd_op op_mod (op2_I fun _ _ _ => .int _) (pd_builtB (fun h => pe_callTy call_int1 (by rfl) T.b_int (by decide +kernel) h) cn_int.op (pda_cons (pd_op op_mul (op2_I fun _ _ _ => .int _) (pd_op op_fdivW (op2_I fun _ _ _ => .int _) (pd_ixO (i := 0) (pv 0) (pd_const pe_int (fun _ => .int _)) (fun _ _ => rfl)) (pd_const pe_int (fun _ => .int _))) (pd_const pe_int (fun _ => .int _))) pda_nil)) (pd_const pe_int (fun _ => .int _))) (pd_const pe_int (fun _ => .int _))) (pd_var (pv 1))))))), ?_⟩
  rintro as Qd Ed ⟨ys, m, rfl, ⟨x, y, rfl, x0, y0, y1⟩, m0, m1, k⟩
  refine DR.start (δ' := [some (.own (.lst [.int x, .int y])), some (.d (.int m)), none]) rfl ?_
  walk_at "dd"
  refine DR.split (fun c => ?_) (fun c => ?_)
  · walk_at "dd"
    refine ⟨wide_div m0 (b := 64) (by omega) (by decide) (by decide), ?_⟩
    walk_at "dd"
    exact k _ _ (Int.emod_nonneg _ (by omega)) (Int.emod_lt_of_pos _ m0) ⟨x / m, y, rfl, Int.ediv_nonneg x0 (by omega), y0, y1⟩
  · walk_at "dd"
    have h1 : 0 ≤ (y * 48271 + 60013) % 2147483629 := Int.emod_nonneg _ (by decide)
    have h2 : (y * 48271 + 60013) % 2147483629 < 2147483629 := Int.emod_lt_of_pos _ (by decide)
    exact k _ _ (Int.emod_nonneg _ (by omega)) (Int.emod_lt_of_pos _ m0) ⟨x, _, rfl, x0, h1, by omega⟩
theorem take {ys : List D} {m : Int} {Q : DV → List OC → Prop} {E : Ex → List OC → Prop} (h : Bg ys) (m0 : 0 < m) (m1 : m < 2 ^ 64) (k : ∀ (r : Int) (ys : List D), 0 ≤ r → r < m → Bg ys → Q (.d (.int r)) [.lst ys]) : sdTake [.own (.lst ys), .d (.int m)] Q E := ⟨ys, m, rfl, h, m0, m1, k⟩
def sdBag : SpD := fun as Q _ => ∃ (zs : List Int) (p : Nat), as = [.d (.ro (zs.map .int)), .d (.int p)] ∧ p < 64 ∧ ∀ ys, Bg ys → Q (.own (.lst ys)) []
abbrev s_law_bag : Stmt := top 34
theorem sc_law_bag : FnScope ["_law_script", "_law_at", "_law_cell", "_law_mixed", "_law_k", "_law_each"] ["_law_script", "_law_at"] (defScope s_law_bag) := ⟨rfl, rfl, rfl, by decide +kernel, rfl, by decide +kernel, by decide +kernel⟩
theorem ok_bag {f : Addr} {fd : FuncData} (G : Fun K "_law_bag" "_law_bag" s_law_bag f fd) (T : TxtN mg) : FnOk P w K mg base (L2.CX P w) 1 f fd ["_law_script", "_law_at"] (spOf K sdBag) := by
  refine okD G sc_law_bag [] (fun as Q E ⟨zs, p, e, _⟩ => by subst e; exact ⟨rfl, rfl⟩) ⟨_, fun cdv A outer s H E ad F0 H0 hr => (pds_cons (psd_set (i := 2) (pd_ifExp (ptd_cmp op_lt (op2_I0 fun _ _ _ => .bl _) (pd_var (pv 1)) (pd_builtB (fun h => pe_callB call_len_seq (by rfl) T.b_len (by decide +kernel) h) cn_len.op (pda_cons (pd_var (pv 0)) pda_nil)) (nomark _)) (pd_ix ix_list op2_ixL (pd_var (pv 0)) (pd_var (pv 1)) (fun _ _ => rfl)) (pd_const pe_int (fun _ => .int _))) (by show ¬ (2 ∈ ([] : List Nat)); decide) sc_law_bag.nd rfl (.inl rfl))
      (pds_cons (psd_set (i := 3) (pd_op op_add (op2_I0 fun _ _ _ => .int _) (pd_op op_mul (op2_I fun _ _ _ => .int _) (pd_const pe_int (fun _ => .int _)) (pd_var (pv 1))) (pd_const pe_int (fun _ => .int _))) (by show ¬ (3 ∈ ([] : List Nat)); decide) sc_law_bag.nd rfl (.inl rfl))
      (pds_cons (psd_for (passes_of rfl) rfl (pid_enum (by rfl) T.b_enumerate (pda_cons (pd_slice (pd_var (pv 0)) pod_none (pod_some (pd_const pe_int (fun _ => .int _)))) pda_nil)) (pgd_tup (is := [4, 5]) (vs := [4, 5]) (pg_tup rfl (pgs_cons (pg_name (i := 4) sc_law_bag.nd rfl (.inl rfl)) (pgs_cons (pg_name (i := 5) sc_law_bag.nd rfl (.inl rfl)) pgs_nil))) rfl (by show ∀ i ∈ ([4, 5] : List Nat), ¬ (i ∈ ([] : List Nat)) ∧ i ∈ ([4, 5] : List Nat); decide))
      (pds_one (psd_set (i := 3) (pd_op op_mod (op2_I fun _ _ _ => .int _) (pd_builtB (fun h => pe_callTy call_int1 (by rfl) T.b_int (by decide +kernel) h) cn_int.op (pda_cons (pd_op op_add (op2_I0 fun _ _ _ => .int _) (pd_op op_add (op2_I0 fun _ _ _ => .int _) (pd_op op_mul (op2_I fun _ _ _ => .int _) (pd_var (pv 3)) (pd_const pe_int (fun _ => .int _))) (pd_op op_mod (op2_I fun _ _ _ => .int _) (pd_builtB (fun h => pe_callTy call_int1 (by rfl) T.b_int (by decide +kernel) h) cn_int.op (pda_cons (pd_var (pv 5)) pda_nil)) (pd_const pe_int (fun _ => .int _)))) (pd_op op_mul (op2_I fun _ _ _ => .int _) (pd_const pe_int (fun _ => .int _)) (pd_var (pv 4)))) pda_nil)) (pd_const pe_int (fun _ => .int _))) (by show ¬ (3 ∈ ([] : List Nat)); decide) sc_law_bag.nd rfl (.inl rfl))))
      (pds_one (psd_ret (pd_lst (fun h => pe_lst h) (pda_cons (pd_ifExp (ptd_cmp op_ge (op2_I0 fun _ _ _ => .bl _) (pd_builtB (fun h => pe_callB call_abs (by rfl) T.b_abs (by decide +kernel) h) cn_abs.op (pda_cons (pd_var (pv 2)) pda_nil)) (pd_op op_pow (op2_I fun _ _ _ => .int _) (pd_const pe_int (fun _ => .int _)) (pd_const pe_int (fun _ => .int _))) (nomark _)) (pd_builtB (fun h => pe_callB call_abs (by rfl) T.b_abs (by decide +kernel) h) cn_abs.op (pda_cons (pd_var (pv 2)) pda_nil)) (pd_const pe_int (fun _ => .int _))) (pda_cons (pd_var (pv 3)) pda_nil)))))))), ?_⟩
  rintro as Qd Ed ⟨zs, p, rfl, hp, k⟩
  refine DR.start (δ' := [some (.d (.ro (zs.map .int))), some (.d (.int p)), none, none, none, none]) rfl ?_
  with_reducible refine DR.cut (fun δ => ∃ cell : Int, δ = [some (.d (.ro (zs.map .int))), some (.d (.int p)), some (.d (.int cell)), none, none, none]) (fun N kN => ?_) ?_
  · walk_at "dd"
    refine DR.split (fun c => ?_) (fun c => ?_)
    · walk_at "dd"
      have hl : p < zs.length := by rw [List.length_map] at c; omega
      refine ⟨_, _, .inr rfl, atI_map (List.getElem?_eq_getElem hl), ?_⟩
      exact kN _ ⟨_, rfl⟩
    · walk_at "dd"
      exact kN _ ⟨_, rfl⟩
  rintro δ ⟨cell, rfl⟩
  with_reducible refine DR.cut (fun δ => δ = [some (.d (.ro (zs.map .int))), some (.d (.int p)), some (.d (.int cell)), some (.d (.int (6673 * p + 1801))), none, none]) (fun N kN => ?_) ?_
  · walk_at "dd"
    exact kN _ rfl
  rintro δ rfl
  walk_at "dd"
  refine ⟨_, .inr rfl, ?_⟩
  walk_at "dd"
  refine ⟨_, _, rfl, .inl rfl, ?_⟩
  refine DR.for_inv (fun i δ => ∃ (m : Int) (p4 p5 : Option DV), 0 ≤ m ∧ m < 2147483647 ∧ δ = [some (.d (.ro (zs.map .int))), some (.d (.int p)), some (.d (.int cell)), some (.d (.int m)), p4, p5]) ⟨6673 * (p : Int) + 1801, _, _, by omega, by omega, rfl⟩ ?_ ?_
  · rintro i x δ N hx ⟨m, p4, p5, m0, m1, rfl⟩ kN
    obtain ⟨d, hd, rfl⟩ := DR.enum_at hx
    have hd := List.mem_of_getElem? hd
    obtain ⟨z, rfl⟩ : ∃ z : Int, d = .int z := by
      unfold DL.cutD at hd
      have hd := List.mem_of_mem_drop (List.mem_of_mem_take hd)
      obtain ⟨z, _, rfl⟩ := List.mem_map.mp hd
      exact ⟨z, rfl⟩
    walk_at "dd"
    refine kN _ ⟨_, _, _, Int.emod_nonneg _ (by decide), ?_, rfl⟩
    have := Int.emod_lt_of_pos (m * 40692 + z % 2147483399 + 457 * i) (show (0 : Int) < 2147483563 by decide)
    omega
  · rintro δ ⟨m, p4, p5, m0, m1, rfl⟩
    walk_at "dd"
    refine DR.split (fun c => ?_) (fun c => ?_)
    · walk_at "dd"
      exact k _ ⟨_, _, rfl, by split <;> omega, m0, m1⟩
    · walk_at "dd"
      exact k _ ⟨_, _, rfl, by omega, m0, m1⟩
def sdOf : SpD := fun as Q _ => ∃ (ys xs : List D) (x : D), as = [.own (.lst ys), .d x] ∧ x = .lst xs ∧ Bg ys ∧ 0 < xs.length ∧ xs.length < 1000 ∧ ∀ (g : D) (ys : List D), g ∈ xs → Bg ys → Q (.d g) [.lst ys]
abbrev s_law_of : Stmt := top 36
theorem sc_law_of : FnScope ["_law_bag_here", "_law_some"] ["_law_bag_here", "_law_some"] (defScope s_law_of) := ⟨rfl, rfl, rfl, by decide +kernel, rfl, by decide +kernel, by decide +kernel⟩
theorem ok_of (D_law_take : DefD P w K mg base "_law_take" 1 ["_law_bag_here", "_law_many"] sdTake) {f : Addr} {fd : FuncData} (G : Fun K "_law_of" "_law_of" s_law_of f fd) (T : TxtB mg) : FnOk P w K mg base (L2.CX P w) 3 f fd ["_law_bag_here", "_law_some"] (spOf K sdOf) := by
  refine okD G sc_law_of [0] (fun as Q E ⟨ys, m, x, e, _⟩ => by subst e; exact ⟨rfl, rfl⟩) ⟨_, fun cdv A outer s H E ad F0 H0 hr => (pds_one (psd_ret (pd_ix ix_list op2_ixL (pd_var (pv 1)) (pd_call D_law_take.ok (hr.mono (by decide)) (by rfl) D_law_take.mg D_law_take.kp D_law_take.b (takes_of rfl rfl rfl rfl) (pda_own (i := 0) (pv 0) (pda_cons (pd_builtB (fun h => pe_callB call_len_seq (by rfl) T.b_len (by decide +kernel) h) cn_len.op (pda_cons (pd_var (pv 1)) pda_nil)) pda_nil))) (fun _ _ => rfl)))), ?_⟩
  rintro as Qd Ed ⟨ys, xs, x, rfl, rfl, hb, h0, hl, k⟩
  refine DR.start (δ' := [some (.own (.lst ys)), some (.d (.lst xs))]) rfl ?_
  walk_at "dd"
  refine take hb (by omega) (by omega) fun r ys r0 r1 hb => ?_
  walk_at "dd"
  have hr : r.toNat < xs.length := by omega
  have e : ((r.toNat : Nat) : Int) = r := Int.toNat_of_nonneg r0
  have at' : atI xs (r.toNat : Int) = some xs[r.toNat] := by
    have := atI_map (f := fun d : D => d) (List.getElem?_eq_getElem hr)
    rwa [List.map_id' ] at this
  rw [e] at at'
  refine ⟨_, _, .inl rfl, at', ?_⟩
  walk_at "dd"
  exact k _ ys (List.getElem_mem hr) hb
theorem of {ys xs : List D} {x : D} {Q : DV → List OC → Prop} {E : Ex → List OC → Prop} (e : x = .lst xs) (h : Bg ys) (h0 : 0 < xs.length) (hl : xs.length < 1000) (k : ∀ (g : D) (ys : List D), g ∈ xs → Bg ys → Q (.d g) [.lst ys]) : sdOf [.own (.lst ys), .d x] Q E := ⟨ys, xs, x, rfl, e, h, h0, hl, k⟩
/-- texts of a row of texts -/
theorem ofs {ys : List D} {gs : List Str} {x : D} {Q : DV → List OC → Prop} {E : Ex → List OC → Prop} (e : x = .lst (gs.map .str)) (h : Bg ys) (hn : gs ≠ []) (hl : gs.length < 1000) (k : ∀ (g : Str) (ys : List D), g ∈ gs → Bg ys → Q (.d (.str g)) [.lst ys]) : sdOf [.own (.lst ys), .d x] Q E :=
  of e h (by rw [List.length_map]; exact List.length_pos_iff.mpr hn) (by rw [List.length_map]; exact hl) fun g ys hg hb => by
    obtain ⟨z, hz, rfl⟩ := List.mem_map.mp hg
    exact k z ys hz hb
/-- numbers of a row of numbers -/
theorem ofi {ys : List D} {js : List Int} {x : D} {Q : DV → List OC → Prop} {E : Ex → List OC → Prop} (e : x = .lst (js.map .int)) (h : Bg ys) (hn : js ≠ []) (hl : js.length < 1000) (k : ∀ (j : Int) (ys : List D), j ∈ js → Bg ys → Q (.d (.int j)) [.lst ys]) : sdOf [.own (.lst ys), .d x] Q E :=
  of e h (by rw [List.length_map]; exact List.length_pos_iff.mpr hn) (by rw [List.length_map]; exact hl) fun g ys hg hb => by
    obtain ⟨z, hz, rfl⟩ := List.mem_map.mp hg
    exact k z ys hz hb
def Low (z : Str) : Prop := ∀ c ∈ z.cps.toList, 97 ≤ c ∧ c ≤ 122
theorem str_cps {a b : Str} : (a ++ b).cps.toList = a.cps.toList ++ b.cps.toList := Array.toList_append
theorem str_len {a b : Str} : (a ++ b).length = a.length + b.length := Array.size_append
theorem low_app {a b : Str} (h1 : Low a) (h2 : Low b) : Low (a ++ b) := fun c hc => by
  rw [str_cps] at hc
  exact (List.mem_append.mp hc).elim (h1 c) (h2 c)
def abc : List Nat := (Str.ofString "abcdefghijklmnopqrstuvwxyz").cps.toList
def sgD (c : Nat) : D := .str ⟨#[c]⟩
/-- a name: a letter within a stem -/
def mkN (z : Str) (n c : Nat) : Str := Txt.slice z none (some (n : Int)) ++ ⟨#[c]⟩ ++ Txt.slice z (some (n : Int)) none
theorem mk_cps {z : Str} {n c : Nat} (h : n ≤ z.length) : (mkN z n c).cps.toList = z.cps.toList.take n ++ [c] ++ z.cps.toList.drop n := by
  unfold mkN
  rw [str_cps, str_cps, slice_hi h, slice_lo h]
theorem mk_len {z : Str} {n c : Nat} (h : n ≤ z.length) : (mkN z n c).length = z.length + 1 := by
  have e : ∀ s : Str, s.length = s.cps.toList.length := fun s => (Array.length_toList).symm
  rw [e, mk_cps h, e z]
  have h : n ≤ z.cps.toList.length := by rw [← e]; exact h
  simp only [List.length_append, List.length_take, List.length_drop, List.length_cons, List.length_nil]
  omega
theorem mk_inj {z : Str} {n c d : Nat} (h : n ≤ z.length) (e : mkN z n c = mkN z n d) : c = d := by
  have e := congrArg (fun s : Str => s.cps.toList) e
  simp only [mk_cps h, List.append_assoc] at e
  have e := List.append_cancel_left e
  simpa using e
theorem mk_low {z : Str} {n c : Nat} (h : n ≤ z.length) (hz : Low z) (hc : 97 ≤ c ∧ c ≤ 122) : Low (mkN z n c) := fun d hd => by
  rw [mk_cps h] at hd
  rcases List.mem_append.mp hd with hd | hd
  · rcases List.mem_append.mp hd with hd | hd
    · exact hz d (List.mem_of_mem_take hd)
    · rw [List.mem_singleton.mp hd]; exact hc
  · exact hz d (List.mem_of_mem_drop hd)
theorem abc_low : ∀ c ∈ abc, 97 ≤ c ∧ c ≤ 122 := by decide +kernel
theorem abc_nd : abc.Nodup := by decide +kernel
theorem erase_map {α β : Type} {f : α → β} : ∀ {l : List α} {n : Nat}, (l.map f).eraseIdx n = (l.eraseIdx n).map f
  | [], _ => rfl
  | _ :: _, 0 => rfl
  | a :: l, n + 1 => congrArg (f a :: ·) (erase_map (l := l) (n := n))
theorem erase_perm {α : Type} : ∀ {l : List α} {n : Nat} (h : n < l.length), (l[n] :: l.eraseIdx n).Perm l
  | [], _, h => nomatch h
  | _ :: _, 0, _ => .refl _
  | a :: l, n + 1, h => (List.Perm.swap a (l[n]'(Nat.lt_of_succ_lt_succ h)) (l.eraseIdx n)).trans (.cons a (erase_perm (Nat.lt_of_succ_lt_succ h)))
theorem six {r : Int} {n : Nat} (h0 : 0 ≤ r) (h1 : r < n) : seqIndex? r n = some r.toNat := by
  unfold seqIndex?
  simp
  omega
theorem upto_at {m i : Nat} {x : D} (h : (upto 0 m)[i]? = some x) : x = .int i ∧ i < m := by
  unfold upto at h
  rw [List.getElem?_map] at h
  rcases Nat.lt_or_ge i m with hi | hi
  · rw [List.getElem?_range hi] at h
    cases h
    exact ⟨by show D.int (0 + (i : Int)) = _; rw [Int.zero_add], hi⟩
  · rw [List.getElem?_eq_none (by rw [List.length_range]; exact hi)] at h
    cases h
theorem upto_len {m : Nat} : (upto 0 m).length = m := by
  unfold upto
  simp
/-- right names, unlike one another -/
def Nms (gs : List Str) : Prop := gs.Nodup ∧ ∀ g ∈ gs, g ≠ "cash" ∧ 1 ≤ g.length ∧ g.length ≤ 12 ∧ Low g
/-- k names -/
def sdNames : SpD := fun as Q _ => ∃ (ys : List D) (k : Nat), as = [.own (.lst ys), .d (.int k)] ∧ Bg ys ∧ 1 ≤ k ∧ k ≤ 11 ∧ ∀ (gs : List Str) (ys : List D), Nms gs → gs.length = k → (∀ g ∈ gs, g ≠ "other") → Bg ys → Q (.own (.lst (gs.map .str))) [.lst ys] ∧ Q (.d (.lst (gs.map .str))) [.lst ys]
theorem names {ys : List D} {n : Nat} {Q : DV → List OC → Prop} {E : Ex → List OC → Prop} (h : Bg ys) (h1 : 1 ≤ n) (h5 : n ≤ 11) (k : ∀ (gs : List Str) (ys : List D), Nms gs → gs.length = n → (∀ g ∈ gs, g ≠ "other") → Bg ys → Q (.own (.lst (gs.map .str))) [.lst ys] ∧ Q (.d (.lst (gs.map .str))) [.lst ys]) : sdNames [.own (.lst ys), .d (.int n)] Q E := ⟨ys, n, rfl, h, h1, h5, k⟩
theorem str_x {a b : Str} (h : a.cps.toList = b.cps.toList) : a = b := by
  cases a; cases b
  exact congrArg _ (Array.toList_inj.mp h)
theorem low_q : Low "q" := by unfold Low; decide +kernel
theorem q_ne {g : Str} : g ++ "q" ≠ "cash" := fun e => by
  have e := congrArg (fun s : Str => s.cps.toList.getLast?) e
  simp only [str_cps] at e
  rw [show (("q" : Str).cps.toList) = [113] from rfl, List.getLast?_concat] at e
  exact absurd e (by decide +kernel)
theorem q_inj {g h : Str} (e : g ++ "q" = h ++ "q") : g = h := by
  have e := congrArg (fun s : Str => s.cps.toList) e
  simp only [str_cps] at e
  exact str_x (List.append_cancel_right e)
/-- a stem -/
def Stm (z : Str) : Prop := ∀ c ∈ z.cps.toList, c ∈ ([97, 122, 115, 104, 109] : List Nat)
theorem stm_low {z : Str} (h : Stm z) : Low z := fun c hc => by
  have := h c hc
  simp only [List.mem_cons, List.not_mem_nil, or_false] at this
  omega
theorem stm_app {a b : Str} (h1 : Stm a) (h2 : Stm b) : Stm (a ++ b) := fun c hc => by
  rw [str_cps] at hc
  exact (List.mem_append.mp hc).elim (h1 c) (h2 c)
theorem fiveS {g : Str} (h : g ∈ (["a", "z", "s", "h", "m"] : List Str)) : g.length = 1 ∧ Stm g := by
  have e : ∀ g ∈ (["a", "z", "s", "h", "m"] : List Str), g.length = 1 ∧ ∀ c ∈ g.cps.toList, c ∈ ([97, 122, 115, 104, 109] : List Nat) := by decide +kernel
  exact e g h
theorem other_in : 111 ∈ (Str.ofString "other").cps.toList ∧ 116 ∈ (Str.ofString "other").cps.toList := by decide +kernel
theorem mk_other {z : Str} {n c : Nat} (h : n ≤ z.length) (hz : Stm z) {q : Str} (hq : ∀ d ∈ q.cps.toList, d = 113) : mkN z n c ++ q ≠ "other" := fun e => by
  have m : ∀ d ∈ (Str.ofString "other").cps.toList, d ∈ ([97, 122, 115, 104, 109] : List Nat) ∨ d = c ∨ d = 113 := fun d hd => by
    rw [← e, str_cps, mk_cps h] at hd
    rcases List.mem_append.mp hd with hd | hd
    · rcases List.mem_append.mp hd with hd | hd
      · rcases List.mem_append.mp hd with hd | hd
        · exact .inl (hz d (List.mem_of_mem_take hd))
        · exact .inr (.inl (List.mem_singleton.mp hd))
      · exact .inl (hz d (List.mem_of_mem_drop hd))
    · exact .inr (.inr (hq d hd))
  have a := m 111 other_in.1
  have b := m 116 other_in.2
  simp only [List.mem_cons, List.not_mem_nil, or_false] at a b
  omega
theorem mk_other0 {z : Str} {n c : Nat} (h : n ≤ z.length) (hz : Stm z) : mkN z n c ≠ "other" := fun e => mk_other h hz (q := "") (fun d hd => nomatch hd) (by rw [e]; decide +kernel)
abbrev s_law_names : Stmt := top 37
theorem sc_law_names : FnScope ["_law_bag_here", "_law_many", "_law_left", "_law_found", "_law_stem", "_law_turn", "_law_place", "_law_one"] ["_law_bag_here", "_law_many"] (defScope s_law_names) := ⟨rfl, rfl, rfl, by decide +kernel, rfl, by decide +kernel, by decide +kernel⟩
theorem ok_names (D_law_take : DefD P w K mg base "_law_take" 1 ["_law_bag_here", "_law_many"] sdTake) (D_law_of : DefD P w K mg base "_law_of" 3 ["_law_bag_here", "_law_some"] sdOf) {f : Addr} {fd : FuncData} (G : Fun K "_law_names" "_law_names" s_law_names f fd) (T : TxtN mg) : FnOk P w K mg base (L2.CX P w) 5 f fd ["_law_bag_here", "_law_many"] (spOf K sdNames) := by
  refine okD G sc_law_names [0] (fun as Q E ⟨ys, m, e, _⟩ => by subst e; exact ⟨rfl, rfl⟩) ⟨_, fun cdv A outer s H E ad F0 H0 hr => (pds_cons (psd_par3 (i := 2) (j := 3) (l := 4) (oi := true) (oj := true) (ol := false) (pka_cons (pd_builtB (fun h => pe_callTy (call_listS (by rfl)) (by rfl) T.b_list (by decide +kernel) h) cn_listS (pda_cons (pd_const pe_str (fun _ => .str (by decide +kernel))) pda_nil)) (pka_cons (pd_lst (fun h => pe_lst h) pda_nil) (pka_cons (pd_const pe_str (fun _ => .str (by decide +kernel))) pka_nil))) (by show ¬ (2 ∈ ([0] : List Nat)); decide) (by show ¬ (3 ∈ ([0] : List Nat)); decide) (by show ¬ (4 ∈ ([0] : List Nat)); decide) (fun h => ps_par3 (i := 2) (j := 3) (l := 4) (by rfl) sc_law_names.nd rfl rfl rfl (by decide) (by decide) (by decide) rfl rfl rfl h (by rfl)) (by decide) (by decide) (by decide))
      (pds_cons (psd_for (passes_of rfl) rfl (pid_range1 (by rfl) T.b_range (pda_cons (pd_call D_law_take.ok (hr.mono (by decide)) (by rfl) D_law_take.mg D_law_take.kp D_law_take.b (takes_of rfl rfl rfl rfl) (pda_own (i := 0) (pv 0) (pda_cons (pd_const pe_int (fun _ => .int _)) pda_nil))) pda_nil)) (pgd_name (i := 5) (vs := [5]) (pg_name (i := 5) sc_law_names.nd rfl (.inl rfl)) (by show ¬ (5 ∈ ([0] : List Nat)); decide) (by decide))
      (pds_one (psd_set (i := 4) (pd_op op_add_str op2_addS (pd_var (pv 4)) (pd_call D_law_of.ok (hr.mono (by decide)) (by rfl) D_law_of.mg D_law_of.kp D_law_of.b (takes_of rfl rfl rfl rfl) (pda_own (i := 0) (pv 0) (pda_cons (pd_lst (fun h => pe_lst h) (pda_cons (pd_const pe_str (fun _ => .str (by decide +kernel))) (pda_cons (pd_const pe_str (fun _ => .str (by decide +kernel))) (pda_cons (pd_const pe_str (fun _ => .str (by decide +kernel))) (pda_cons (pd_const pe_str (fun _ => .str (by decide +kernel))) (pda_cons (pd_const pe_str (fun _ => .str (by decide +kernel))) pda_nil)))))) pda_nil)))) (by show ¬ (4 ∈ ([0] : List Nat)); decide) sc_law_names.nd rfl (.inl rfl))))
      (pds_cons (psd_set (i := 6) (pd_call D_law_take.ok (hr.mono (by decide)) (by rfl) D_law_take.mg D_law_take.kp D_law_take.b (takes_of rfl rfl rfl rfl) (pda_own (i := 0) (pv 0) (pda_cons (pd_op op_add (op2_I0 fun _ _ _ => .int _) (pd_builtB (fun h => pe_callB call_len_str (by rfl) T.b_len (by decide +kernel) h) cn_lenS.op (pda_cons (pd_var (pv 4)) pda_nil)) (pd_const pe_int (fun _ => .int _))) pda_nil))) (by show ¬ (6 ∈ ([0] : List Nat)); decide) sc_law_names.nd rfl (.inl rfl))
      (pds_cons (psd_for (passes_of rfl) rfl (pid_range1 (by rfl) T.b_range (pda_cons (pd_var (pv 1)) pda_nil)) (pgd_name (i := 5) (vs := [5]) (pg_name (i := 5) sc_law_names.nd rfl (.inl rfl)) (by show ¬ (5 ∈ ([0] : List Nat)); decide) (by decide))
      (pds_one (psd_expr (pd_methO (j := 3) (fun ho h => pe_bm PySem.F.plainAttrs_list PySem.F.slot_list_append PySem.F.type_list_append mt_append ho h) mo_append (pv 3) (pda_cons (pd_op op_add_str op2_addS (pd_op op_add_str op2_addS (pd_sliceS (pd_var (pv 4)) pod_none (pod_some (pd_var (pv 6)))) (pd_methO (j := 2) (fun ho h => pe_bm PySem.F.plainAttrs_list PySem.F.slot_list_pop PySem.F.type_list_pop mt_popAt ho h) mo_pop (pv 2) (pda_cons (pd_call D_law_take.ok (hr.mono (by decide)) (by rfl) D_law_take.mg D_law_take.kp D_law_take.b (takes_of rfl rfl rfl rfl) (pda_own (i := 0) (pv 0) (pda_cons (pd_builtO (i := 2) (fun h => pe_callB call_len_seq (by rfl) T.b_len (by decide +kernel) h) cn_len (pv 2)) pda_nil))) pda_nil))) (pd_sliceS (pd_var (pv 4)) (pod_some (pd_var (pv 6))) pod_none)) pda_nil)))))
      (pds_one (psd_ret (pd_ifExp (ptd_inLO_t (j := 3) (units65 hr) (pd_const pe_str (fun _ => .str (by decide +kernel))) (pv 3)) (pd_lc (own := [("_law_one", 7)]) (by rfl) sc_law_names.nd (pid_list (pd_fvar (i := 3) (pv 3) (by show ¬ (3 ∈ ([0] : List Nat)); decide))) (blkOk_by (own := [("_law_one", 7)]) (N := ["_law_bag_here", "_law_many", "_law_left", "_law_found", "_law_stem", "_law_turn", "_law_place", "_law_one"]) (sc := defScope s_law_names) (by decide +kernel)) (fun _ _ _ _ _ => (pgd_name (i := 7) (vs := [7]) (pg_name (i := 7) sc_law_names.nd rfl (.inl rfl)) (by show ¬ (7 ∈ ([0] : List Nat)); decide) (by decide))) (fun _ _ _ _ _ => ptsd_nil) (fun _ _ _ _ _ => (pd_op op_add_str op2_addS (pd_var (pv 7)) (pd_const pe_str (fun _ => .str (by decide +kernel))))) (by show ∀ i ∈ ([7] : List Nat), ¬ (i ∈ ([0] : List Nat)); decide)) (pd_fvar (i := 3) (pv 3) (by show ¬ (3 ∈ ([0] : List Nat)); decide))))))))), ?_⟩
  rintro as Qd Ed ⟨ys, kk, rfl, hb, k1, k5, k⟩
  refine DR.start (δ' := [some (.own (.lst ys)), some (.d (.int kk)), none, none, none, none, none, none]) rfl ?_
  with_reducible refine DR.cut (fun δ => δ = [some (.own (.lst ys)), some (.d (.int kk)), some (.own (.lst (abc.map sgD))), some (.own (.lst [])), some (.d (.str "")), none, none, none]) (fun N kN => ?_) ?_
  · walk_at "dd"
    refine ⟨by decide, ?_⟩
    walk_at "dd"
    exact ⟨_, _, _, rfl, kN _ rfl⟩
  rintro δ rfl
  with_reducible refine DR.cut (fun δ => ∃ (ys : List D) (z : Str) (p5 : Option DV), δ = [some (.own (.lst ys)), some (.d (.int kk)), some (.own (.lst (abc.map sgD))), some (.own (.lst [])), some (.d (.str z)), p5, none, none] ∧ Bg ys ∧ z.length ≤ 10 ∧ Stm z) (fun N kN => ?_) ?_
  · walk_at "dd"
    refine take hb (by decide) (by decide) fun r ys r0 r1 hb => ?_
    walk_at "dd"
    refine ⟨by omega, by omega, ?_⟩
    refine DR.for_inv (fun i δ => ∃ (ys : List D) (z : Str) (p5 : Option DV), δ = [some (.own (.lst ys)), some (.d (.int kk)), some (.own (.lst (abc.map sgD))), some (.own (.lst [])), some (.d (.str z)), p5, none, none] ∧ Bg ys ∧ z.length = i ∧ Stm z) ⟨ys, "", none, rfl, hb, rfl, fun c h => nomatch h⟩ ?_ ?_
    · rintro i x δ N hx ⟨ys, z, p5, rfl, hb, hz, hl⟩ kN
      obtain ⟨rfl, hi⟩ := upto_at hx
      walk_at "dd"
      refine ⟨by show 5 ≤ sizeLine; decide, ?_⟩
      walk_at "dd"
      refine ofs (gs := ["a", "z", "s", "h", "m"]) rfl hb (fun h => nomatch h) (by decide) fun g ys hg hb => ?_
      have hg := fiveS hg
      walk_at "dd"
      refine ⟨Nat.le_trans (show z.length + g.length ≤ 11 by omega) (by decide), ?_⟩
      walk_at "dd"
      exact kN _ ⟨ys, z ++ g, _, rfl, hb, by rw [str_len]; omega, stm_app hl hg.2⟩
    · rintro δ ⟨ys, z, p5, rfl, hb, hz, hl⟩
      rw [upto_len] at hz
      exact kN _ ⟨ys, z, p5, rfl, hb, by omega, hl⟩
  rintro δ ⟨ys, z, p5, rfl, hb, hz, hl⟩
  walk_at "dd"
  refine ⟨Nat.le_trans hz (by decide), ?_⟩
  walk_at "dd"
  refine take hb (m := ((z.length : Nat) : Int) + 1) (by omega) (by omega) fun r ys r0 r1 hb => ?_
  walk_at "dd"
  refine ⟨by omega, by omega, ?_⟩
  have hr : r.toNat ≤ z.length := by omega
  have er : ((r.toNat : Nat) : Int) = r := Int.toNat_of_nonneg r0
  refine DR.for_inv (fun i δ => ∃ (ys : List D) (cs ls : List Nat) (p5 : Option DV), δ = [some (.own (.lst ys)), some (.d (.int kk)), some (.own (.lst (ls.map sgD))), some (.own (.lst ((cs.map (mkN z r.toNat)).map .str))), some (.d (.str z)), p5, some (.d (.int r)), none] ∧ Bg ys ∧ cs.length = i ∧ (cs ++ ls).Perm abc) ⟨ys, [], abc, p5, rfl, hb, rfl, .refl _⟩ ?_ ?_
  · rintro i x δ N hx ⟨ys, cs, ls, p5, rfl, hb, hc, hp⟩ kN
    obtain ⟨rfl, hi⟩ := upto_at hx
    have hlen : ls.length + i = 26 := by
      have := hp.length_eq
      rw [List.length_append, show abc.length = 26 from by decide +kernel] at this
      omega
    walk_at "dd"
    have zl : z.length ≤ sizeLine := Nat.le_trans hz (by decide)
    refine ⟨zl, ?_⟩
    walk_at "dd"
    refine take hb (m := ((ls.map sgD).length : Nat)) (by rw [List.length_map]; omega) (by rw [List.length_map]; omega) fun q ys q0 q1 hb => ?_
    rw [List.length_map] at q1
    walk_at "dd"
    have hq : q.toNat < ls.length := by omega
    refine ⟨[_], _, rfl, rfl, q, q.toNat, sgD ls[q.toNat], rfl, by omega, by omega, six q0 (by rw [List.length_map]; exact q1), by rw [List.getElem?_map, List.getElem?_eq_getElem hq]; rfl, ?_⟩
    walk_at "dd"
    have l1 : (Txt.slice z none (some r)).length + 1 ≤ 12 := by
      have := mk_len (c := 0) hr
      unfold mkN at this
      rw [str_len, str_len, er] at this
      have o : (⟨#[0]⟩ : Str).length = 1 := rfl
      omega
    refine ⟨Nat.le_trans l1 (by decide), ?_⟩
    walk_at "dd"
    refine ⟨zl, ?_⟩
    walk_at "dd"
    have l2 : (Txt.slice z none (some r) ++ (⟨#[ls[q.toNat]]⟩ : Str)).length + (Txt.slice z (some r) none).length ≤ 12 := by
      have := mk_len (c := ls[q.toNat]) hr
      unfold mkN at this
      rw [str_len, er] at this
      omega
    refine ⟨Nat.le_trans l2 (by decide), ?_⟩
    walk_at "dd"
    refine ⟨[_], _, rfl, rfl, _, rfl, by rw [List.length_map, List.length_map]; exact Nat.lt_of_lt_of_le (show cs.length < 11 by omega) (by decide), ?_⟩
    refine kN _ ⟨ys, cs ++ [ls[q.toNat]], ls.eraseIdx q.toNat, some (.d (.int i)), ?_, hb, by rw [List.length_append, hc]; rfl, ?_⟩
    · rw [List.map_append, List.map_append, ← erase_map]
      have em : mkN z r.toNat ls[q.toNat] = Txt.slice z none (some r) ++ (⟨#[ls[q.toNat]]⟩ : Str) ++ Txt.slice z (some r) none := by unfold mkN; rw [er]
      show _ = [_, _, _, some (DV.own (OC.lst (_ ++ [D.str (mkN z r.toNat ls[q.toNat])]))), _, _, _, _]
      rw [em]
      rfl
    · refine .trans ?_ hp
      rw [List.append_assoc]
      exact .append_left _ (erase_perm hq)
  · rintro δ ⟨ys, cs, ls, p5, rfl, hb, hc, hp⟩
    rw [upto_len] at hc
    have hc : cs.length = kk := hc
    have hcs : ∀ c ∈ cs, 97 ≤ c ∧ c ≤ 122 := fun c h => abc_low c (hp.mem_iff.mp (List.mem_append_left _ h))
    have hnd : cs.Nodup := (List.nodup_append.mp (hp.nodup_iff.mpr abc_nd)).1
    have hfn : (cs.map (mkN z r.toNat)).Nodup := List.pairwise_map.mpr (hnd.imp fun h e => h (mk_inj hr e))
    walk_at "dd"
    refine ⟨dp_str.cmp, (dp_lst (dp_map fun r _ => dp_str)).cmp, _, rfl, ?_⟩
    rw [show ((pyL ((cs.map (mkN z r.toNat)).map D.str)).any fun z => PyData.eqv z (DV.d (D.str "cash")).toD.py) = decide (cash ∈ cs.map (mkN z r.toNat)) from any_str]
    have len : ∀ g ∈ cs.map (mkN z r.toNat), 1 ≤ g.length ∧ g.length ≤ 11 ∧ Low g := fun g hg => by
      obtain ⟨c, hc, rfl⟩ := List.mem_map.mp hg
      exact ⟨by rw [mk_len hr]; omega, by rw [mk_len hr]; omega, mk_low hr (stm_low hl) (hcs c hc)⟩
    rw [show (false != decide (cash ∈ cs.map (mkN z r.toNat))) = decide (cash ∈ cs.map (mkN z r.toNat)) by simp]
    refine DR.split (fun c => ?_) (fun c => ?_)
    · walk_at "dd"
      refine DR.lc_mapM (l := cs.map (mkN z r.toNat)) (r := D.str) (fun g => D.str (g ++ "q")) (fun g acc N hg hl3 kN => ?_) ?_
      · walk_at "dd"
        have hg := len g hg
        refine ⟨Nat.le_trans (show g.length + 1 ≤ 12 by omega) (by decide), ?_⟩
        walk_at "dd"
        exact ⟨Nat.lt_of_lt_of_le hl3 (by rw [List.length_map, hc]; exact Nat.le_trans k5 (by decide)), kN⟩
      have := (k ((cs.map (mkN z r.toNat)).map fun g => g ++ "q") ys ⟨List.pairwise_map.mpr (hfn.imp fun h e => h (q_inj e)), fun g hg => ?_⟩ (by rw [List.length_map, List.length_map, hc]) (fun g hg => ?_) hb).1
      · walk_at "dd"
        rw [List.map_map] at this
        exact this
      · obtain ⟨a, ha, rfl⟩ := List.mem_map.mp hg
        have la := len a ha
        have lq : ("q" : Str).length = 1 := rfl
        exact ⟨q_ne, by rw [str_len]; omega, by rw [str_len]; omega, low_app la.2.2 low_q⟩
      · obtain ⟨a, ha, rfl⟩ := List.mem_map.mp hg
        obtain ⟨c, _, rfl⟩ := List.mem_map.mp ha
        exact mk_other hr hl (fun d hd => by
          have e : ∀ d ∈ (Str.ofString "q").cps.toList, d = 113 := by decide +kernel
          exact e d hd)
    · walk_at "dd"
      exact (k (cs.map (mkN z r.toNat)) ys ⟨hfn, fun g hg => ⟨fun e => c ((show g = cash from e) ▸ hg), (len g hg).1, Nat.le_succ_of_le (len g hg).2.1, (len g hg).2.2⟩⟩ (by rw [List.length_map, hc]) (fun g hg => by obtain ⟨c, _, rfl⟩ := List.mem_map.mp hg; exact mk_other0 hr hl) hb).2
end
end KT

set_option Elab.async false
set_option linter.all false
set_option maxRecDepth 100000
set_option maxHeartbeats 0
set_option pp.deepTerms false
set_option pp.deepTerms.threshold 8


namespace KT
open PySem PySem.Spec PyProof.Rows L2 DL
section
variable {P : Program} {w : World} {K : PySem.W.Frag} {mg : Str → Option Value} {base : Heap} {C OG BG : Addr}
end
end KT

set_option Elab.async false
set_option linter.all false
set_option maxRecDepth 100000
set_option maxHeartbeats 0
set_option pp.deepTerms false
set_option pp.deepTerms.threshold 8


namespace KT
open PySem PySem.Spec PyProof.Rows L2 DL
/-- a parcel's contents -/
abbrev ctD (c : Str × Int) : D := .tup [.str c.1, .int c.2]
def Cont (gs : List Str) (cs : List (Str × Int)) : Prop := cs ≠ [] ∧ cs.length ≤ 4 ∧ (cs.map (·.1)).Nodup ∧ ∀ c ∈ cs, c.1 ∈ gs ∧ c.2 ≠ 0 ∧ -1000 ≤ c.2 ∧ c.2 ≤ 1000
section
variable {P : Program} {w : World} {K : PySem.W.Frag} {mg : Str → Option Value} {base : Heap}
def sdCont : SpD := fun as Q _ => ∃ (ys : List D) (gs : List Str), as = [.own (.lst ys), .d (.lst (gs.map .str))] ∧ Bg ys ∧ gs ≠ [] ∧ gs.length ≤ 11 ∧ gs.Nodup ∧ ∀ (cs : List (Str × Int)) (ys : List D), Cont gs cs → Bg ys → Q (.own (.lst (cs.map ctD))) [.lst ys]
abbrev s_law_content_rows : Stmt := top 39
theorem sc_law_content_rows : FnScope ["_law_bag_here", "_law_known", "_law_left", "_law_found", "_law_turn", "_law_count"] ["_law_bag_here", "_law_known"] (defScope s_law_content_rows) := ⟨rfl, rfl, rfl, by decide +kernel, rfl, by decide +kernel, by decide +kernel⟩
theorem ok_cont (D_law_take : DefD P w K mg base "_law_take" 1 ["_law_bag_here", "_law_many"] sdTake) (D_law_of : DefD P w K mg base "_law_of" 3 ["_law_bag_here", "_law_some"] sdOf) {f : Addr} {fd : FuncData} (G : Fun K "_law_content_rows" "_law_content_rows" s_law_content_rows f fd) (T : TxtN mg) : FnOk P w K mg base (L2.CX P w) 5 f fd ["_law_bag_here", "_law_known"] (spOf K sdCont) := by
  refine okD G sc_law_content_rows [0] (fun as Q E ⟨ys, m, e, _⟩ => by subst e; exact ⟨rfl, rfl⟩) ⟨_, fun cdv A outer s H E ad F0 H0 hr => (pds_cons (psd_par (i := 2) (j := 3) (oi := true) (oj := true) (pka_cons (pd_builtB (fun h => pe_callTy call_list_of (by rfl) T.b_list (by decide +kernel) h) cn_list (pda_cons (pd_var (pv 1)) pda_nil)) (pka_cons (pd_lst (fun h => pe_lst h) pda_nil) pka_nil)) (by show ¬ (2 ∈ ([0] : List Nat)); decide) (by show ¬ (3 ∈ ([0] : List Nat)); decide) (fun h => ps_par (i := 2) (j := 3) (by rfl) sc_law_content_rows.nd rfl rfl (by decide) rfl rfl h (by rfl)) (by decide))
      (pds_cons (psd_for (passes_of rfl) rfl (pid_range1 (by rfl) T.b_range (pda_cons (pd_op op_add (op2_I0 fun _ _ _ => .int _) (pd_const pe_int (fun _ => .int _)) (pd_call D_law_take.ok (hr.mono (by decide)) (by rfl) D_law_take.mg D_law_take.kp D_law_take.b (takes_of rfl rfl rfl rfl) (pda_own (i := 0) (pv 0) (pda_cons (pd_builtB (fun h => pe_callB (call_min2 rfl) (by rfl) T.b_min (by decide +kernel) h) cn_two.op (pda_cons (pd_const pe_int (fun _ => .int _)) (pda_cons (pd_builtO (i := 2) (fun h => pe_callB call_len_seq (by rfl) T.b_len (by decide +kernel) h) cn_len (pv 2)) pda_nil))) pda_nil)))) pda_nil)) (pgd_name (i := 4) (vs := [4]) (pg_name (i := 4) sc_law_content_rows.nd rfl (.inl rfl)) (by show ¬ (4 ∈ ([0] : List Nat)); decide) (by decide))
      (pds_cons (psd_set (i := 5) (pd_call D_law_of.ok (hr.mono (by decide)) (by rfl) D_law_of.mg D_law_of.kp D_law_of.b (takes_of rfl rfl rfl rfl) (pda_own (i := 0) (pv 0) (pda_cons (pd_lst (fun h => pe_lst h) (pda_cons (pd_const pe_int (fun _ => .int _)) (pda_cons (pd_const pe_int (fun _ => .int _)) (pda_cons (pd_const pe_int (fun _ => .int _)) (pda_cons (pd_const pe_int (fun _ => .int _)) (pda_cons (pd_neg (pd_const pe_int (fun _ => .int _))) (pda_cons (pd_neg (pd_const pe_int (fun _ => .int _))) (pda_cons (pd_neg (pd_const pe_int (fun _ => .int _))) (pda_cons (pd_const pe_int (fun _ => .int _)) (pda_cons (pd_neg (pd_const pe_int (fun _ => .int _))) (pda_cons (pd_op op_add (op2_I0 fun _ _ _ => .int _) (pd_const pe_int (fun _ => .int _)) (pd_call D_law_take.ok (hr.mono (by decide)) (by rfl) D_law_take.mg D_law_take.kp D_law_take.b (takes_of rfl rfl rfl rfl) (pda_own (i := 0) (pv 0) (pda_cons (pd_const pe_int (fun _ => .int _)) pda_nil)))) (pda_cons (pd_op op_sub (op2_I0 fun _ _ _ => .int _) (pd_neg (pd_const pe_int (fun _ => .int _))) (pd_call D_law_take.ok (hr.mono (by decide)) (by rfl) D_law_take.mg D_law_take.kp D_law_take.b (takes_of rfl rfl rfl rfl) (pda_own (i := 0) (pv 0) (pda_cons (pd_const pe_int (fun _ => .int _)) pda_nil)))) pda_nil)))))))))))) pda_nil))) (by show ¬ (5 ∈ ([0] : List Nat)); decide) sc_law_content_rows.nd rfl (.inl rfl))
      (pds_one (psd_expr (pd_methO (j := 3) (fun ho h => pe_bm PySem.F.plainAttrs_list PySem.F.slot_list_append PySem.F.type_list_append mt_append ho h) mo_append (pv 3) (pda_cons (pd_tup (fun h => pe_tup h) (pda_cons (pd_methO (j := 2) (fun ho h => pe_bm PySem.F.plainAttrs_list PySem.F.slot_list_pop PySem.F.type_list_pop mt_popAt ho h) mo_pop (pv 2) (pda_cons (pd_call D_law_take.ok (hr.mono (by decide)) (by rfl) D_law_take.mg D_law_take.kp D_law_take.b (takes_of rfl rfl rfl rfl) (pda_own (i := 0) (pv 0) (pda_cons (pd_builtO (i := 2) (fun h => pe_callB call_len_seq (by rfl) T.b_len (by decide +kernel) h) cn_len (pv 2)) pda_nil))) pda_nil)) (pda_cons (pd_var (pv 5)) pda_nil))) pda_nil))))))
      (pds_one (psd_ret (pd_mvar (pv 3) (by show ¬ (3 ∈ ([0] : List Nat)); decide)))))), ?_⟩
  rintro as Qd Ed ⟨ys, gs, rfl, hb, hn, hl, hnd, k⟩
  refine DR.start (δ' := [some (.own (.lst ys)), some (.d (.lst (gs.map .str))), none, none, none, none]) rfl ?_
  walk_at "dd"
  have h1 : 1 ≤ gs.length := List.length_pos_iff.mpr hn
  obtain ⟨m, em, m1, m4, mg'⟩ : ∃ m : Nat, (fun i j : Int => if j < i then j else i) 4 ((gs.map D.str).length : Int) = (m : Int) ∧ 1 ≤ m ∧ m ≤ 4 ∧ m ≤ gs.length := by
    rw [List.length_map]
    by_cases c : ((gs.length : Nat) : Int) < 4
    · exact ⟨gs.length, if_pos c, h1, by omega, Nat.le_refl _⟩
    · exact ⟨4, if_neg c, by decide, Nat.le_refl _, by omega⟩
  show sdTake [_, .d (.int ((fun i j : Int => if j < i then j else i) 4 ((gs.map D.str).length : Int)))] _ _
  rw [em]
  refine take hb (by omega) (by omega) fun r ys r0 r1 hb => ?_
  walk_at "dd"
  refine ⟨by omega, by omega, ?_⟩
  refine DR.for_inv (fun i δ => ∃ (ys : List D) (ls : List Str) (cs : List (Str × Int)) (p4 p5 : Option DV), δ = [some (.own (.lst ys)), some (.d (.lst (gs.map .str))), some (.own (.lst (ls.map .str))), some (.own (.lst (cs.map ctD))), p4, p5] ∧ Bg ys ∧ cs.length = i ∧ ((cs.map (·.1)) ++ ls).Perm gs ∧ ∀ c ∈ cs, c.2 ≠ 0 ∧ -1000 ≤ c.2 ∧ c.2 ≤ 1000) ⟨ys, gs, [], _, _, rfl, hb, rfl, .refl _, fun c h => nomatch h⟩ ?_ ?_
  · rintro i x δ N hx ⟨ys, ls, cs, p4, p5, rfl, hb, hc, hp, hk⟩ kN
    obtain ⟨rfl, hi⟩ := upto_at hx
    have hlen : ls.length + i = gs.length := by
      have := hp.length_eq
      rw [List.length_append, List.length_map] at this
      omega
    walk_at "dd"
    refine take hb (by decide) (by decide) fun q1 ys a0 a1 hb => ?_
    walk_at "dd"
    refine take hb (by decide) (by decide) fun q2 ys b0 b1 hb => ?_
    walk_at "dd"
    refine ⟨[_, _, _, _, _, _, _, _, _, _, _], rfl, by show 11 ≤ sizeLine; decide, ?_⟩
    walk_at "dd"
    refine ofi (js := [1, 1, 2, 3, -1, -1, -2, 1000, -1000, 1 + q1, -1 - q2]) rfl hb (fun h => nomatch h) (by show 11 < 1000; decide) fun ct ys hct hb => ?_
    have hct : ct ≠ 0 ∧ -1000 ≤ ct ∧ ct ≤ 1000 := by
      simp only [List.mem_cons, List.not_mem_nil, or_false] at hct
      omega
    walk_at "dd"
    refine take hb (m := ((ls.map D.str).length : Nat)) (by rw [List.length_map]; omega) (by rw [List.length_map]; omega) fun q ys q0 q1' hb => ?_
    rw [List.length_map] at q1'
    walk_at "dd"
    have hq : q.toNat < ls.length := by omega
    refine ⟨[_], _, rfl, rfl, q, q.toNat, .str ls[q.toNat], rfl, by omega, by omega, six q0 (by rw [List.length_map]; exact q1'), by rw [List.getElem?_map, List.getElem?_eq_getElem hq]; rfl, ?_⟩
    walk_at "dd"
    refine ⟨[_], _, rfl, rfl, _, rfl, by rw [List.length_map]; exact Nat.lt_of_lt_of_le (show cs.length < 4 by omega) (by decide), ?_⟩
    refine kN _ ⟨ys, ls.eraseIdx q.toNat, cs ++ [(ls[q.toNat], ct)], some (.d (.int i)), some (.d (.int ct)), ?_, hb, by rw [List.length_append, hc]; rfl, ?_, fun c h => ?_⟩
    · rw [List.map_append, ← erase_map]
      rfl
    · refine .trans ?_ hp
      rw [List.map_append, List.append_assoc]
      exact .append_left _ (erase_perm hq)
    · rcases List.mem_append.mp h with h | h
      · exact hk c h
      · rw [List.mem_singleton.mp h]; exact hct
  · rintro δ ⟨ys, ls, cs, p4, p5, rfl, hb, hc, hp, hk⟩
    rw [upto_len] at hc
    have hnd2 : (cs.map (·.1)).Nodup := (List.nodup_append.mp (hp.nodup_iff.mpr hnd)).1
    have kk := k cs ys ⟨fun e => by rw [e] at hc; simp at hc; omega, by omega, hnd2, fun c h => ⟨hp.mem_iff.mp (List.mem_append_left _ (List.mem_map_of_mem h)), hk c h⟩⟩ hb
    walk_at "dd"
    exact kk
end
/-! ### the law's table: the counts of each thing -/
abbrev tbK (tb : List (Str × List Int)) : List (Key × D) := tb.map fun p => (.inr p.1, .lst (p.2.map .int))
def lookT (tb : List (Str × List Int)) (x : Str) : List Int := ((tb.find? fun p => decide (p.1 = x)).map (·.2)).getD []
def termV (tb : List (Str × List Int)) (k : Nat) (c : Str × Int) : Int := c.2 * (lookT tb c.1).getD k 0
def sumV (n : Nat) (tb : List (Str × List Int)) (cs : List (Str × Int)) : List Int := (List.range n).map fun k => (cs.map (termV tb k)).sum
theorem find_tb {x : Str} : ∀ {tb : List (Str × List Int)}, x ∈ tb.map (·.1) → ∃ v, (x, v) ∈ tb ∧ (tb.find? fun p => decide (p.1 = x)) = some (x, v)
  | [], h => nomatch h
  | (y, v) :: tb, h => by
    by_cases e : y = x
    · subst e
      exact ⟨v, List.mem_cons_self, by rw [List.find?_cons_of_pos (by exact decide_eq_true rfl)]⟩
    · rcases List.mem_cons.mp h with h | h
      · exact absurd h.symm e
      · obtain ⟨u, h1, h2⟩ := find_tb h
        exact ⟨u, List.mem_cons_of_mem _ h1, by rw [List.find?_cons_of_neg (by rw [decide_eq_true_iff]; exact e)]; exact h2⟩
theorem valK_tb {x : Str} : ∀ {tb : List (Str × List Int)}, valK (tbK tb) (.inr x) = (tb.find? fun p => decide (p.1 = x)).map fun p => .lst (p.2.map .int)
  | [] => rfl
  | (y, v) :: tb => by
    by_cases e : y = x
    · subst e
      rw [List.find?_cons_of_pos (by exact decide_eq_true rfl)]
      show Option.map _ (List.find? _ (((.inr y : Key), D.lst (v.map .int)) :: tbK tb)) = _
      rw [List.find?_cons_of_pos (by exact decide_eq_true rfl)]
      rfl
    · rw [List.find?_cons_of_neg (by rw [decide_eq_true_iff]; exact e), ← valK_tb]
      show Option.map _ (List.find? _ (((.inr y : Key), D.lst (v.map .int)) :: tbK tb)) = _
      rw [List.find?_cons_of_neg (by rw [decide_eq_true_iff]; exact fun z => e (Sum.inr.inj z))]
      rfl
theorem val_tb {x : Str} {tb : List (Str × List Int)} (h : x ∈ tb.map (·.1)) : valK (tbK tb) (.inr x) = some (.lst ((lookT tb x).map .int)) ∧ ∃ v, (x, v) ∈ tb ∧ lookT tb x = v := by
  obtain ⟨v, h1, h2⟩ := find_tb h
  have e : lookT tb x = v := by unfold lookT; rw [h2]; rfl
  exact ⟨by rw [valK_tb, h2, e]; rfl, v, h1, e⟩
def entD (q : Bool × (Str × Int)) : D := if q.1 = true then .tup [.str q.2.1, .int q.2.2] else .lst [.str q.2.1, .int q.2.2]
theorem seq_row {x : D} {xs : List D} {j : Nat} {δ : DSt} {Q : List D → DSt → Prop} {E : XD} (e : δ[j]? = some (some (.d x))) (hx : RowOf x xs) (h : Q xs δ) : seqO (varD j) δ Q E := by
  rcases hx with rfl | rfl
  · exact .inl (DR.var e ⟨xs, .inl rfl, h⟩)
  · exact .inr (DR.var e ⟨xs, rfl, h⟩)
section
variable {P : Program} {w : World} {K : PySem.W.Frag} {mg : Str → Option Value} {base : Heap} {C BR : Addr}
def sdSum : SpD := fun as Q _ => ∃ (gs : List Str) (qs : List (Bool × (Str × Int))) (tb : List (Str × List Int)) (x : D), as = [.d (.lst (gs.map .str)), .d x, .own (.dK (tbK tb))] ∧ RowOf x (qs.map entD) ∧ gs.length ≤ 5 ∧ qs.length ≤ 4 ∧
  (∀ q ∈ qs, q.2.1 ∈ tb.map (·.1) ∧ -1000 ≤ q.2.2 ∧ q.2.2 ≤ 1000) ∧ (∀ p ∈ tb, p.2.length = gs.length) ∧ Q (.own (.lst ((sumV gs.length tb (qs.map (·.2))).map .int))) [.dK (tbK tb)]
theorem summ {gs : List Str} {cs : List (Str × Int)} {tb : List (Str × List Int)} {Q : DV → List OC → Prop} {E : Ex → List OC → Prop} (hg : gs.length ≤ 5) (hc : cs.length ≤ 4) (hk : ∀ c ∈ cs, c.1 ∈ tb.map (·.1) ∧ -1000 ≤ c.2 ∧ c.2 ≤ 1000) (ht : ∀ p ∈ tb, p.2.length = gs.length) (k : Q (.own (.lst ((sumV gs.length tb cs).map .int))) [.dK (tbK tb)]) : sdSum [.d (.lst (gs.map .str)), .d (.lst (cs.map ctD)), .own (.dK (tbK tb))] Q E := by
  have e : (cs.map fun c => (true, c)).map (·.2) = cs := by rw [List.map_map]; exact List.map_id cs
  refine ⟨gs, cs.map fun c => (true, c), tb, _, rfl, .inl ?_, hg, by rw [List.length_map]; exact hc, fun q hq => ?_, ht, ?_⟩
  · rw [List.map_map]; rfl
  · obtain ⟨c, h, rfl⟩ := List.mem_map.mp hq
    exact hk c h
  · rw [e]; exact k
abbrev s_law_sum : Stmt := top 40
theorem sc_law_sum : FnScope ["_law_goods", "_law_contents", "_law_table", "_law_k", "_law_thing", "_law_count"] ["_law_goods", "_law_contents", "_law_table"] (defScope s_law_sum) := ⟨rfl, rfl, rfl, by decide +kernel, rfl, by decide +kernel, by decide +kernel⟩
theorem ok_sum {f : Addr} {fd : FuncData} (G : Fun K "_law_sum" "_law_sum" s_law_sum f fd) (T : TxtP K mg C BR) : FnOk P w K mg base (L2.CX P w) 1 f fd ["_law_goods", "_law_contents", "_law_table"] (spOf K sdSum) := by
  refine okD G sc_law_sum [2] (fun as Q E ⟨gs, cs, tb, x, e, _⟩ => by subst e; exact ⟨rfl, rfl⟩) ⟨_, fun cdv A outer s H E ad F0 H0 hr => (pds_one (psd_ret (pd_lc (own := [("_law_k", 3)]) (by rfl) sc_law_sum.nd (pid_range1 (by rfl) T.b_range (pda_cons (pd_builtB (fun h => pe_callB call_len_seq (by rfl) T.b_len (by decide +kernel) h) cn_len.op (pda_cons (pd_var (pv 0)) pda_nil)) pda_nil)) (blkOk_by (own := [("_law_k", 3)]) (N := ["_law_goods", "_law_contents", "_law_table", "_law_k", "_law_thing", "_law_count"]) (sc := defScope s_law_sum) (by decide +kernel)) (fun _ _ _ _ _ => (pgd_name (i := 3) (vs := [3]) (pg_name (i := 3) sc_law_sum.nd rfl (.inr rfl)) (by show ¬ (3 ∈ ([2] : List Nat)); decide) (by decide))) (fun _ _ _ _ _ => ptsd_nil) (fun _ _ _ _ _ => (pd_builtB (fun h => pe_callB (cr_sum rfl) (by rfl) T.b_sum (by decide +kernel) h) cn_sum.op (pda_cons (pd_lc (own := [("_law_thing", 4), ("_law_count", 5)]) (by rfl) sc_law_sum.nd (pid_seq (pd_var (pv 1))) (blkOk_by (own := [("_law_thing", 4), ("_law_count", 5)]) (N := ["_law_goods", "_law_contents", "_law_table", "_law_k", "_law_thing", "_law_count"]) (by with_unfolding_all rfl)) (fun _ _ _ _ _ => (PG.or (pgd_tup (is := [4, 5]) (vs := [4, 5]) (pg_tup rfl (pgs_cons (pg_name (i := 4) sc_law_sum.nd rfl (.inl rfl)) (pgs_cons (pg_name (i := 5) sc_law_sum.nd rfl (.inl rfl)) pgs_nil))) rfl (by show ∀ i ∈ ([4, 5] : List Nat), ¬ (i ∈ ([2] : List Nat)) ∧ i ∈ ([4, 5] : List Nat); decide)) (pgd_lst (is := [4, 5]) (vs := [4, 5]) (pg_unl rfl (pgs_cons (pg_name (i := 4) sc_law_sum.nd rfl (.inl rfl)) (pgs_cons (pg_name (i := 5) sc_law_sum.nd rfl (.inl rfl)) pgs_nil))) rfl (by show ∀ i ∈ ([4, 5] : List Nat), ¬ (i ∈ ([2] : List Nat)) ∧ i ∈ ([4, 5] : List Nat); decide)))) (fun _ _ _ _ _ => ptsd_nil) (fun _ _ _ _ _ => (pd_op op_mul (op2_I fun _ _ _ => .int _) (pd_var (pv 5)) (pd_ix ix_list op2_ixL (pd_getKO (j := 2) (fun ho hi => pe_dget (hu_of hr) ho hi (fun _ _ => rfl)) (pv 2) (pd_var (pv 4))) (pd_var (pv 3)) (fun _ _ => rfl)))) (by show ∀ i ∈ ([4, 5] : List Nat), ¬ (i ∈ ([2] : List Nat)); decide)) pda_nil))) (by show ∀ i ∈ ([3] : List Nat), ¬ (i ∈ ([2] : List Nat)); decide)))), ?_⟩
  rintro as Qd Ed ⟨gs, qs, tb, y, rfl, hy, hg, hc, hk, ht, k⟩
  refine DR.start (δ' := [some (.d (.lst (gs.map .str))), some (.d y), some (.own (.dK (tbK tb))), none, none, none]) rfl ?_
  walk_at "dd"
  refine ⟨by rw [List.length_map]; omega, by rw [List.length_map]; omega, ?_⟩
  refine DR.lc_inv (fun i acc δ => acc = (((List.range i).map fun k => ((qs.map (·.2)).map (termV tb k)).sum).map .int) ∧ δ = [some (.d (.lst (gs.map .str))), some (.d y), some (.own (.dK (tbK tb))), none, none, none]) ⟨rfl, rfl⟩ ?_ ?_
  · rintro i x acc δ N hx ⟨rfl, rfl⟩ kN
    obtain ⟨rfl, hin⟩ := upto_at hx
    have hin : i < gs.length := by
      have h2 : i < ((gs.map D.str).length : Int).toNat := hin
      rw [List.length_map] at h2
      omega
    walk_at "dd"
    refine seq_row rfl hy ?_
    refine DR.lc_mapM (l := qs) (r := entD) (fun q => D.int (termV tb i q.2)) (fun q acc N hcm hl3 kN => ?_) ?_
    · obtain ⟨hkey, hlo, hhi⟩ := hk q hcm
      obtain ⟨hv, v, hm, ev⟩ := val_tb hkey
      have hlen : i < (lookT tb q.2.1).length := by rw [ev, ht _ hm]; exact hin
      have go : ∀ {Q : DSt → Prop} {δ : DSt}, Q ((δ.set 4 (some (.d (.str q.2.1)))).set 5 (some (.d (.int q.2.2)))) → orG (tupG [4, 5]) (lstG [4, 5]) (entD q) δ Q := fun {Q δ} h => by
        obtain ⟨b, c⟩ := q
        cases b
        · exact .inr ⟨_, rfl, h⟩
        · exact .inl ⟨_, rfl, h⟩
      refine go ?_
      walk_at "dd"
      refine ⟨_, .inr q.2.1, _, rfl, rfl, hv, ?_⟩
      walk_at "dd"
      refine ⟨_, _, .inl rfl, atI_map (List.getElem?_eq_getElem hlen), ?_⟩
      walk_at "dd"
      have e : q.2.2 * (lookT tb q.2.1)[i] = termV tb i q.2 := by
        unfold termV
        rw [List.getD_eq_getElem?_getD, List.getElem?_eq_getElem hlen]
        rfl
      rw [e]
      exact ⟨Nat.lt_of_lt_of_le hl3 (Nat.le_trans hc (show 4 ≤ sizeLine by decide)), kN⟩
    walk_at "dd"
    refine ⟨(qs.map (·.2)).map (termV tb i), .inl (by rw [List.map_map, List.map_map]; rfl), ?_⟩
    walk_at "dd"
    refine ⟨Nat.lt_of_lt_of_le (show _ < 5 by rw [List.length_map, List.length_map, List.length_range]; omega) (by decide), kN _ _ ⟨?_, rfl⟩⟩
    rw [List.range_succ, List.map_append, List.map_append]
    rfl
  · rintro acc δ ⟨rfl, rfl⟩
    walk_at "dd"
    rw [upto_len, List.length_map] at *
    exact k
end
end KT

set_option Elab.async false
set_option linter.all false
set_option maxRecDepth 100000
set_option maxHeartbeats 0
set_option pp.deepTerms false
set_option pp.deepTerms.threshold 8


namespace KT
open PySem PySem.Spec PyProof.Rows L2 DL
/-! ### a market -/
def zeroV (n : Nat) : List Int := List.replicate n 0
def unitV (n i : Nat) : List Int := (List.range n).map fun j => if i = j then 1 else 0
def tab0 (gs : List Str) (i : Nat) : List (Str × List Int) := (gs.take i).zipIdx.map fun p => (p.1, unitV gs.length p.2)
abbrev Row := Str × List (Str × Int)
abbrev Tb := List (Str × List Int)
def tabOf (n : Nat) (tb : Tb) (rs : List Row) : Tb := rs.foldl (fun tb r => tb ++ [(r.1, sumV n tb r.2)]) tb
def RowOk (n : Nat) (tb : Tb) (r : Row) : Prop := (r.1 ≠ "cash" ∧ 1 ≤ r.1.length ∧ r.1.length ≤ 12 ∧ Low r.1) ∧ r.1 ∉ tb.map (·.1) ∧ Cont (tb.map (·.1)) r.2 ∧ sumV n tb r.2 ≠ zeroV n
def RowsOk (n : Nat) : Tb → List Row → Prop
  | _, [] => True
  | tb, r :: rs => RowOk n tb r ∧ RowsOk n (tb ++ [(r.1, sumV n tb r.2)]) rs
theorem rowsOk_snoc {n : Nat} {r : Row} : ∀ {rs : List Row} {tb : Tb}, RowsOk n tb rs → RowOk n (tabOf n tb rs) r → RowsOk n tb (rs ++ [r])
  | [], _, _, h => ⟨h, True.intro⟩
  | _ :: rs, _, h, g => ⟨h.1, rowsOk_snoc h.2 g⟩
theorem tabOf_snoc {n : Nat} {tb : Tb} {rs : List Row} {r : Row} : tabOf n tb (rs ++ [r]) = tabOf n tb rs ++ [(r.1, sumV n (tabOf n tb rs) r.2)] := by
  unfold tabOf
  rw [List.foldl_append]
  rfl
theorem tabOf_keys {n : Nat} : ∀ {rs : List Row} {tb : Tb}, (tabOf n tb rs).map (·.1) = tb.map (·.1) ++ rs.map (·.1)
  | [], tb => (List.append_nil _).symm
  | r :: rs, tb => by
    show (tabOf n (tb ++ [(r.1, sumV n tb r.2)]) rs).map (·.1) = _
    rw [tabOf_keys, List.map_append, List.append_assoc]
    rfl
theorem tab0_keys {gs : List Str} {i : Nat} : (tab0 gs i).map (·.1) = gs.take i := by
  unfold tab0
  rw [List.map_map]
  exact List.zipIdx_map_fst _ _
theorem tab0_snoc {gs : List Str} {i : Nat} (h : i < gs.length) : tab0 gs (i + 1) = tab0 gs i ++ [(gs[i], unitV gs.length i)] := by
  unfold tab0
  rw [List.take_succ, List.getElem?_eq_getElem h, List.zipIdx_append, List.map_append]
  simp [Nat.min_eq_left (Nat.le_of_lt h)]
/-- each thing has as many counts as there are goods, and not all of them 0 -/
def TbOk (n : Nat) (tb : Tb) : Prop := ∀ p ∈ tb, p.2.length = n ∧ p.2 ≠ zeroV n
theorem sumV_len {n : Nat} {tb : Tb} {cs : List (Str × Int)} : (sumV n tb cs).length = n := by
  unfold sumV
  rw [List.length_map, List.length_range]
theorem unitV_ok {n i : Nat} (h : i < n) : (unitV n i).length = n ∧ unitV n i ≠ zeroV n := by
  unfold unitV zeroV
  refine ⟨by rw [List.length_map, List.length_range], fun e => ?_⟩
  have e1 := congrArg (fun l : List Int => l[i]?) e
  simp only [List.getElem?_map, List.getElem?_range h, List.getElem?_replicate, h, if_true] at e1
  simp at e1
theorem tab0_ok {gs : List Str} {i : Nat} : TbOk gs.length (tab0 gs i) := fun p hp => by
  unfold tab0 at hp
  obtain ⟨q, hq, rfl⟩ := List.mem_map.mp hp
  have := List.mem_zipIdx hq
  refine unitV_ok ?_
  have h2 := this.2.1
  rw [List.length_take] at h2
  omega
theorem putKD_fresh {k : Key} {v : D} : ∀ {kvs : List (Key × D)}, k ∉ kvs.map (·.1) → putKD kvs k v = kvs ++ [(k, v)] := by
  intro kvs h
  unfold putKD
  rw [if_neg]
  intro h2
  obtain ⟨kv, hm, e⟩ := List.any_eq_true.mp h2
  exact h (by rw [← of_decide_eq_true e]; exact List.mem_map_of_mem hm)
/-- one thing alone, some of it, is something -/
theorem sumV_one {n : Nat} {tb : Tb} {c : Str × Int} (ht : TbOk n tb) (hk : c.1 ∈ tb.map (·.1)) (hc : c.2 ≠ 0) : sumV n tb [c] ≠ zeroV n := fun e => by
  obtain ⟨_, v, hm, ev⟩ := val_tb hk
  obtain ⟨h1, h2⟩ := ht _ hm
  refine h2 (List.ext_getElem? fun i => ?_)
  have e1 := congrArg (fun l : List Int => l[i]?) e
  unfold sumV zeroV at e1
  unfold zeroV
  rcases Nat.lt_or_ge i n with hi | hi
  · simp only [List.getElem?_map, List.getElem?_range hi, List.getElem?_replicate, hi, if_true, Option.map_some, List.map_cons, List.map_nil] at e1
    have hv : i < v.length := by rw [h1]; exact hi
    have e2 : termV tb i c = 0 := by
      have := Option.some.inj e1
      simpa using this
    unfold termV at e2
    rw [ev, List.getD_eq_getElem?_getD, List.getElem?_eq_getElem hv] at e2
    rw [List.getElem?_eq_getElem hv, List.getElem?_replicate, if_pos hi]
    rcases Int.mul_eq_zero.mp e2 with z | z
    · exact absurd z hc
    · exact congrArg some z
  · rw [List.getElem?_eq_none (by rw [h1]; exact hi), List.getElem?_eq_none (by rw [List.length_replicate]; exact hi)]
theorem keys_tb {tb : Tb} {x : Str} (h : x ∉ tb.map (·.1)) : (.inr x : Key) ∉ (tbK tb).map (·.1) := fun z => by
  obtain ⟨kv, hm, e⟩ := List.mem_map.mp z
  obtain ⟨p, hp, rfl⟩ := List.mem_map.mp hm
  have e : p.1 = x := Sum.inr.inj e
  exact h (by rw [← e]; exact List.mem_map_of_mem hp)
theorem put_tb {tb : Tb} {x : Str} {v : List Int} (h : x ∉ tb.map (·.1)) : putKD (tbK tb) (.inr x) (.lst (v.map .int)) = tbK (tb ++ [(x, v)]) := by
  rw [putKD_fresh (keys_tb h)]
  show _ = List.map _ (tb ++ [(x, v)])
  rw [List.map_append]
  rfl
theorem keysD_tb {tb : Tb} : keysD (tbK tb) = (tb.map (·.1)).map .str := by
  unfold keysD
  rw [List.map_map, List.map_map]
  rfl
theorem okK_tb {tb : Tb} (h : ∀ x ∈ tb.map (·.1), Low x) : ∀ kv ∈ tbK tb, okK kv.1 := fun kv hk => by
  obtain ⟨p, hp, rfl⟩ := List.mem_map.mp hk
  exact strOk_of fun c hc => by
    have := h p.1 (List.mem_map_of_mem hp) c hc
    omega
theorem cut_hi {α : Type} {f : α → D} {l : List α} {b : Nat} (h : b ≤ l.length) : DL.cutD (l.map f) none (some (b : Int)) = (l.take b).map f := by
  have e2 : HT.sIx (l.map f).length (l.map f).length (some (b : Int)) = b := by unfold HT.sIx; rw [List.length_map]; simp; split <;> omega
  have e1 : HT.sIx (l.map f).length 0 none = 0 := rfl
  unfold DL.cutD
  rw [e1, e2, List.drop_zero, Nat.sub_zero, ← List.map_take]
theorem cut_lh {α : Type} {f : α → D} {l : List α} {a b : Nat} (h1 : a ≤ l.length) (h2 : b ≤ l.length) : DL.cutD (l.map f) (some (a : Int)) (some (b : Int)) = ((l.drop a).take (b - a)).map f := by
  have e1 : HT.sIx (l.map f).length 0 (some (a : Int)) = a := by unfold HT.sIx; rw [List.length_map]; simp; split <;> omega
  have e2 : HT.sIx (l.map f).length (l.map f).length (some (b : Int)) = b := by unfold HT.sIx; rw [List.length_map]; simp; split <;> omega
  unfold DL.cutD
  rw [e1, e2, ← List.map_drop, ← List.map_take]
theorem noK_strs : ∀ {l : List Str}, noKL (l.map .str) = true
  | [] => rfl
  | _ :: l => by rw [List.map_cons]; exact noK_strs (l := l)
/-- goods, parcels and what the law's table tells of them -/
structure Mkt (gs : List Str) (rs : List Row) : Prop where
  goods : Goods gs
  few : rs.length ≤ 6
  rows : RowsOk gs.length (tab0 gs gs.length) rs
  names : ∀ x ∈ gs ++ rs.map (·.1), x ≠ "other"
abbrev rowD (r : Row) : D := .tup [.str r.1, .lst (r.2.map ctD)]
abbrev tabM (gs : List Str) (rs : List Row) : Tb := tabOf gs.length (tab0 gs gs.length) rs
section
variable {P : Program} {w : World} {K : PySem.W.Frag} {mg : Str → Option Value} {base : Heap} {C BR : Addr}
def sdMarket : SpD := fun as Q _ => ∃ (ys : List D) (m : Nat), as = [.own (.lst ys), .d (.int m)] ∧ Bg ys ∧ m ≤ 6 ∧ ∀ (gs : List Str) (rs : List Row) (ys : List D), Mkt gs rs → Bg ys → Q (.own (.lst [.lst (gs.map .str), .lst (rs.map rowD), .dK (tbK (tabM gs rs))])) [.lst ys]
abbrev s_law_market : Stmt := top 41
theorem sc_law_market : FnScope ["_law_bag_here", "_law_most", "_law_names_here", "_law_goods", "_law_rows", "_law_table", "_law_k", "_law_good", "_law_name", "_law_contents", "_law_j", "_law_one"] ["_law_bag_here", "_law_most"] (defScope s_law_market) := ⟨rfl, rfl, rfl, by decide +kernel, rfl, by decide +kernel, by decide +kernel⟩
theorem ok_market (D_law_take : DefD P w K mg base "_law_take" 1 ["_law_bag_here", "_law_many"] sdTake) (D_law_names : DefD P w K mg base "_law_names" 5 ["_law_bag_here", "_law_many"] sdNames) (D_law_content_rows : DefD P w K mg base "_law_content_rows" 5 ["_law_bag_here", "_law_known"] sdCont) (D_law_sum : DefD P w K mg base "_law_sum" 1 ["_law_goods", "_law_contents", "_law_table"] sdSum) {f : Addr} {fd : FuncData} (G : Fun K "_law_market" "_law_market" s_law_market f fd) (T : TxtP K mg C BR) : FnOk P w K mg base (L2.CX P w) 7 f fd ["_law_bag_here", "_law_most"] (spOf K sdMarket) := by
  refine okD G sc_law_market [0] (fun as Q E ⟨ys, m, e, _⟩ => by subst e; exact ⟨rfl, rfl⟩) ⟨_, fun cdv A outer s H E ad F0 H0 hr => (pds_cons (psd_set (i := 2) (pd_call D_law_names.ok (hr.mono (by decide)) (by rfl) D_law_names.mg D_law_names.kp D_law_names.b (takes_of rfl rfl rfl rfl) (pda_own (i := 0) (pv 0) (pda_cons (pd_const pe_int (fun _ => .int _)) pda_nil))) (by show ¬ (2 ∈ ([0] : List Nat)); decide) sc_law_market.nd rfl (.inl rfl))
      (pds_cons (psd_par3 (i := 3) (j := 4) (l := 5) (oi := false) (oj := true) (ol := true) (pka_cons (pd_slice (pd_var (pv 2)) pod_none (pod_some (pd_op op_add (op2_I0 fun _ _ _ => .int _) (pd_const pe_int (fun _ => .int _)) (pd_call D_law_take.ok (hr.mono (by decide)) (by rfl) D_law_take.mg D_law_take.kp D_law_take.b (takes_of rfl rfl rfl rfl) (pda_own (i := 0) (pv 0) (pda_cons (pd_const pe_int (fun _ => .int _)) pda_nil)))))) (pka_cons (pd_lst (fun h => pe_lst h) pda_nil) (pka_cons (pd_newDK pe_dnewK) pka_nil))) (by show ¬ (3 ∈ ([0] : List Nat)); decide) (by show ¬ (4 ∈ ([0] : List Nat)); decide) (by show ¬ (5 ∈ ([0] : List Nat)); decide) (fun h => ps_par3 (i := 3) (j := 4) (l := 5) (by rfl) sc_law_market.nd rfl rfl rfl (by decide) (by decide) (by decide) rfl rfl rfl h (by rfl)) (by decide) (by decide) (by decide))
      (pds_cons (psd_for (passes_of rfl) rfl (pid_enum (by rfl) T.b_enumerate (pda_cons (pd_var (pv 3)) pda_nil)) (pgd_tup (is := [6, 7]) (vs := [6, 7]) (pg_tup rfl (pgs_cons (pg_name (i := 6) sc_law_market.nd rfl (.inr rfl)) (pgs_cons (pg_name (i := 7) sc_law_market.nd rfl (.inl rfl)) pgs_nil))) rfl (by show ∀ i ∈ ([6, 7] : List Nat), ¬ (i ∈ ([0] : List Nat)) ∧ i ∈ ([6, 7] : List Nat); decide))
      (pds_one (psd_putK (j := 5) (hu_of hr) (fun ho hi hv => ps_dput (hu_of hr) ho hi hv (by rfl)) (pv 5) (pd_lc (own := [("_law_j", 10)]) (by rfl) sc_law_market.nd (pid_range1 (by rfl) T.b_range (pda_cons (pd_builtB (fun h => pe_callB call_len_seq (by rfl) T.b_len (by decide +kernel) h) cn_len.op (pda_cons (pd_var (pv 3)) pda_nil)) pda_nil)) (blkOk_by (own := [("_law_j", 10)]) (N := ["_law_bag_here", "_law_most", "_law_names_here", "_law_goods", "_law_rows", "_law_table", "_law_k", "_law_good", "_law_name", "_law_contents", "_law_j", "_law_one"]) (sc := defScope s_law_market) (by decide +kernel)) (fun _ _ _ _ _ => (pgd_name (i := 10) (vs := [10]) (pg_name (i := 10) sc_law_market.nd rfl (.inl rfl)) (by show ¬ (10 ∈ ([0] : List Nat)); decide) (by decide))) (fun _ _ _ _ _ => ptsd_nil) (fun _ _ _ _ _ => (pd_builtB (fun h => pe_callTy call_int1 (by rfl) T.b_int (by decide +kernel) h) cn_intB.op (pda_cons (pd_cmp op_eq op2_eq.op (pd_var (pv 6)) (pd_var (pv 10)) (nomark _)) pda_nil))) (by show ∀ i ∈ ([10] : List Nat), ¬ (i ∈ ([0] : List Nat)); decide)) (pd_var (pv 7)))))
      (pds_cons (psd_for (passes_of rfl) rfl (pid_list (pd_slice (pd_var (pv 2)) (pod_some (pd_const pe_int (fun _ => .int _))) (pod_some (pd_op op_add (op2_I0 fun _ _ _ => .int _) (pd_const pe_int (fun _ => .int _)) (pd_call D_law_take.ok (hr.mono (by decide)) (by rfl) D_law_take.mg D_law_take.kp D_law_take.b (takes_of rfl rfl rfl rfl) (pda_own (i := 0) (pv 0) (pda_cons (pd_op op_add (op2_I0 fun _ _ _ => .int _) (pd_var (pv 1)) (pd_const pe_int (fun _ => .int _))) pda_nil))))))) (pgd_name (i := 8) (vs := [8]) (pg_name (i := 8) sc_law_market.nd rfl (.inl rfl)) (by show ¬ (8 ∈ ([0] : List Nat)); decide) (by decide))
      (pds_cons (psd_set (i := 9) (pd_call D_law_content_rows.ok (hr.mono (by decide)) (by rfl) D_law_content_rows.mg D_law_content_rows.kp D_law_content_rows.b (takes_of rfl rfl rfl rfl) (pda_own (i := 0) (pv 0) (pda_cons (pd_lockO (j := 5) (fun F0 H0 => (pd_lc (own := [("_law_one", 11)]) (by rfl) sc_law_market.nd (pid_lk (pd_var (pv 5))) (blkOk_by (own := [("_law_one", 11)]) (N := ["_law_bag_here", "_law_most", "_law_names_here", "_law_goods", "_law_rows", "_law_table", "_law_k", "_law_good", "_law_name", "_law_contents", "_law_j", "_law_one"]) (sc := defScope s_law_market) (by decide +kernel)) (fun _ _ _ _ _ => (pgd_name (i := 11) (vs := [11]) (pg_name (i := 11) sc_law_market.nd rfl (.inl rfl)) (by show ¬ (11 ∈ ([] : List Nat)); decide) (by decide))) (fun _ _ _ _ _ => ptsd_nil) (fun _ _ _ _ _ => (pd_var (pv 11))) (by show ∀ i ∈ ([11] : List Nat), ¬ (i ∈ ([] : List Nat)); decide)))) pda_nil))) (by show ¬ (9 ∈ ([0] : List Nat)); decide) sc_law_market.nd rfl (.inl rfl))
      (pds_cons (psd_if (ptd_cmp (op_eqD hr.units) op2_eqD.op (pd_call D_law_sum.ok (hr.mono (by decide)) (by rfl) D_law_sum.mg D_law_sum.kp D_law_sum.b (takes_of rfl rfl rfl rfl) (pda_cons (pd_var (pv 3)) (pda_cons (pd_var (pv 9)) (pda_own (i := 5) (pv 5) pda_nil)))) (pd_op op_rep op2_rep (pd_lst (fun h => pe_lst h) (pda_cons (pd_const pe_int (fun _ => .int _)) pda_nil)) (pd_builtB (fun h => pe_callB call_len_seq (by rfl) T.b_len (by decide +kernel) h) cn_len.op (pda_cons (pd_var (pv 3)) pda_nil))) (nomark _)) (pds_one (psd_set (i := 9) (pd_slice (pd_var (pv 9)) pod_none (pod_some (pd_const pe_int (fun _ => .int _)))) (by show ¬ (9 ∈ ([0] : List Nat)); decide) sc_law_market.nd rfl (.inl rfl))) pds_nil)
      (pds_cons (psd_expr (pd_methO (j := 4) (fun ho h => pe_bm PySem.F.plainAttrs_list PySem.F.slot_list_append PySem.F.type_list_append mt_append ho h) mo_append (pv 4) (pda_cons (pd_tup (fun h => pe_tup h) (pda_cons (pd_var (pv 8)) (pda_cons (pd_var (pv 9)) pda_nil))) pda_nil)))
      (pds_one (psd_putK (j := 5) (hu_of hr) (fun ho hi hv => ps_dput (hu_of hr) ho hi hv (by rfl)) (pv 5) (pd_call D_law_sum.ok (hr.mono (by decide)) (by rfl) D_law_sum.mg D_law_sum.kp D_law_sum.b (takes_of rfl rfl rfl rfl) (pda_cons (pd_var (pv 3)) (pda_cons (pd_var (pv 9)) (pda_own (i := 5) (pv 5) pda_nil)))) (pd_var (pv 8))))))))
      (pds_one (psd_ret (pd_lst (fun h => pe_lst h) (pda_cons (pd_var (pv 3)) (pda_cons (pd_fvar (i := 4) (pv 4) (by show ¬ (4 ∈ ([0] : List Nat)); decide)) (pda_cons (pd_fvar (i := 5) (pv 5) (by show ¬ (5 ∈ ([0] : List Nat)); decide)) pda_nil)))))))))), ?_⟩
  rintro as Qd Ed ⟨ys, m, rfl, hb, hm, k⟩
  refine DR.start (δ' := [some (.own (.lst ys)), some (.d (.int m)), none, none, none, none, none, none, none, none, none, none]) rfl ?_
  walk_at "dd"
  refine names hb (n := 11) (by decide) (by decide) fun ns ys hn hl ho hb => (fun h => And.intro h h) ?_
  walk_at "dd"
  refine take hb (by decide) (by decide) fun r ys r0 r1 hb => ?_
  walk_at "dd"
  have hg4 : r.toNat < 5 := by omega
  have er : (1 + r : Int) = ((1 + r.toNat : Nat) : Int) := by omega
  rw [er, cut_hi (by omega)]
  have hgl : (ns.take (1 + r.toNat)).length = 1 + r.toNat := by rw [List.length_take]; omega
  have hgs : Goods (ns.take (1 + r.toNat)) := ⟨hn.1.sublist (List.take_sublist _ _), by omega, by omega, fun g hg => hn.2 g (List.mem_of_mem_take hg)⟩
  have hnd : ∀ x ∈ ns.drop 5, x ∉ ns.take (1 + r.toNat) := fun x hx hy => by
    have h5 : (ns.take 5 ++ ns.drop 5).Nodup := by rw [List.take_append_drop]; exact hn.1
    have hz : x ∈ ns.take 5 := by
      rw [show ns.take (1 + r.toNat) = (ns.take 5).take (1 + r.toNat) by rw [List.take_take, Nat.min_eq_left (by omega)]] at hy
      exact List.mem_of_mem_take hy
    exact (List.nodup_append.mp h5).2.2 x hz x hx rfl
  have hgo : ∀ g ∈ ns.take (1 + r.toNat), g ≠ "other" := fun g hg => ho g (List.mem_of_mem_take hg)
  generalize ns.take (1 + r.toNat) = gs at *
  refine ⟨_, _, _, rfl, ?_⟩
  walk_at "dd"
  refine ⟨_, _, rfl, .inl rfl, ?_⟩
  refine DR.for_inv (fun i δ => ∃ p6 p7 : Option DV, δ = [some (.own (.lst ys)), some (.d (.int m)), some (.d (.lst (ns.map .str))), some (.d (.lst (gs.map .str))), some (.own (.lst [])), some (.own (.dK (tbK (tab0 gs i)))), p6, p7, none, none, none, none]) ⟨_, _, rfl⟩ ?_ ?_
  · rintro i x δ N hx ⟨p6, p7, rfl⟩ kN
    obtain ⟨d, hd, rfl⟩ := DR.enum_at hx
    obtain ⟨hi, rfl⟩ : ∃ h : i < gs.length, d = .str gs[i] := by
      rw [List.getElem?_map] at hd
      rcases Nat.lt_or_ge i gs.length with h | h
      · rw [List.getElem?_eq_getElem h] at hd; cases hd; exact ⟨h, rfl⟩
      · rw [List.getElem?_eq_none h] at hd; cases hd
    walk_at "dd"
    refine ⟨by rw [List.length_map]; omega, by rw [List.length_map]; omega, ?_⟩
    refine DR.lc_inv (fun j acc δ => acc = (((List.range j).map fun q => if i = q then (1 : Int) else 0).map .int) ∧ δ = [some (.own (.lst ys)), some (.d (.int m)), some (.d (.lst (ns.map .str))), some (.d (.lst (gs.map .str))), some (.own (.lst [])), some (.own (.dK (tbK (tab0 gs i)))), some (.d (.int i)), some (.d (.str gs[i])), none, none, none, none]) ⟨rfl, rfl⟩ ?_ ?_
    · rintro j x acc δ N hx ⟨rfl, rfl⟩ kN
      obtain ⟨rfl, hj⟩ := upto_at hx
      have hj : j < gs.length := by
        have h2 : j < ((gs.map D.str).length : Int).toNat := hj
        rw [List.length_map] at h2
        omega
      walk_at "dd"
      have e : (if (if false = true then !decide (V.int (i : Int) = V.int (j : Int)) else decide (V.int (i : Int) = V.int (j : Int))) = true then (1 : Int) else 0) = if i = j then 1 else 0 := by
        by_cases c : i = j
        · subst c; simp
        · rw [if_neg c, if_neg]
          simp only [Bool.false_eq_true, if_false, decide_eq_true_eq]
          exact fun z => c (by have := V.int.inj z; omega)
      refine ⟨Nat.lt_of_lt_of_le (show _ < 6 by rw [List.length_map, List.length_map, List.length_range]; have := hgs.2.2.1; omega) (by decide), kN _ _ ⟨?_, rfl⟩⟩
      rw [List.range_succ, List.map_append, List.map_append]
      show _ ++ [D.int _] = _ ++ [D.int (if i = j then 1 else 0)]
      rw [← e]
    · rintro acc δ ⟨rfl, rfl⟩
      have ea : (upto 0 ((gs.map D.str).length : Int).toNat).length = gs.length := by rw [upto_len, List.length_map]; rfl
      rw [ea]
      walk_at "dd"
      have nin : gs[i] ∉ gs.take i := fun z => by
        have h2 := hgs.1
        rw [← List.take_append_drop i gs] at h2
        exact (List.nodup_append.mp h2).2.2 _ z _ (by rw [List.drop_eq_getElem_cons hi]; exact List.mem_cons_self) rfl
      have e : putKD (tbK (tab0 gs i)) (.inr gs[i]) (.lst ((unitV gs.length i).map .int)) = tbK (tab0 gs (i + 1)) := by
        rw [tab0_snoc hi]
        exact put_tb (by rw [tab0_keys]; exact nin)
      refine ⟨_, .inr gs[i], rfl, rfl, ?_, ?_⟩
      · have : (tbK (tab0 gs i)).length ≤ i := by
          unfold tab0
          rw [List.length_map, List.length_map, List.length_zipIdx, List.length_take]
          omega
        exact Nat.lt_of_lt_of_le (show _ < 6 by have := hgs.2.2.1; omega) (by decide)
      · refine kN _ ⟨some (.d (.int i)), some (.d (.str gs[i])), ?_⟩
        rw [← e]
        rfl
  · rintro δ ⟨p6, p7, rfl⟩
    walk_at "dd"
    refine take hb (m := ((m : Nat) : Int) + 1) (by omega) (by omega) fun t ys t0 t1 hb => ?_
    walk_at "dd"
    have et : (5 + t : Int) = ((5 + t.toNat : Nat) : Int) := by omega
    have c5 : DL.cutD (ns.map D.str) (some 5) (some (5 + t)) = ((ns.drop 5).take t.toNat).map .str := by
      rw [et]
      have := cut_lh (f := D.str) (l := ns) (a := 5) (b := 5 + t.toNat) (by omega) (by omega)
      rw [Nat.add_sub_cancel_left] at this
      exact this
    rw [c5]
    have el : (enumL (gs.map D.str)).length = gs.length := by unfold enumL; simp
    refine DR.for_inv (fun i δ => ∃ (ys : List D) (rs : List Row) (p6 p7 p8 p9 : Option DV), δ = [some (.own (.lst ys)), some (.d (.int m)), some (.d (.lst (ns.map .str))), some (.d (.lst (gs.map .str))), some (.own (.lst (rs.map rowD))), some (.own (.dK (tbK (tabM gs rs)))), p6, p7, p8, p9, none, none] ∧ Bg ys ∧ rs.map (·.1) = ((ns.drop 5).take t.toNat).take i ∧ RowsOk gs.length (tab0 gs gs.length) rs ∧ TbOk gs.length (tabM gs rs)) ⟨ys, [], p6, p7, none, none, ?_, hb, rfl, True.intro, tab0_ok⟩ ?_ ?_
    · rw [el]; rfl
    · rintro i x δ N hx ⟨ys, rs, p6, p7, p8, p9, rfl, hb, hrs, hro, hto⟩ kN
      obtain ⟨nm, hnm, rfl⟩ : ∃ nm, ((ns.drop 5).take t.toNat)[i]? = some nm ∧ x = .str nm := by
        rw [List.getElem?_map] at hx
        cases q : ((ns.drop 5).take t.toNat)[i]? with
        | none => rw [q] at hx; cases hx
        | some nm => rw [q] at hx; exact ⟨nm, rfl, (Option.some.inj hx).symm⟩
      have hin : i < ((ns.drop 5).take t.toNat).length := (List.getElem?_eq_some_iff.mp hnm).1
      have hi6 : i < 6 := by rw [List.length_take, List.length_drop] at hin; omega
      have keys : (tabM gs rs).map (·.1) = gs ++ rs.map (·.1) := by rw [tabOf_keys, tab0_keys, List.take_length]
      have rl : rs.length = i := by
        have := congrArg List.length hrs
        rw [List.length_map, List.length_take] at this
        omega
      have sub : ∀ x ∈ rs.map (·.1), x ∈ ns.drop 5 := fun x hx => by rw [hrs] at hx; exact List.mem_of_mem_take (List.mem_of_mem_take hx)
      have knd : (gs ++ rs.map (·.1)).Nodup := List.nodup_append.mpr ⟨hgs.1, by rw [hrs]; exact ((hn.1.sublist (List.drop_sublist _ _)).sublist (List.take_sublist _ _)).sublist (List.take_sublist _ _), fun a ha b hb e => hnd b (sub b hb) (e ▸ ha)⟩
      have gne : gs ≠ [] := fun e => by have := hgs.2.1; rw [e] at this; exact absurd this (by decide)
      have ht5 := hgs.2.2.1
      refine DR.nameg ?_
      with_reducible refine DR.cut (fun δ => ∃ (ys : List D) (cs : List (Str × Int)), δ = [some (.own (.lst ys)), some (.d (.int m)), some (.d (.lst (ns.map .str))), some (.d (.lst (gs.map .str))), some (.own (.lst (rs.map rowD))), some (.own (.dK (tbK (tabM gs rs)))), p6, p7, some (.d (.str nm)), some (.d (.lst (cs.map ctD))), none, none] ∧ Bg ys ∧ Cont (gs ++ rs.map (·.1)) cs) (fun N kN => ?_) ?_
      · walk_at "dd"
        refine DR.lockO (kvs := tbK (tabM gs rs)) rfl fun p od vs => ?_
        walk_at "dd"
        refine DR.lkI ?_
        walk_at "dd"
        refine ⟨p, od, vs, _, rfl, okK_tb (fun x hx => ?_), ?_⟩
        · rw [keys] at hx
          rcases List.mem_append.mp hx with h | h
          · exact (hgs.2.2.2 x h).2.2.2
          · exact (hn.2 x (List.mem_of_mem_drop (sub x h))).2.2.2
        rw [keysD_tb, keys]
        refine DR.lc_mapM (l := gs ++ rs.map (·.1)) (r := D.str) D.str (fun g acc N hg hl3 kN => ?_) ?_
        · walk_at "dd"
          exact ⟨Nat.lt_of_lt_of_le hl3 (Nat.le_trans (show (gs ++ rs.map (·.1)).length ≤ 11 by rw [List.length_append, List.length_map]; omega) (by decide)), kN⟩
        refine ⟨noK_strs, ?_⟩
        walk_at "dd"
        refine ⟨ys, gs ++ rs.map (·.1), rfl, hb, fun e => gne (List.append_eq_nil_iff.mp e).1, by rw [List.length_append, List.length_map]; omega, knd, fun cs ys hcs hb => ?_⟩
        walk_at "dd"
        exact kN _ ⟨ys, cs, rfl, hb, hcs⟩
      rintro δ ⟨ys, cs, rfl, hb, hcs⟩
      with_reducible refine DR.cut (fun δ => ∃ cs : List (Str × Int), δ = [some (.own (.lst ys)), some (.d (.int m)), some (.d (.lst (ns.map .str))), some (.d (.lst (gs.map .str))), some (.own (.lst (rs.map rowD))), some (.own (.dK (tbK (tabM gs rs)))), p6, p7, some (.d (.str nm)), some (.d (.lst (cs.map ctD))), none, none] ∧ Cont (gs ++ rs.map (·.1)) cs ∧ sumV gs.length (tabM gs rs) cs ≠ zeroV gs.length) (fun N kN => ?_) ?_
      · have hck : ∀ c ∈ cs, c.1 ∈ (tabM gs rs).map (·.1) ∧ -1000 ≤ c.2 ∧ c.2 ≤ 1000 := fun c h => ⟨by rw [keys]; exact (hcs.2.2.2 c h).1, (hcs.2.2.2 c h).2.2⟩
        walk_at "dd"
        refine summ ht5 hcs.2.1 hck (fun p hp => (hto p hp).1) ?_
        walk_at "dd"
        have hz : (List.replicate ((gs.map D.str).length : Int).toNat [(DV.d (D.int 0)).toD]).flatten = (zeroV gs.length).map .int := by
          rw [List.length_map, Int.toNat_natCast]
          unfold zeroV
          simp [DV.toD]
        refine ⟨by rw [List.length_map]; omega, by rw [List.length_map]; omega, by rw [List.length_map]; exact Nat.le_trans (show 1 * ((gs.length : Int)).toNat ≤ 5 by omega) (by decide), ?_⟩
        show eqP false (D.lst ((sumV gs.length (tabM gs rs) cs).map .int)) (D.lst (List.replicate ((gs.map D.str).length : Int).toNat [(DV.d (D.int 0)).toD]).flatten) _
        rw [hz]
        refine ⟨(dp_lst (dp_map fun _ _ => dp_int)).cmp, (dp_lst (dp_map fun _ _ => dp_int)).cmp, ?_⟩
        rw [show (if false = true then !PyData.eqv (D.lst ((sumV gs.length (tabM gs rs) cs).map .int)).py (D.lst ((zeroV gs.length).map .int)).py else PyData.eqv (D.lst ((sumV gs.length (tabM gs rs) cs).map .int)).py (D.lst ((zeroV gs.length).map .int)).py) = decide (sumV gs.length (tabM gs rs) cs = zeroV gs.length) from eqv_lsts eqv_ints]
        walk_at "dd"
        refine DR.split (fun c => ?_) (fun c => ?_)
        · walk_at "dd"
          obtain ⟨c0, cr, rfl⟩ : ∃ c0 cr, cs = c0 :: cr := by
            cases cs with
            | nil => exact absurd rfl hcs.1
            | cons c0 cr => exact ⟨c0, cr, rfl⟩
          have hc0 := hcs.2.2.2 c0 List.mem_cons_self
          have e1 : DL.cutD ((c0 :: cr).map ctD) none (some 1) = [c0].map ctD := cut_hi (b := 1) (Nat.succ_le_succ (Nat.zero_le _))
          rw [e1]
          exact kN _ ⟨[c0], rfl, ⟨(fun h => nomatch h), by show 1 ≤ 4; decide, List.nodup_cons.mpr ⟨(fun h => nomatch h), .nil⟩, fun c h => by rw [List.mem_singleton.mp h]; exact hc0⟩, sumV_one hto (by rw [keys]; exact hc0.1) hc0.2.1⟩
        · walk_at "dd"
          exact kN _ ⟨cs, rfl, hcs, c⟩
      rintro δ ⟨cs, rfl, hcs, hne⟩
      have hck : ∀ c ∈ cs, c.1 ∈ (tabM gs rs).map (·.1) ∧ -1000 ≤ c.2 ∧ c.2 ≤ 1000 := fun c h => ⟨by rw [keys]; exact (hcs.2.2.2 c h).1, (hcs.2.2.2 c h).2.2⟩
      walk_at "dd"
      refine ⟨[_], _, rfl, rfl, _, rfl, by rw [List.length_map]; exact Nat.lt_of_lt_of_le (show rs.length < 6 by omega) (by decide), ?_⟩
      walk_at "dd"
      refine summ ht5 hcs.2.1 hck (fun p hp => (hto p hp).1) ?_
      walk_at "dd"
      have nmem : nm ∈ (ns.drop 5).take t.toNat := List.mem_of_getElem? hnm
      have nin : nm ∉ (tabM gs rs).map (·.1) := fun z => by
        rw [keys] at z
        rcases List.mem_append.mp z with h | h
        · exact hnd nm (List.mem_of_mem_take nmem) h
        · rw [hrs] at h
          have h2 : ((ns.drop 5).take t.toNat).Nodup := (hn.1.sublist (List.drop_sublist _ _)).sublist (List.take_sublist _ _)
          rw [← List.take_append_drop i ((ns.drop 5).take t.toNat)] at h2
          refine (List.nodup_append.mp h2).2.2 _ h nm ?_ rfl
          rw [List.drop_eq_getElem_cons hin, (List.getElem?_eq_some_iff.mp hnm).2]
          exact List.mem_cons_self
      have e : putKD (tbK (tabM gs rs)) (.inr nm) (.lst ((sumV gs.length (tabM gs rs) cs).map .int)) = tbK (tabM gs (rs ++ [(nm, cs)])) := by
        rw [show tabM gs (rs ++ [(nm, cs)]) = _ from tabOf_snoc]
        exact put_tb nin
      refine ⟨_, .inr nm, rfl, rfl, ?_, ?_⟩
      · rw [List.length_map]
        have := congrArg List.length keys
        rw [List.length_map, List.length_append, List.length_map] at this
        exact Nat.lt_of_lt_of_le (show _ < 12 by omega) (by decide)
      · refine kN _ ⟨ys, rs ++ [(nm, cs)], p6, p7, some (.d (.str nm)), some (.d (.lst (cs.map ctD))), ?_, hb, ?_, rowsOk_snoc hro ⟨hn.2 nm (List.mem_of_mem_drop (List.mem_of_mem_take nmem)), nin, by rw [keys]; exact hcs, hne⟩, fun p hp => ?_⟩
        · rw [← e, List.map_append]
          rfl
        · rw [List.map_append, hrs, List.take_succ, hnm]
          rfl
        · rw [show tabM gs (rs ++ [(nm, cs)]) = _ from tabOf_snoc] at hp
          rcases List.mem_append.mp hp with h | h
          · exact hto p h
          · rw [List.mem_singleton.mp h]
            exact ⟨sumV_len, hne⟩
    · rintro δ ⟨ys, rs, p6, p7, p8, p9, rfl, hb, hrs, hro, hto⟩
      walk_at "dd"
      have hsub : ∀ x ∈ rs.map (·.1), x ∈ ns := fun x hx => by rw [hrs] at hx; exact List.mem_of_mem_drop (List.mem_of_mem_take (List.mem_of_mem_take hx))
      have hlen := congrArg List.length hrs
      rw [List.length_map, List.length_take, List.length_take] at hlen
      exact k gs rs ys ⟨hgs, by omega, hro, fun x hx => (List.mem_append.mp hx).elim (fun h => hgo x h) fun h => ho x (hsub x h)⟩ hb
end
end KT

set_option Elab.async false
set_option linter.all false
set_option maxRecDepth 100000
set_option maxHeartbeats 0
set_option pp.deepTerms false
set_option pp.deepTerms.threshold 8


namespace KT
open PySem PySem.Spec PyProof.Rows L2 DL
structure TxtQ (K : PySem.W.Frag) (mg : Str → Option Value) (C BR OG : Addr) : Prop extends TxtP K mg C BR where
  b_any : mg "any" = none
  c_OtherGoods : mg "OtherGoods" = some (.ref OG)
  oe_OtherGoods : Oex0 K OG
  si_Position : SlX.SIsi K C
  cr_Position : ClX.CRead K C (.type "type")
  no_list : PySem.W.kitOne K (.type "list") (.ref C) = some false
  no_tup : PySem.W.kitOne K (.type "tuple") (.ref C) = some false
  no_int : PySem.W.kitOne K (.type "int") (.ref C) = some false
  no_non : PySem.W.kitOne K (.type "NoneType") (.ref C) = some false
theorem kit_own {K : PySem.W.Frag} {C : Addr} : PySem.W.kitOne K (.ref C) (.ref C) = some true := by
  unfold PySem.W.kitOne
  exact if_pos (beq_iff_eq.mpr rfl)
section
variable {P : Program} {w : World} {K : PySem.W.Frag} {mg : Str → Option Value} {base : Heap} {C OG BG BP BR : Addr}
def sdIsFlat (C : Addr) : SpD := fun as Q _ => ∃ (gs : List Str) (js : List Int), as = [.d (posD C gs js)] ∧ Q (.d (.bl (!js.any fun i => i != 0))) []
abbrev s_Position_is_flat : Stmt := inClass (top 24) 3
theorem sc_Position_is_flat : FnScope ["self"] ["self"] (defScope s_Position_is_flat) := ⟨rfl, rfl, rfl, by decide +kernel, rfl, by decide +kernel, by decide +kernel⟩
theorem ok_pflatQ {f : Addr} {fd : FuncData} (G : Fun K "is_flat" "Position.is_flat" s_Position_is_flat f fd) (T : TxtQ K mg C BR OG) : FnOk P w K mg base (L2.CX P w) 1 f fd ["self"] (spOf K (sdIsFlat C)) := by
  refine okD G sc_Position_is_flat [] (fun as Q E ⟨gs, js, e, _⟩ => by subst e; exact ⟨rfl, rfl⟩) ⟨_, fun cdv A outer s H E ad F0 H0 hr => (pds_one (psd_ret (pd_not (pd_builtB (fun h => pe_callB (cr_anyI rfl) (by rfl) T.b_any (by decide +kernel) h) cn_anyI.op (pda_cons (pd_fld (pd_var (pv 0)) T.cl_Position (T.na_Position _ (by decide)) rfl) pda_nil))))), ?_⟩
  rintro as Qd Ed ⟨gs, js, rfl, k⟩
  refine DR.start (δ' := [some (.d (posD C gs js))]) rfl ?_
  walk_at "dd"
  exact k
/-- the sum of products -/
def sdSameP (C OG : Addr) : SpD := fun as Q E => ∃ (gs gs2 : List Str) (js : List Int), as = [.d (.tup (gs.map .str)), .d (.tup [posD C gs2 js])] ∧ ((gs = gs2 ∧ Q (.d .non) []) ∨ (gs ≠ gs2 ∧ E ⟨OG, none⟩ []))
abbrev s_check_same_goods : Stmt := top 22
theorem sc_check_same_goods : FnScope ["goods", "others", "other"] ["goods", "others"] (defScope s_check_same_goods) := ⟨rfl, rfl, rfl, by decide +kernel, rfl, by decide +kernel, by decide +kernel⟩
theorem ok_sameP {f : Addr} {fd : FuncData} (G : Fun K "check_same_goods" "check_same_goods" s_check_same_goods f fd) (T : TxtQ K mg C BR OG) : FnR P w K mg base (L2.CX P w) 1 f (spOf K (starD 1 (sdSameP C OG))) := by
  refine okStar (ps := ["goods"]) (pv := "others") G sc_check_same_goods (fun as Q E ⟨gs, g2, js, q, _⟩ => by subst q; rfl) (fun kV doc pm an cdv ct us rest hl => ?_) ⟨_, fun cdv A outer s H E ad F0 H0 hr => (pds_one (psd_for (passes_of rfl) rfl (pid_tup (pd_var (pv 1))) (pgd_name (i := 2) (vs := [2]) (pg_name (i := 2) sc_check_same_goods.nd rfl (.inl rfl)) (by show ¬ (2 ∈ ([] : List Nat)); decide) (by decide))
      (pds_one (psd_if (ptd_cmp (op_neD hr.units) op2_neD.op (pd_fld (pd_var (pv 2)) T.cl_Position (T.na_Position _ (by decide)) rfl) (pd_var (pv 0)) (nomark _)) (pds_one (psd_raise0 rfl (takes_of rfl rfl rfl rfl) (pmk_own0 T.oe_OtherGoods T.c_OtherGoods (by rfl)))) pds_nil)))), ?_⟩
  · obtain ⟨u, rfl⟩ : ∃ u, us = [u] := by
      match us, hl with
      | [u], _ => exact ⟨u, rfl⟩
    cases rest with
    | nil => rfl
    | cons v rest => rfl
  rintro as Qd Ed ⟨gs, gs2, js, rfl, k⟩
  refine DR.start (δ' := [some (.d (.tup (gs.map .str))), some (.d (.tup [posD C gs2 js])), none]) rfl ?_
  walk_at "dd"
  unfold forD
  walk_at "dd"
  simp only [List.getElem?_cons_succ, List.getElem?_cons_zero, DV.toD, List.set]
  walk_at "dd"
  refine eqd_f (dp_strs gs2).cmp (dp_strs gs).cmp eqv_names ?_
  walk_at "dd"
  by_cases c : gs2 = gs
  · subst c
    simp only [decide_true, Bool.not_true]
    walk_at "dd"
    rcases k with k | k
    · unfold forD
      exact ⟨_, rfl, k.2⟩
    · exact absurd rfl k.1
  · simp only [decide_eq_false c, Bool.not_false]
    rw [if_pos trivial]
    walk_at "dd"
    rcases k with k | k
    · exact absurd k.1.symm c
    · exact ⟨_, rfl, k.2⟩
def zw (f : Int → Int → Int) (js ks : List Int) : List Int := js.zipWith f ks
theorem zw_len {f : Int → Int → Int} {gs : List Str} {js ks : List Int} (h1 : js.length = gs.length) (h2 : ks.length = gs.length) : (zw f js ks).length = gs.length := by unfold zw; rw [List.length_zipWith, h1, h2, Nat.min_self]
def sdPOp (C OG : Addr) (f : Int → Int → Int) : SpD := fun as Q E => ∃ (gs gs2 : List Str) (js ks : List Int), as = [.d (posD C gs js), .d (posD C gs2 ks)] ∧ Po gs js ∧ Po gs2 ks ∧ (gs = gs2 → Q (.d (posD C gs (zw f js ks))) []) ∧ (gs ≠ gs2 → E ⟨OG, none⟩ [])
set_option hygiene false in
local macro_rules
  | `(tactic| walk_at "pop") => `(tactic| (
  rintro as Qd Ed ⟨gs, gs2, js, ks, rfl, h1, h2, k1, k2⟩
  refine DR.start (δ' := [some (.d (posD C gs js)), some (.d (posD C gs2 ks)), none, none]) rfl ?_
  walk_at "dd"
  refine ⟨[.tup (gs.map .str)], [_], rfl, rfl, (by show 1 ≤ _; decide), gs, gs2, ks, rfl, ?_⟩
  by_cases c : gs = gs2
  · subst c
    refine .inl ⟨rfl, ?_⟩
    walk_at "dd"
    refine ⟨_, _, _, _, rfl, .inr ⟨rfl, rfl⟩, ?_⟩
    rw [zip_ints]
    refine DR.lc_mapM (l := js.zip ks) (r := fun p : Int × Int => D.tup [.int p.1, .int p.2]) (fun p => D.int (OPF p.1 p.2)) (fun p acc N hpm hl3 kN => ?_) ?_
    · walk_at "dd"
      exact ⟨Nat.lt_of_lt_of_le hl3 (Nat.le_trans (by rw [List.length_zip]; exact Nat.le_trans (Nat.min_le_left ..) (by rw [h1.2]; exact h1.1.2.2.1)) (show 5 ≤ sizeLine by decide)), kN⟩
    rw [zip_with]
    walk_at "dd"
    refine ⟨rfl, ?_⟩
    walk_at "dd"
    refine ⟨rfl, init_ok (gs := gs) (js := zw OPF js ks) (.inr rfl) (.inl rfl) ⟨h1.1, zw_len h1.2 h2.2⟩ ?_⟩
    exact ⟨rfl, _, _, rfl, _, rfl, k1 rfl⟩
  · exact .inr ⟨c, _, rfl, k2 c⟩))
abbrev s_Position___add : Stmt := inClass (top 24) 7
theorem sc_Position___add : FnScope ["self", "other", "one", "two"] ["self", "other"] (defScope s_Position___add) := ⟨rfl, rfl, rfl, by decide +kernel, rfl, by decide +kernel, by decide +kernel⟩
theorem ok_padd (D_check_same_goods : DefR P w K mg base "check_same_goods" 1 (starD 1 (sdSameP C OG))) (K_Position : DefK P w K mg base C 7 3 ["self", "goods", "counts"] [] [] (sdPInit C BG BP)) {f : Addr} {fd : FuncData} (G : Fun K "__add__" "Position.__add__" s_Position___add f fd) (T : TxtQ K mg C BR OG) : FnOk P w K mg base (L2.CX P w) 9 f fd ["self", "other"] (spOf K (sdPOp C OG (fun x y => x + y))) := by
  let OPF : Int → Int → Int := fun x y => x + y
  refine okD G sc_Position___add [] (fun as Q E ⟨gs, g2, js, ks, e, _⟩ => by subst e; exact ⟨rfl, rfl⟩) ⟨_, fun cdv A outer s H E ad F0 H0 hr => (pds_cons (psd_expr (pd_callR D_check_same_goods.ok (hr.mono (by decide)) (by rfl) D_check_same_goods.mg D_check_same_goods.kp (takes_of rfl rfl rfl rfl) (pda_cons (pd_fld (pd_var (pv 0)) T.cl_Position (T.na_Position _ (by decide)) rfl) (pda_cons (pd_var (pv 1)) pda_nil))))
      (pds_one (psd_ret (pd_newK (n := 2) K_Position.mkc K_Position.ok (hr.mono (by decide)) (by rfl) T.c_Position K_Position.kb0 (fun _ => .nil) (fun _ _ _ => rfl) (takes_of rfl rfl rfl rfl) (pda_cons (pd_fld (pd_var (pv 0)) T.cl_Position (T.na_Position _ (by decide)) rfl) (pda_cons (pd_lc (own := [("one", 2), ("two", 3)]) (by rfl) sc_Position___add.nd (pid_zip (by rfl) T.b_zip (pda_cons (pd_fld (pd_var (pv 0)) T.cl_Position (T.na_Position _ (by decide)) rfl) (pda_cons (pd_fld (pd_var (pv 1)) T.cl_Position (T.na_Position _ (by decide)) rfl) pda_nil))) (blkOk_by (own := [("one", 2), ("two", 3)]) (N := ["self", "other", "one", "two"]) (sc := defScope s_Position___add) (by decide +kernel)) (fun _ _ _ _ _ => (pgd_tup (is := [2, 3]) (vs := [2, 3]) (pg_tup rfl (pgs_cons (pg_name (i := 2) sc_Position___add.nd rfl (.inl rfl)) (pgs_cons (pg_name (i := 3) sc_Position___add.nd rfl (.inl rfl)) pgs_nil))) rfl (by show ∀ i ∈ ([2, 3] : List Nat), ¬ (i ∈ ([] : List Nat)) ∧ i ∈ ([2, 3] : List Nat); decide))) (fun _ _ _ _ _ => ptsd_nil) (fun _ _ _ _ _ => (pd_op op_add (op2_I0 fun _ _ _ => .int _) (pd_var (pv 2)) (pd_var (pv 3)))) (by show ∀ i ∈ ([2, 3] : List Nat), ¬ (i ∈ ([] : List Nat)); decide)) pda_nil)) pkd_nil)))), ?_⟩
  walk_at "pop"
/-- times a whole number -/
def sdPMul (C : Addr) : SpD := fun as Q _ => ∃ (gs : List Str) (js : List Int) (n : Int), as = [.d (posD C gs js), .d (.int n)] ∧ Po gs js ∧ (∀ j ∈ js, CMul j n) ∧ Q (.d (posD C gs (js.map fun x => x * n))) []
abbrev s_Position___mul : Stmt := inClass (top 24) 10
theorem sc_Position___mul : FnScope ["self", "other", "count"] ["self", "other"] (defScope s_Position___mul) := ⟨rfl, rfl, rfl, by decide +kernel, rfl, by decide +kernel, by decide +kernel⟩
theorem ok_pmul (D_is_integer : DefD P w K mg base "is_integer" 1 ["thing"] sdIntX) (K_Position : DefK P w K mg base C 7 3 ["self", "goods", "counts"] [] [] (sdPInit C BG BP)) {f : Addr} {fd : FuncData} (G : Fun K "__mul__" "Position.__mul__" s_Position___mul f fd) (T : TxtQ K mg C BR OG) : FnOk P w K mg base (L2.CX P w) 9 f fd ["self", "other"] (spOf K (sdPMul C)) := by
  refine okD G sc_Position___mul [] (fun as Q E ⟨gs, js, n, e, _⟩ => by subst e; exact ⟨rfl, rfl⟩) ⟨_, fun cdv A outer s H E ad F0 H0 hr => (pds_cons (psd_if (ptd_not (ptd_val (pd_call D_is_integer.ok (hr.mono (by decide)) (by rfl) D_is_integer.mg D_is_integer.kp D_is_integer.b (takes_of rfl rfl rfl rfl) (pda_cons (pd_var (pv 1)) pda_nil)) (fun h => pt_val h))) (pds_one psd_never) pds_nil)
      (pds_one (psd_ret (pd_newK (n := 2) K_Position.mkc K_Position.ok (hr.mono (by decide)) (by rfl) T.c_Position K_Position.kb0 (fun _ => .nil) (fun _ _ _ => rfl) (takes_of rfl rfl rfl rfl) (pda_cons (pd_fld (pd_var (pv 0)) T.cl_Position (T.na_Position _ (by decide)) rfl) (pda_cons (pd_lc (own := [("count", 2)]) (by rfl) sc_Position___mul.nd (pid_tup (pd_fld (pd_var (pv 0)) T.cl_Position (T.na_Position _ (by decide)) rfl)) (blkOk_by (own := [("count", 2)]) (N := ["self", "other", "count"]) (sc := defScope s_Position___mul) (by decide +kernel)) (fun _ _ _ _ _ => (pgd_name (i := 2) (vs := [2]) (pg_name (i := 2) sc_Position___mul.nd rfl (.inl rfl)) (by show ¬ (2 ∈ ([] : List Nat)); decide) (by decide))) (fun _ _ _ _ _ => ptsd_nil) (fun _ _ _ _ _ => (pd_op op_mul (op2_I fun _ _ _ => .int _) (pd_var (pv 2)) (pd_var (pv 1)))) (by show ∀ i ∈ ([2] : List Nat), ¬ (i ∈ ([] : List Nat)); decide)) pda_nil)) pkd_nil)))), ?_⟩
  rintro as Qd Ed ⟨gs, js, n, rfl, h1, hc, k⟩
  refine DR.start (δ' := [some (.d (posD C gs js)), some (.d (.int n)), none]) rfl ?_
  walk_at "dd"
  refine ⟨_, _, rfl, .int n, ?_⟩
  walk_at "dd"
  refine itF (c := !isI (DV.d (D.int n)).toD) rfl ?_
  walk_at "dd"
  refine DR.lc_mapM (l := js) (r := D.int) (fun x => D.int (x * n)) (fun x acc N hpm hl3 kN => ?_) ?_
  · walk_at "dd"
    refine ⟨hc x hpm, ?_⟩
    walk_at "dd"
    exact ⟨Nat.lt_of_lt_of_le hl3 (Nat.le_trans (by rw [h1.2]; exact h1.1.2.2.1) (show 5 ≤ sizeLine by decide)), kN⟩
  rw [show (js.map fun x => D.int (x * n)) = (js.map fun x => x * n).map D.int by rw [List.map_map]; rfl]
  walk_at "dd"
  refine ⟨rfl, ?_⟩
  walk_at "dd"
  refine ⟨rfl, init_ok (gs := gs) (js := js.map fun x => x * n) (.inr rfl) (.inl rfl) ⟨h1.1, by rw [List.length_map]; exact h1.2⟩ ?_⟩
  exact ⟨rfl, _, _, rfl, _, rfl, k⟩
end
end KT

set_option Elab.async false
set_option linter.all false
set_option maxRecDepth 100000
set_option maxHeartbeats 0
set_option pp.deepTerms false
set_option pp.deepTerms.threshold 8


namespace KT
open PySem PySem.Spec PyProof.Rows L2 DL
/-- the positions of the things -/
abbrev apK (C : Addr) (gs : List Str) (tb : Tb) : List (Key × D) := tb.map fun p => (.inr p.1, posD C gs p.2)
/-- an entry, a tuple or a list -/
theorem val_ap {C : Addr} {gs : List Str} {x : Str} : ∀ {tb : Tb}, x ∈ tb.map (·.1) → valK (apK C gs tb) (.inr x) = some (posD C gs (lookT tb x)) := by
  intro tb h
  have go : ∀ tb : Tb, valK (apK C gs tb) (.inr x) = (tb.find? fun p => decide (p.1 = x)).map fun p => posD C gs p.2 := fun tb => by
    induction tb with
    | nil => rfl
    | cons p tb ih =>
      obtain ⟨y, v⟩ := p
      by_cases e : y = x
      · subst e
        rw [List.find?_cons_of_pos (by exact decide_eq_true rfl)]
        show Option.map _ (List.find? _ (((.inr y : Key), posD C gs v) :: apK C gs tb)) = _
        rw [List.find?_cons_of_pos (by exact decide_eq_true rfl)]
        rfl
      · rw [List.find?_cons_of_neg (by rw [decide_eq_true_iff]; exact e), ← ih]
        show Option.map _ (List.find? _ (((.inr y : Key), posD C gs v) :: apK C gs tb)) = _
        rw [List.find?_cons_of_neg (by rw [decide_eq_true_iff]; exact fun z => e (Sum.inr.inj z))]
        rfl
  obtain ⟨v, h1, h2⟩ := find_tb h
  rw [go, h2]
  unfold lookT
  rw [h2]
  rfl
theorem cut_tl {α : Type} {f : α → D} {a : α} {l : List α} : DL.cutD ((a :: l).map f) (some 1) none = l.map f := by
  have e1 : HT.sIx ((a :: l).map f).length 0 (some 1) = 1 := by unfold HT.sIx; rw [List.length_map, List.length_cons]; simp
  have e2 : HT.sIx ((a :: l).map f).length ((a :: l).map f).length none = ((a :: l).map f).length := rfl
  unfold DL.cutD
  rw [e1, e2]
  simp
  exact List.take_of_length_le (by rw [List.length_map]; exact Nat.le_refl _)
abbrev vecV (tb : Tb) (c : Str × Int) : List Int := (lookT tb c.1).map fun z => z * c.2
theorem term_at {tb : Tb} {c : Str × Int} {n k : Nat} (h : (lookT tb c.1).length = n) (hk : k < n) : (vecV tb c)[k]? = some (termV tb k c) := by
  unfold vecV termV
  rw [List.getElem?_map, List.getD_eq_getElem?_getD, List.getElem?_eq_getElem (by rw [h]; exact hk)]
  exact congrArg some (Int.mul_comm _ _)
theorem sumV_at {tb : Tb} {cs : List (Str × Int)} {n k : Nat} (hk : k < n) : (sumV n tb cs)[k]? = some ((cs.map (termV tb k)).sum) := by
  unfold sumV
  rw [List.getElem?_map, List.getElem?_range hk]
  rfl
theorem sumV_sing {tb : Tb} {c : Str × Int} {n : Nat} (h : (lookT tb c.1).length = n) : vecV tb c = sumV n tb [c] := by
  refine List.ext_getElem? fun k => ?_
  rcases Nat.lt_or_ge k n with hk | hk
  · rw [term_at h hk, sumV_at hk]; simp
  · rw [List.getElem?_eq_none (by rw [List.length_map, h]; exact hk), List.getElem?_eq_none (by rw [sumV_len]; exact hk)]
theorem sumV_snoc {tb : Tb} {cs : List (Str × Int)} {c : Str × Int} {n : Nat} (h : (lookT tb c.1).length = n) : zw (fun x y => x + y) (sumV n tb cs) (vecV tb c) = sumV n tb (cs ++ [c]) := by
  refine List.ext_getElem? fun k => ?_
  unfold zw
  rw [List.getElem?_zipWith]
  rcases Nat.lt_or_ge k n with hk | hk
  · rw [term_at h hk, sumV_at hk, sumV_at hk, List.map_append, List.sum_append]
    simp
  · rw [List.getElem?_eq_none (by rw [sumV_len]; exact hk), List.getElem?_eq_none (l := sumV n tb (cs ++ [c])) (by rw [sumV_len]; exact hk)]
section
variable {P : Program} {w : World} {K : PySem.W.Frag} {mg : Str → Option Value} {base : Heap} {C OG BG BP BR : Addr}
def sdSumA (C : Addr) : SpD := fun as Q _ => ∃ (gs : List Str) (tb : Tb) (qs : List (Bool × (Str × Int))) (x : D), as = [.d (.dK (apK C gs tb)), .d x] ∧ RowOf x (qs.map entD) ∧ Goods gs ∧ (∀ p ∈ tb, p.2.length = gs.length) ∧ qs ≠ [] ∧ qs.length ≤ 1000 ∧
  (∀ q ∈ qs, q.2.1 ∈ tb.map (·.1) ∧ -1000 ≤ q.2.2 ∧ q.2.2 ≤ 1000) ∧ Q (.d (posD C gs (sumV gs.length tb (qs.map (·.2))))) []
abbrev s_sum_apart : Stmt := top 31
theorem sc_sum_apart : FnScope ["aparts", "contents", "positions", "whole", "position", "thing", "count"] ["aparts", "contents"] (defScope s_sum_apart) := ⟨rfl, rfl, rfl, by decide +kernel, rfl, by decide +kernel, by decide +kernel⟩
theorem ok_suma (D_Position___mul : DefBT P w K mg base C .Mult 9 ["self", "other"] (sdPMul C)) (D_Position___add : DefB P w K mg base C .Add 9 ["self", "other"] (sdPOp C OG (fun x y => x + y))) {f : Addr} {fd : FuncData} (G : Fun K "_sum_apart" "_sum_apart" s_sum_apart f fd) (T : TxtQ K mg C BR OG) : FnOk P w K mg base (L2.CX P w) 11 f fd ["aparts", "contents"] (spOf K (sdSumA C)) := by
  refine okD G sc_sum_apart [] (fun as Q E ⟨gs, tb, qs, x, e, _⟩ => by subst e; exact ⟨rfl, rfl⟩) ⟨_, fun cdv A outer s H E ad F0 H0 hr => (pds_cons (psd_setLc (i := 2) (o := false) (own := [("thing", 5), ("count", 6)]) (by show ¬ (2 ∈ ([] : List Nat)); decide) (by rfl) sc_sum_apart.nd rfl rfl (sw_true rfl rfl rfl (by decide +kernel)) (pid_seq (pd_var (pv 1))) (blkOk_by (own := [("thing", 5), ("count", 6)]) (N := ["aparts", "contents", "positions", "whole", "position", "thing", "count"]) (sc := defScope s_sum_apart) (by decide +kernel)) (fun _ _ _ _ _ => (PG.or (pgd_tup (is := [5, 6]) (vs := [5, 6]) (pg_tup rfl (pgs_cons (pg_name (i := 5) sc_sum_apart.nd rfl (.inl rfl)) (pgs_cons (pg_name (i := 6) sc_sum_apart.nd rfl (.inl rfl)) pgs_nil))) rfl (by show ∀ i ∈ ([5, 6] : List Nat), ¬ (i ∈ ([] : List Nat)) ∧ i ∈ ([5, 6] : List Nat); decide)) (pgd_lst (is := [5, 6]) (vs := [5, 6]) (pg_unl rfl (pgs_cons (pg_name (i := 5) sc_sum_apart.nd rfl (.inl rfl)) (pgs_cons (pg_name (i := 6) sc_sum_apart.nd rfl (.inl rfl)) pgs_nil))) rfl (by show ∀ i ∈ ([5, 6] : List Nat), ¬ (i ∈ ([] : List Nat)) ∧ i ∈ ([5, 6] : List Nat); decide)))) (fun _ _ _ _ _ => ptsd_nil) (fun _ _ _ _ _ => (pd_binT D_Position___mul.bo D_Position___mul.ok (hr.mono (by decide)) D_Position___mul.b takes0 (pd_getK (fun ho hi => pe_dget (hu_of hr) ho hi (fun _ _ => rfl)) (pd_var (pv 0)) (pd_var (pv 5))) (pd_var (pv 6)))) (by show ∀ i ∈ ([5, 6] : List Nat), ¬ (i ∈ ([] : List Nat)); decide))
      (pds_cons (psd_set (i := 3) (pd_ix ix_list op2_ixL (pd_var (pv 2)) (pd_const pe_int (fun _ => .int _)) (fun _ _ => rfl)) (by show ¬ (3 ∈ ([] : List Nat)); decide) sc_sum_apart.nd rfl (.inl rfl))
      (pds_cons (psd_for (passes_of rfl) rfl (pid_list (pd_slice (pd_var (pv 2)) (pod_some (pd_const pe_int (fun _ => .int _))) pod_none)) (pgd_name (i := 4) (vs := [4]) (pg_name (i := 4) sc_sum_apart.nd rfl (.inl rfl)) (by show ¬ (4 ∈ ([] : List Nat)); decide) (by decide))
      (pds_one (psd_set (i := 3) (pd_both D_Position___add.bo D_Position___add.ok (hr.mono (by decide)) D_Position___add.b (takes_of rfl rfl rfl rfl) (pd_var (pv 3)) (pd_var (pv 4))) (by show ¬ (3 ∈ ([] : List Nat)); decide) sc_sum_apart.nd rfl (.inl rfl))))
      (pds_one (psd_ret (pd_var (pv 3))))))), ?_⟩
  rintro as Qd Ed ⟨gs, tb, qs, x, rfl, hx, hg, ht, hq, hl, hk, k⟩
  refine DR.start (δ' := [some (.d (.dK (apK C gs tb))), some (.d x), none, none, none, none, none]) rfl ?_
  refine seq_row rfl hx ?_
  refine DR.lc_mapM (l := qs) (r := entD) (fun q => posD C gs ((lookT tb q.2.1).map fun z => z * q.2.2)) (fun q acc N hqm hl3 kN => ?_) ?_
  · obtain ⟨hkey, hlo, hhi⟩ := hk q hqm
    obtain ⟨v, hm, ev⟩ := (val_tb hkey).2
    have hpo : Po gs (lookT tb q.2.1) := ⟨hg, by rw [ev, ht _ hm]⟩
    have hcm : ∀ j ∈ lookT tb q.2.1, CMul j q.2.2 := fun j _ => RD9.mulr (by omega) (by omega)
    have go : ∀ {Q : DSt → Prop} {δ : DSt}, Q ((δ.set 5 (some (.d (.str q.2.1)))).set 6 (some (.d (.int q.2.2)))) → orG (tupG [5, 6]) (lstG [5, 6]) (entD q) δ Q := fun {Q δ} h => by
      obtain ⟨b, c⟩ := q
      cases b
      · exact .inr ⟨_, rfl, h⟩
      · exact .inl ⟨_, rfl, h⟩
    refine go ?_
    walk_at "dd"
    refine ⟨_, .inr q.2.1, _, rfl, rfl, val_ap hkey, ?_⟩
    walk_at "dd"
    refine ⟨gs, lookT tb q.2.1, q.2.2, rfl, hpo, hcm, ?_⟩
    exact ⟨Nat.lt_of_lt_of_le hl3 (Nat.le_trans hl (by decide)), kN⟩
  have vlen : ∀ q ∈ qs, (lookT tb q.2.1).length = gs.length := fun q h => by
    obtain ⟨v, hm, ev⟩ := (val_tb (hk q h).1).2
    rw [ev, ht _ hm]
  obtain ⟨q0, qr, rfl⟩ : ∃ q0 qr, qs = q0 :: qr := by
    cases qs with
    | nil => exact absurd rfl hq
    | cons q0 qr => exact ⟨q0, qr, rfl⟩
  walk_at "dd"
  refine ⟨_, _, .inl rfl, atI_map (xs := q0 :: qr) (i := 0) (x := q0) rfl, ?_⟩
  walk_at "dd"
  rw [cut_tl]
  refine DR.for_inv (fun i δ => ∃ p4 : Option DV, δ = [some (.d (.dK (apK C gs tb))), some (.d x), some (.d (.lst ((q0 :: qr).map fun q => posD C gs (vecV tb q.2)))), some (.d (posD C gs (sumV gs.length tb ((q0 :: qr.take i).map (·.2))))), p4, none, none]) ⟨none, ?_⟩ ?_ ?_
  · rw [List.take_zero, show List.map (fun x : Bool × (Str × Int) => x.2) [q0] = [q0.2] from rfl, ← sumV_sing (vlen q0 List.mem_cons_self)]
    rfl
  · rintro i z δ N hz ⟨p4, rfl⟩ kN
    rw [List.getElem?_map] at hz
    cases e : qr[i]? with
    | none => rw [e] at hz; cases hz
    | some q =>
      rw [e] at hz
      cases hz
      have hqm : q ∈ q0 :: qr := List.mem_cons_of_mem _ (List.mem_of_getElem? e)
      walk_at "dd"
      have ee : (q0 :: qr.take (i + 1)).map (·.2) = (q0 :: qr.take i).map (·.2) ++ [q.2] := by
        rw [List.take_succ, e]
        simp
      refine ⟨gs, gs, sumV gs.length tb ((q0 :: qr.take i).map (·.2)), vecV tb q.2, rfl, ⟨hg, sumV_len⟩, ⟨hg, by rw [List.length_map]; exact vlen q hqm⟩, fun _ => kN _ ⟨some (.d (posD C gs (vecV tb q.2))), ?_⟩, fun h => absurd rfl h⟩
      rw [ee, ← sumV_snoc (vlen q hqm)]
      rfl
  · rintro δ ⟨p4, rfl⟩
    rw [List.length_map, List.take_length]
    walk_at "dd"
    exact k
end
end KT

set_option Elab.async false
set_option linter.all false
set_option maxRecDepth 100000
set_option maxHeartbeats 0
set_option pp.deepTerms false
set_option pp.deepTerms.threshold 8


namespace KT
open PySem PySem.Spec PyProof.Rows L2 DL
/-- a row of parcels as it is told -/
abbrev rowT (r : Row) : D := .tup [.str r.1, .tup (r.2.map ctD)]
/-- what parcels hold -/
def parFs (C : Addr) (gs : List Str) (rs : List Row) : List (Str × D) := [("goods", .tup (gs.map .str)), ("_aparts", .dK (apK C gs (tabM gs rs))), ("rows", .tup (rs.map rowT))]
abbrev parD (PC C : Addr) (gs : List Str) (rs : List Row) : D := .obj PC (parFs C gs rs)
structure TxtR (K : PySem.W.Frag) (mg : Str → Option Value) (C BR OG PC NT : Addr) : Prop extends TxtQ K mg C BR OG where
  cl_Parcels : Cls K PC
  na_Parcels : ∀ n : Str, (["goods", "_aparts", "rows"] : List Str).contains n = true → NoAttr K PC n
  c_Parcels : mg "Parcels" = some (.ref PC)
  c_NoThing : mg "NoThing" = some (.ref NT)
section
variable {P : Program} {w : World} {K : PySem.W.Frag} {mg : Str → Option Value} {base : Heap} {C OG BG BP BR PC NT : Addr}
def sdThings (PC C : Addr) : SpD := fun as Q _ => ∃ (gs : List Str) (rs : List Row), as = [.d (parD PC C gs rs)] ∧ gs.length ≤ 5 ∧ rs.length ≤ 6 ∧ Q (.d (.tup ((gs ++ rs.map (·.1)).map .str))) []
abbrev s_Parcels_things : Stmt := inClass (top 32) 1
theorem sc_Parcels_things : FnScope ["self", "name", "_"] ["self"] (defScope s_Parcels_things) := ⟨rfl, rfl, rfl, by decide +kernel, rfl, by decide +kernel, by decide +kernel⟩
theorem ok_things {f : Addr} {fd : FuncData} (G : Fun K "things" "Parcels.things" s_Parcels_things f fd) (T : TxtR K mg C BR OG PC NT) : FnOk P w K mg base (L2.CX P w) 1 f fd ["self"] (spOf K (sdThings PC C)) := by
  refine okD G sc_Parcels_things [] (fun as Q E ⟨gs, rs, e, _⟩ => by subst e; exact ⟨rfl, rfl⟩) ⟨_, fun cdv A outer s H E ad F0 H0 hr => (pds_one (psd_ret (pd_op op_catA op2_catT (pd_fld (pd_var (pv 0)) T.cl_Parcels (T.na_Parcels _ (by decide)) rfl) (pd_builtB (fun h => pe_callTy call_tuple_of (by rfl) T.b_tuple (by decide +kernel) h) cn_tuple (pda_cons (pd_lc (own := [("name", 1), ("_", 2)]) (by rfl) sc_Parcels_things.nd (pid_tup (pd_fld (pd_var (pv 0)) T.cl_Parcels (T.na_Parcels _ (by decide)) rfl)) (blkOk_by (own := [("name", 1), ("_", 2)]) (N := ["self", "name", "_"]) (sc := defScope s_Parcels_things) (by decide +kernel)) (fun _ _ _ _ _ => (pgd_tup (is := [1, 2]) (vs := [1, 2]) (pg_tup rfl (pgs_cons (pg_name (i := 1) sc_Parcels_things.nd rfl (.inl rfl)) (pgs_cons (pg_name (i := 2) sc_Parcels_things.nd rfl (.inl rfl)) pgs_nil))) rfl (by show ∀ i ∈ ([1, 2] : List Nat), ¬ (i ∈ ([] : List Nat)) ∧ i ∈ ([1, 2] : List Nat); decide))) (fun _ _ _ _ _ => ptsd_nil) (fun _ _ _ _ _ => (pd_var (pv 1))) (by show ∀ i ∈ ([1, 2] : List Nat), ¬ (i ∈ ([] : List Nat)); decide)) pda_nil))))), ?_⟩
  rintro as Qd Ed ⟨gs, rs, rfl, hg, hr, k⟩
  refine DR.start (δ' := [some (.d (parD PC C gs rs)), none, none]) rfl ?_
  walk_at "dd"
  refine DR.lc_mapM (l := rs) (r := rowT) (fun r => D.str r.1) (fun r acc N hrm hl3 kN => ?_) ?_
  · walk_at "dd"
    exact ⟨Nat.lt_of_lt_of_le hl3 (Nat.le_trans hr (show 6 ≤ sizeLine by decide)), kN⟩
  walk_at "dd"
  refine ⟨_, _, rfl, .inl rfl, ?_⟩
  refine ⟨_, _, rfl, rfl, Nat.le_trans (show _ ≤ 11 by rw [List.length_map, List.length_map]; omega) (by decide), ?_⟩
  have e : (gs.map D.str ++ rs.map fun r => D.str r.1) = (gs ++ rs.map (·.1)).map .str := by rw [List.map_append, List.map_map]; rfl
  rw [e]
  walk_at "dd"
  exact k
end
end KT

set_option Elab.async false
set_option linter.all false
set_option maxRecDepth 100000
set_option maxHeartbeats 0
set_option pp.deepTerms false
set_option pp.deepTerms.threshold 8


namespace KT
open PySem PySem.Spec PyProof.Rows L2 DL
/-! ### kinds of things, once more -/
def whB (lo hi : Int) : D → Bool
  | .int i => decide (lo ≤ i) && decide (i ≤ hi)
  | _ => false
def thB : D → Bool
  | .str z => nmB z && !decide (z = cash)
  | _ => false
structure TxtS (K : PySem.W.Frag) (mg : Str → Option Value) (C BR OG PC NT : Addr) : Prop extends TxtR K mg C BR OG PC NT where
  k__MOST_ROWS : ∃ t, mg "_MOST_ROWS" = some (.int 6 t)
  k__MOST_CONTENTS : ∃ t, mg "_MOST_CONTENTS" = some (.int 4 t)
  k__MOST_PIECES : ∃ t, mg "_MOST_PIECES" = some (.int 1000 t)
section
variable {P : Program} {w : World} {K : PySem.W.Frag} {mg : Str → Option Value} {base : Heap} {C OG BG BP BR PC NT : Addr}
def sdWholeX : SpD := fun as Q _ => ∃ (x : D) (n : String) (lo hi : Int), as = [.d x, .d (.int lo), .d (.int hi)] ∧ Pl x n ∧ Q (.d (.bl (whB lo hi x))) []
abbrev s_is_whole : Stmt := top 15
theorem sc_is_whole : FnScope ["thing", "low", "high"] ["thing", "low", "high"] (defScope s_is_whole) := ⟨rfl, rfl, rfl, by decide +kernel, rfl, by decide +kernel, by decide +kernel⟩
theorem ok_wholeX (D_is_integer : DefD P w K mg base "is_integer" 1 ["thing"] sdIntX) {f : Addr} {fd : FuncData} (G : Fun K "is_whole" "is_whole" s_is_whole f fd) (T : TxtN mg) : FnOk P w K mg base (L2.CX P w) 3 f fd ["thing", "low", "high"] (spOf K sdWholeX) := by
  refine okD G sc_is_whole [] (fun as Q E ⟨xs, n, lo, hi, e, _⟩ => by subst e; exact ⟨rfl, rfl⟩) ⟨_, fun cdv A outer s H E ad F0 H0 hr => (pds_one (psd_ret (pd_and (pd_call D_is_integer.ok (hr.mono (by decide)) (by rfl) D_is_integer.mg D_is_integer.kp D_is_integer.b (takes_of rfl rfl rfl rfl) (pda_cons (pd_var (pv 0)) pda_nil)) (pd_one (pd_chain op_le (op2_I0 fun _ _ _ => .bl _) op_le (op2_I0 fun _ _ _ => .bl _) (pd_var (pv 1)) (pd_var (pv 0)) (pd_var (pv 2)) (by with_unfolding_all rfl)))))), ?_⟩
  rintro as Qd Ed ⟨x, n, lo, hi, rfl, hx, k⟩
  refine DR.start (δ' := [some (.d x), some (.d (.int lo)), some (.d (.int hi))]) rfl ?_
  walk_at "dd"
  refine ⟨x, n, rfl, hx, ?_⟩
  cases q : isI x with
  | false =>
    have k : Qd (.d (.bl false)) [] := by cases hx <;> first | exact k | cases q
    walk_at "dd"
    exact k
  | true =>
    cases hx with
    | int i =>
      have k : Qd (.d (.bl (decide (lo ≤ i) && decide (i ≤ hi)))) [] := k
      walk_at "dd"
      by_cases c1 : lo ≤ i
      · rw [decide_eq_true c1] at k ⊢
        walk_at "dd"
        exact k
      · rw [decide_eq_false c1] at k ⊢
        walk_at "dd"
        exact k
    | _ => cases q
def sdThingX : SpD := fun as Q _ => ∃ (x : D) (n : String), as = [.d x] ∧ Pl x n ∧ (∀ z, x = .str z → z.length ≤ 1000) ∧ Q (.d (.bl (thB x))) []
abbrev s_is_thing_name : Stmt := top 20
theorem sc_is_thing_name : FnScope ["thing"] ["thing"] (defScope s_is_thing_name) := ⟨rfl, rfl, rfl, by decide +kernel, rfl, by decide +kernel, by decide +kernel⟩
theorem ok_thingX (D_is_name : DefD P w K mg base "is_name" 1 ["thing"] sdNameX) {f : Addr} {fd : FuncData} (G : Fun K "is_thing_name" "is_thing_name" s_is_thing_name f fd) (T : TxtN mg) : FnOk P w K mg base (L2.CX P w) 3 f fd ["thing"] (spOf K sdThingX) := by
  obtain ⟨_, k__CASH⟩ := T.k__CASH
  refine okD G sc_is_thing_name [] (fun as Q E ⟨xs, n, e, _⟩ => by subst e; exact ⟨rfl, rfl⟩) ⟨_, fun cdv A outer s H E ad F0 H0 hr => (pds_one (psd_ret (pd_and (pd_call D_is_name.ok (hr.mono (by decide)) (by rfl) D_is_name.mg D_is_name.kp D_is_name.b (takes_of rfl rfl rfl rfl) (pda_cons (pd_var (pv 0)) pda_nil)) (pd_one (pd_cmp op_ne op2_ne.op (pd_var (pv 0)) (pd_const (pe_glob (v := (.str "cash")) rfl k__CASH ⟨_, rfl⟩) (fun _ => .str (by decide +kernel))) (nomark _)))))), ?_⟩
  rintro as Qd Ed ⟨x, n, rfl, hx, hz, k⟩
  refine DR.start (δ' := [some (.d x)]) rfl ?_
  walk_at "dd"
  refine ⟨x, n, rfl, hx, hz, ?_⟩
  cases q : nmD x with
  | false =>
    have e : thB x = false := by
      cases hx with
      | str z => show (nmB z && _) = false; rw [show nmB z = false from q]; rfl
      | _ => rfl
    rw [e] at k
    walk_at "dd"
    exact k
  | true =>
    cases hx with
    | str z =>
      have e : thB (.str z) = !decide (z = cash) := by show (nmB z && _) = _; rw [show nmB z = true from q]; rfl
      rw [e] at k
      walk_at "dd"
      by_cases c : z = cash
      · rw [decide_eq_true c] at k
        subst c
        exact k
      · rw [decide_eq_false c] at k
        rw [if_pos rfl, show decide (V.str z = V.str "cash") = false from decide_eq_false fun h => c (by injection h)]
        exact k
    | _ => cases q
end
end KT

set_option Elab.async false
set_option linter.all false
set_option maxRecDepth 100000
set_option maxHeartbeats 0
set_option pp.deepTerms false
set_option pp.deepTerms.threshold 8


namespace KT
open PySem PySem.Spec PyProof.Rows L2 DL
/-! ### what is wrong with contents -/
/-- what may be passed for a short thing -/
structure Sm (d : D) : Prop where
  pl : ∃ n, Pl d n
  cmp : Cmp d
  few : ∀ z, d = .str z → z.length ≤ 1000
structure En (e : D) : Prop where
  pl : ∃ n, Pl e n
  len : (seqOf e).length ≤ 1000
  all : ∀ d ∈ seqOf e, Sm d
structure Ct (x : D) : Prop where
  pl : ∃ n, Pl x n
  len : (seqOf x).length ≤ 1000
  all : ∀ e ∈ seqOf x, En e
def keyD (ks : List Str) : D → Option Str
  | .str z => if z ∈ ks then some z else none
  | _ => none
/-- the entries by thing and count; none: an entry is no thing -/
def thg (ks : List Str) : List Str → List D → Option (List (Str × D))
  | _, [] => some []
  | told, e :: es => if isR 2 e = false then none else match seqOf e with
    | [a, b] => match keyD ks a with
      | some z => if z ∈ told then none else (thg ks (told ++ [z]) es).map ((z, b) :: ·)
      | none => none
    | _ => none
def cntB : D → Bool
  | .int i => decide (-1000 ≤ i) && decide (i ≤ 1000) && !decide (i = 0)
  | _ => false
def intOf : D → Int
  | .int i => i
  | _ => 0
def contW (n : Nat) (tb : Tb) (x : D) : Option Str :=
  if isS x = false ∨ (seqOf x).length < 1 ∨ 4 < (seqOf x).length then some "contents" else
  match thg (tb.map (·.1)) [] (seqOf x) with
  | none => some "thing"
  | some ps => if (ps.all fun p => cntB p.2) = false then some "count" else if sumV n tb (ps.map fun p => (p.1, intOf p.2)) = zeroV n then some "flat" else none
def optD : Option Str → D
  | none => .non
  | some s => .str s
def enD (q : Bool × (Str × D)) : D := if q.1 = true then .tup [.str q.2.1, q.2.2] else .lst [.str q.2.1, q.2.2]
theorem row2 {e : D} (h : isR 2 e = true) : ∃ a b, seqOf e = [a, b] ∧ (e = .tup [a, b] ∨ e = .lst [a, b]) := by
  unfold isR at h
  rw [Bool.and_eq_true] at h
  have hl := of_decide_eq_true h.2
  match q : seqOf e, hl with
  | [a, b], _ =>
    refine ⟨a, b, rfl, ?_⟩
    cases e with
    | tup l => exact .inl (congrArg _ q)
    | lst l => exact .inr (congrArg _ q)
    | _ => cases h.1
theorem keyD_some {ks : List Str} {a : D} {z : Str} (h : keyD ks a = some z) : a = .str z ∧ z ∈ ks := by
  cases a with
  | str y =>
    unfold keyD at h
    dsimp only at h
    split at h
    · cases h; exact ⟨rfl, by assumption⟩
    · cases h
  | _ => cases h
theorem keyD_none {ks : List Str} {a : D} (h : keyD ks a = none) : ∀ z ∈ ks, a ≠ .str z := fun z hz e => by
  subst e
  unfold keyD at h
  dsimp only at h
  rw [if_pos hz] at h
  cases h
theorem keyD_str {ks : List Str} {z : Str} (h : z ∈ ks) : keyD ks (.str z) = some z := by
  unfold keyD
  dsimp only
  rw [if_pos h]
theorem thg_some {ks : List Str} : ∀ {es : List D} {told : List Str} {ps : List (Str × D)}, thg ks told es = some ps → (∃ qs : List (Bool × (Str × D)), es = qs.map enD ∧ ps = qs.map (·.2)) ∧ (∀ p ∈ ps, p.1 ∈ ks ∧ p.1 ∉ told) ∧ (ps.map (·.1)).Nodup
  | [], _, _, h => by cases h; exact ⟨⟨[], rfl, rfl⟩, (fun _ h => nomatch h), .nil⟩
  | e :: es, told, ps, h => by
    unfold thg at h
    split at h
    · cases h
    · rename_i hr
      obtain ⟨a, b, q, he⟩ := row2 (by simpa using hr)
      rw [q] at h
      dsimp only at h
      cases hk : keyD ks a with
      | none => rw [hk] at h; cases h
      | some z =>
        rw [hk] at h
        dsimp only at h
        obtain ⟨rfl, hz⟩ := keyD_some hk
        split at h
        · cases h
        · rename_i nt
          cases hm : thg ks (told ++ [z]) es with
          | none => rw [hm] at h; cases h
          | some ps2 =>
            rw [hm] at h
            cases h
            obtain ⟨⟨qs, e1, e2⟩, h2, h3⟩ := thg_some hm
            refine ⟨⟨(match e with | .tup _ => true | _ => false, (z, b)) :: qs, ?_, by rw [e2]; rfl⟩, ?_, ?_⟩
            · rw [e1]
              rcases he with rfl | rfl <;> rfl
            · intro p hp
              rcases List.mem_cons.mp hp with rfl | hp
              · exact ⟨hz, nt⟩
              · exact ⟨(h2 p hp).1, fun y => (h2 p hp).2 (List.mem_append_left _ y)⟩
            · refine List.nodup_cons.mpr ⟨fun y => ?_, h3⟩
              obtain ⟨p, hp, e⟩ := List.mem_map.mp y
              exact (h2 p hp).2 (List.mem_append_right _ (by rw [e]; exact List.mem_singleton_self z))
theorem thg_rows {ks : List Str} : ∀ {qs : List (Bool × (Str × D))} {told : List Str}, (∀ q ∈ qs, q.2.1 ∈ ks ∧ q.2.1 ∉ told) → (qs.map (·.2.1)).Nodup → thg ks told (qs.map enD) = some (qs.map (·.2))
  | [], _, _, _ => rfl
  | (b, (z, d)) :: qs, told, h, nd => by
    have h0 := h _ List.mem_cons_self
    obtain ⟨n1, n2⟩ := List.nodup_cons.mp nd
    have e1 : isR 2 (enD (b, (z, d))) = true := by cases b <;> rfl
    have e2 : seqOf (enD (b, (z, d))) = [.str z, d] := by cases b <;> rfl
    rw [List.map_cons]
    unfold thg
    rw [if_neg (by rw [e1]; exact Bool.noConfusion), e2]
    dsimp only
    rw [keyD_str h0.1]
    dsimp only
    rw [if_neg h0.2, thg_rows (told := told ++ [z]) (fun q hq => ⟨(h q (List.mem_cons_of_mem _ hq)).1, fun y => ?_⟩) n2]
    · rfl
    · rcases List.mem_append.mp y with y | y
      · exact (h q (List.mem_cons_of_mem _ hq)).2 y
      · exact n1 (List.mem_map.mpr ⟨q, hq, List.mem_singleton.mp y⟩)
theorem cntB_int {d : D} (h : cntB d = true) : ∃ i, d = .int i ∧ i ≠ 0 ∧ -1000 ≤ i ∧ i ≤ 1000 := by
  cases d with
  | int i =>
    unfold cntB at h
    simp only [Bool.and_eq_true, decide_eq_true_eq, Bool.not_eq_true', decide_eq_false_iff_not] at h
    exact ⟨i, rfl, h.2, h.1.1, h.1.2⟩
  | _ => cases h
/-- right contents -/
theorem contW_none {n : Nat} {tb : Tb} {x : D} (h : contW n tb x = none) : ∃ qs : List (Bool × (Str × Int)), RowOf x (qs.map entD) ∧ Cont (tb.map (·.1)) (qs.map (·.2)) ∧ sumV n tb (qs.map (·.2)) ≠ zeroV n := by
  unfold contW at h
  split at h
  · cases h
  · rename_i h1
    cases hg : thg (tb.map (·.1)) [] (seqOf x) with
    | none => rw [hg] at h; cases h
    | some ps =>
      rw [hg] at h
      dsimp only at h
      split at h
      · cases h
      · rename_i h2
        split at h
        · cases h
        · rename_i h3
          have ha : ∀ p ∈ ps, cntB p.2 = true := List.all_eq_true.mp (by simpa using h2)
          obtain ⟨⟨qs, e1, e2⟩, hk, nd⟩ := thg_some hg
          subst e2
          let rs : List (Bool × (Str × Int)) := qs.map fun q => (q.1, (q.2.1, intOf q.2.2))
          have er : seqOf x = rs.map entD := by
            rw [e1, List.map_map]
            refine List.map_congr_left fun q hq => ?_
            obtain ⟨i, e, _⟩ := cntB_int (ha q.2 (List.mem_map_of_mem hq))
            show enD q = entD (q.1, (q.2.1, intOf q.2.2))
            unfold enD entD
            rw [e]
            rfl
          have e3 : rs.map (·.2) = (qs.map (·.2)).map fun p => (p.1, intOf p.2) := by rw [List.map_map, List.map_map]; rfl
          have hl : (seqOf x).length = qs.length := by rw [e1, List.length_map]
          have hs : isS x = true := by
            cases q : isS x with
            | true => rfl
            | false => exact absurd (.inl q) h1
          refine ⟨rs, ?_, ⟨?_, ?_, ?_, ?_⟩, by rw [e3]; exact h3⟩
          · rw [← er]
            cases x <;> first | exact .inl rfl | exact .inr rfl | cases hs
          · intro z
            have := congrArg List.length z
            rw [e3, List.length_map, List.length_map] at this
            exact h1 (.inr (.inl (by rw [hl, this]; decide)))
          · rw [e3, List.length_map, List.length_map]
            omega
          · rw [e3, List.map_map]
            exact nd
          · intro c hc
            rw [e3] at hc
            obtain ⟨p, hp, rfl⟩ := List.mem_map.mp hc
            obtain ⟨i, e, g⟩ := cntB_int (ha p hp)
            refine ⟨(hk p hp).1, ?_⟩
            show intOf p.2 ≠ 0 ∧ _
            rw [e]
            exact g
theorem contW_ok {n : Nat} {tb : Tb} {x : D} {qs : List (Bool × (Str × Int))} (hx : RowOf x (qs.map entD)) (hc : Cont (tb.map (·.1)) (qs.map (·.2))) (hs : sumV n tb (qs.map (·.2)) ≠ zeroV n) : contW n tb x = none := by
  have e : seqOf x = qs.map entD := by rcases hx with rfl | rfl <;> rfl
  have s : isS x = true := by rcases hx with rfl | rfl <;> rfl
  obtain ⟨c1, c2, c3, c4⟩ := hc
  rw [List.length_map] at c2
  have c0 : qs.length ≠ 0 := fun z => c1 (by rw [List.length_eq_zero_iff.mp z]; rfl)
  have e2 : qs.map entD = (qs.map fun q => (q.1, (q.2.1, D.int q.2.2))).map enD := by rw [List.map_map]; rfl
  have nd : ((qs.map fun q => (q.1, (q.2.1, D.int q.2.2))).map (·.2.1)).Nodup := by
    rw [List.map_map]
    rw [List.map_map] at c3
    exact c3
  unfold contW
  rw [if_neg (by rw [e, s, List.length_map]; rintro (h | h | h); cases h; omega; omega), e, e2, thg_rows (fun q hq => ?_) nd]
  · dsimp only
    have e3 : ((qs.map fun q => (q.1, (q.2.1, D.int q.2.2))).map (·.2)).map (fun p => (p.1, intOf p.2)) = qs.map (·.2) := by rw [List.map_map, List.map_map]; rfl
    rw [e3, if_neg, if_neg hs]
    have : (((qs.map fun q => (q.1, (q.2.1, D.int q.2.2))).map (·.2)).all fun p => cntB p.2) = true := by
      refine List.all_eq_true.mpr fun p hp => ?_
      rw [List.map_map] at hp
      obtain ⟨q, hq, rfl⟩ := List.mem_map.mp hp
      obtain ⟨_, g1, g2, g3⟩ := c4 q.2 (List.mem_map_of_mem hq)
      show (decide (-1000 ≤ q.2.2) && decide (q.2.2 ≤ 1000) && !decide (q.2.2 = 0)) = true
      rw [decide_eq_true g2, decide_eq_true g3, decide_eq_false g1]
      rfl
    rw [this]
    exact Bool.noConfusion
  · obtain ⟨r, hr, rfl⟩ := List.mem_map.mp hq
    exact ⟨(c4 r.2 (List.mem_map_of_mem hr)).1, fun h => nomatch h⟩
theorem alt_ix {j : Nat} {e a b : D} {δ : DSt} {Q : DV → DSt → Prop} {E : XD} (h : δ[j]? = some (some (.d e))) (hee : e = .tup [a, b] ∨ e = .lst [a, b]) (k : Q (.d a) δ) : altD (opD ixD (varD j) (constD (.int 0))) (opD (fun a b Q => ∃ xs i d, a = D.tup xs ∧ b = D.int i ∧ atI xs i = some d ∧ Q (DV.d d)) (varD j) (constD (.int 0))) δ Q E := by
  rcases hee with rfl | rfl
  · exact .inr (DR.op (DR.var h (DR.const ⟨_, 0, a, rfl, rfl, rfl, k⟩)))
  · exact .inl (DR.op (DR.var h (DR.const ⟨0, rfl, _, a, .inl rfl, rfl, k⟩)))
theorem keysD_ap {C : Addr} {gs : List Str} {tb : Tb} : keysD (apK C gs tb) = (tb.map (·.1)).map .str := by
  unfold keysD
  rw [List.map_map, List.map_map]
  rfl
theorem okK_ap {C : Addr} {gs : List Str} {tb : Tb} (h : ∀ x ∈ tb.map (·.1), Low x) : ∀ kv ∈ apK C gs tb, okK kv.1 := fun kv hk => by
  obtain ⟨p, hp, rfl⟩ := List.mem_map.mp hk
  exact strOk_of fun c hc => by
    have := h p.1 (List.mem_map_of_mem hp) c hc
    omega
theorem cmp_strL {l : List Str} : Cmp (.lst (l.map .str)) := (dp_lst (n := 1) (dp_map fun r _ => dp_str)).cmp
theorem flat_zero : ∀ {js : List Int}, (!js.any fun i => i != 0) = decide (js = zeroV js.length)
  | [] => rfl
  | j :: js => by
    have ih := flat_zero (js := js)
    have e : zeroV (j :: js).length = 0 :: zeroV js.length := rfl
    rw [List.any_cons, Bool.not_or, ih, e]
    by_cases h : j = 0
    · subst h
      simp
    · simp [h]
section
variable {P : Program} {w : World} {K : PySem.W.Frag} {mg : Str → Option Value} {base : Heap} {C OG BG BP BR PC NT : Addr}
def sdContF (C : Addr) : SpD := fun as Q _ => ∃ (gs : List Str) (tb : Tb) (x : D), as = [.d (.dK (apK C gs tb)), .d x] ∧ Ct x ∧ Goods gs ∧ TbOk gs.length tb ∧ (∀ z ∈ tb.map (·.1), Low z) ∧ tb.length ≤ 1000 ∧ Q (.d (optD (contW gs.length tb x))) []
abbrev s_contents_fault : Stmt := top 29
theorem sc_contents_fault : FnScope ["aparts", "contents", "told", "entry", "_", "count"] ["aparts", "contents"] (defScope s_contents_fault) := ⟨rfl, rfl, rfl, by decide +kernel, rfl, by decide +kernel, by decide +kernel⟩
theorem ok_contf (D_is_sequence : DefD P w K mg base "is_sequence" 1 ["thing"] sdSeqX) (D_is_row : DefD P w K mg base "is_row" 3 ["thing", "length"] sdRowX) (D_is_whole : DefD P w K mg base "is_whole" 3 ["thing", "low", "high"] sdWholeX) (D_sum_apart : DefD P w K mg base "_sum_apart" 11 ["aparts", "contents"] (sdSumA C)) (D_Position_is_flat : DefP P w K mg base C "is_flat" 1 ["self"] (sdIsFlat C)) {f : Addr} {fd : FuncData} (G : Fun K "_contents_fault" "_contents_fault" s_contents_fault f fd) (T : TxtS K mg C BR OG PC NT) : FnOk P w K mg base (L2.CX P w) 13 f fd ["aparts", "contents"] (spOf K (sdContF C)) := by
  obtain ⟨_, k__MOST_CONTENTS⟩ := T.k__MOST_CONTENTS
  obtain ⟨_, k__MOST_PIECES⟩ := T.k__MOST_PIECES
  refine okD G sc_contents_fault [] (fun as Q E ⟨gs, tb, x, e, _⟩ => by subst e; exact ⟨rfl, rfl⟩) ⟨_, fun cdv A outer s H E ad F0 H0 hr => (pds_cons (psd_if (PW.pt (pwd_or (ptd_not (ptd_val (pd_call D_is_sequence.ok (hr.mono (by decide)) (by rfl) D_is_sequence.mg D_is_sequence.kp D_is_sequence.b (takes_of rfl rfl rfl rfl) (pda_cons (pd_var (pv 1)) pda_nil)) (fun h => pt_val h))) (pwd_or1 (ptd_not (ptd_chain op_le (op2_I0 fun _ _ _ => .bl _) op_le (op2_I0 fun _ _ _ => .bl _) (pd_const pe_int (fun _ => .int _)) (pd_builtB (fun h => pe_callB call_len_seq (by rfl) T.b_len (by decide +kernel) h) cn_len.op (pda_cons (pd_var (pv 1)) pda_nil)) (pd_const (pe_glob (v := (.int 4)) rfl k__MOST_CONTENTS ⟨_, rfl⟩) (fun _ => .int _)) (by with_unfolding_all rfl)))))) (pds_one (psd_ret (pd_const pe_str (fun _ => .str (by decide +kernel))))) pds_nil)
      (pds_cons (psd_setO (i := 2) (pd_lst (fun h => pe_lst h) pda_nil) (by show ¬ (2 ∈ ([] : List Nat)); decide) sc_contents_fault.nd rfl (.inl rfl))
      (pds_cons (psd_for (passes_of rfl) rfl (pid_seq (pd_var (pv 1))) (pgd_name (i := 3) (vs := [3]) (pg_name (i := 3) sc_contents_fault.nd rfl (.inl rfl)) (by show ¬ (3 ∈ ([] : List Nat)); decide) (by decide))
      (pds_cons (psd_if (PW.pt (pwd_or (ptd_not (ptd_val (pd_call D_is_row.ok (hr.mono (by decide)) (by rfl) D_is_row.mg D_is_row.kp D_is_row.b (takes_of rfl rfl rfl rfl) (pda_cons (pd_var (pv 3)) (pda_cons (pd_const pe_int (fun _ => .int _)) pda_nil))) (fun h => pt_val h))) (pwd_or (ptd_cmp (op_notInT (units65 hr)) (op2_inT true).op (pd_orE (pd_ix ix_list op2_ixL (pd_var (pv 3)) (pd_const pe_int (fun _ => .int _)) (fun _ _ => rfl)) (pd_ix ix_tup op2_ixT (pd_var (pv 3)) (pd_const pe_int (fun _ => .int _)) (fun _ _ => rfl))) (pd_builtB (fun h => pe_callTy (call_list_keys (by rfl)) (by rfl) T.b_list (by decide +kernel) h) cn_listK (pda_cons (pd_var (pv 0)) pda_nil)) rfl) (pwd_or1 (ptd_inLO_t (j := 2) (units65 hr) (pd_orE (pd_ix ix_list op2_ixL (pd_var (pv 3)) (pd_const pe_int (fun _ => .int _)) (fun _ _ => rfl)) (pd_ix ix_tup op2_ixT (pd_var (pv 3)) (pd_const pe_int (fun _ => .int _)) (fun _ _ => rfl))) (pv 2)))))) (pds_one (psd_ret (pd_const pe_str (fun _ => .str (by decide +kernel))))) pds_nil)
      (pds_one (psd_expr (pd_methO (j := 2) (fun ho h => pe_bm PySem.F.plainAttrs_list PySem.F.slot_list_append PySem.F.type_list_append mt_append ho h) mo_append (pv 2) (pda_cons (pd_orE (pd_ix ix_list op2_ixL (pd_var (pv 3)) (pd_const pe_int (fun _ => .int _)) (fun _ _ => rfl)) (pd_ix ix_tup op2_ixT (pd_var (pv 3)) (pd_const pe_int (fun _ => .int _)) (fun _ _ => rfl))) pda_nil))))))
      (pds_cons (psd_for (passes_of rfl) rfl (pid_seq (pd_var (pv 1))) (PG.or (pgd_tup (is := [4, 5]) (vs := [4, 5]) (pg_tup rfl (pgs_cons (pg_name (i := 4) sc_contents_fault.nd rfl (.inl rfl)) (pgs_cons (pg_name (i := 5) sc_contents_fault.nd rfl (.inl rfl)) pgs_nil))) rfl (by show ∀ i ∈ ([4, 5] : List Nat), ¬ (i ∈ ([] : List Nat)) ∧ i ∈ ([4, 5] : List Nat); decide)) (pgd_lst (is := [4, 5]) (vs := [4, 5]) (pg_unl rfl (pgs_cons (pg_name (i := 4) sc_contents_fault.nd rfl (.inl rfl)) (pgs_cons (pg_name (i := 5) sc_contents_fault.nd rfl (.inl rfl)) pgs_nil))) rfl (by show ∀ i ∈ ([4, 5] : List Nat), ¬ (i ∈ ([] : List Nat)) ∧ i ∈ ([4, 5] : List Nat); decide)))
      (pds_one (psd_if (PW.pt (pwd_or (ptd_not (ptd_val (pd_call D_is_whole.ok (hr.mono (by decide)) (by rfl) D_is_whole.mg D_is_whole.kp D_is_whole.b (takes_of rfl rfl rfl rfl) (pda_cons (pd_var (pv 5)) (pda_cons (pd_neg (pd_const (pe_glob (v := (.int 1000)) rfl k__MOST_PIECES ⟨_, rfl⟩) (fun _ => .int _))) (pda_cons (pd_const (pe_glob (v := (.int 1000)) rfl k__MOST_PIECES ⟨_, rfl⟩) (fun _ => .int _)) pda_nil)))) (fun h => pt_val h))) (pwd_or1 (ptd_cmp op_eq op2_eq.op (pd_var (pv 5)) (pd_const pe_int (fun _ => .int _)) (nomark _))))) (pds_one (psd_ret (pd_const pe_str (fun _ => .str (by decide +kernel))))) pds_nil)))
      (pds_cons (psd_if (ptd_val (pd_prop (pd_call D_sum_apart.ok (hr.mono (by decide)) (by rfl) D_sum_apart.mg D_sum_apart.kp D_sum_apart.b (takes_of rfl rfl rfl rfl) (pda_cons (pd_var (pv 0)) (pda_cons (pd_var (pv 1)) pda_nil))) T.cl_Position D_Position_is_flat.po D_Position_is_flat.ok (hr.mono (by decide)) D_Position_is_flat.b rfl) (fun h => pt_val h)) (pds_one (psd_ret (pd_const pe_str (fun _ => .str (by decide +kernel))))) pds_nil)
      (pds_one (psd_ret (pd_const pe_non (fun _ => .non))))))))), ?_⟩
  rintro as Qd Ed ⟨gs, tb, x, rfl, hx, hg, ht, hlow, htl, k⟩
  refine DR.start (δ' := [some (.d (.dK (apK C gs tb))), some (.d x), none, none, none, none]) rfl ?_
  with_reducible refine DR.cut (fun δ => δ = [some (.d (.dK (apK C gs tb))), some (.d x), none, none, none, none] ∧ isS x = true ∧ 1 ≤ (seqOf x).length ∧ (seqOf x).length ≤ 4) (fun N kN => ?_) ?_
  · walk_at "dd"
    obtain ⟨n, hn⟩ := hx.pl
    refine ⟨x, n, rfl, hn, ?_⟩
    cases q : isS x with
    | false =>
      walk_at "dd"
      have e : contW gs.length tb x = some "contents" := by unfold contW; exact if_pos (.inl q)
      rw [e] at k
      exact k
    | true =>
      have hz : (seqOf x).length ≤ sizeLine := Nat.le_trans hx.len (by decide)
      have e : ¬ (1 ≤ (seqOf x).length ∧ (seqOf x).length ≤ 4) → contW gs.length tb x = some "contents" := fun h => by unfold contW; exact if_pos (.inr (by omega))
      cases hn with
      | lst l =>
        walk_at "dd"
        by_cases c1 : 1 ≤ l.length
        · rw [show decide (1 ≤ (l.length : Int)) = true from decide_eq_true (by omega)]
          walk_at "dd"
          by_cases c2 : l.length ≤ 4
          · rw [show decide ((l.length : Int) ≤ 4) = true from decide_eq_true (by omega)]
            walk_at "dd"
            exact kN _ ⟨rfl, q, c1, c2⟩
          · rw [show decide ((l.length : Int) ≤ 4) = false from decide_eq_false (by omega)]
            walk_at "dd"
            rw [e fun h => c2 h.2] at k
            exact k
        · rw [show decide (1 ≤ (l.length : Int)) = false from decide_eq_false (by omega)]
          walk_at "dd"
          rw [e fun h => c1 h.1] at k
          exact k
      | tup l =>
        walk_at "dd"
        by_cases c1 : 1 ≤ l.length
        · rw [show decide (1 ≤ (l.length : Int)) = true from decide_eq_true (by omega)]
          walk_at "dd"
          by_cases c2 : l.length ≤ 4
          · rw [show decide ((l.length : Int) ≤ 4) = true from decide_eq_true (by omega)]
            walk_at "dd"
            exact kN _ ⟨rfl, q, c1, c2⟩
          · rw [show decide ((l.length : Int) ≤ 4) = false from decide_eq_false (by omega)]
            walk_at "dd"
            rw [e fun h => c2 h.2] at k
            exact k
        · rw [show decide (1 ≤ (l.length : Int)) = false from decide_eq_false (by omega)]
          walk_at "dd"
          rw [e fun h => c1 h.1] at k
          exact k
      | _ => cases q
  rintro δ ⟨rfl, q, c1, c2⟩
  have hro : RowOf x (seqOf x) := by
    obtain ⟨n, hn⟩ := hx.pl
    cases hn <;> first | exact .inl rfl | exact .inr rfl | cases q
  have n1 : ¬ (isS x = false ∨ (seqOf x).length < 1 ∨ 4 < (seqOf x).length) := by rintro (h | h | h); (rw [q] at h; cases h); omega; omega
  have eW : contW gs.length tb x = match thg (tb.map (·.1)) [] (seqOf x) with
    | none => some "thing"
    | some ps => if (ps.all fun p => cntB p.2) = false then some "count" else if sumV gs.length tb (ps.map fun p => (p.1, intOf p.2)) = zeroV gs.length then some "flat" else none := by
    unfold contW; rw [if_neg n1]
  rw [eW] at k
  with_reducible refine DR.cut (fun δ => δ = [some (.d (.dK (apK C gs tb))), some (.d x), some (.own (.lst [])), none, none, none]) (fun N kN => ?_) ?_
  · walk_at "dd"
    exact kN _ rfl
  rintro δ rfl
  with_reducible refine DR.cut (fun δ => ∃ ps, thg (tb.map (·.1)) [] (seqOf x) = some ps ∧ ∃ p2 p3, δ = [some (.d (.dK (apK C gs tb))), some (.d x), p2, p3, none, none]) (fun N kN => ?_) ?_
  · refine DR.for_ ?_
    refine seq_row rfl hro ?_
    refine DR.for_inv (fun i δ => ∃ (zs : List Str) (p3 : Option DV), δ = [some (.d (.dK (apK C gs tb))), some (.d x), some (.own (.lst (zs.map .str))), p3, none, none] ∧ zs.length = i ∧ (thg (tb.map (·.1)) zs ((seqOf x).drop i) = none ↔ thg (tb.map (·.1)) [] (seqOf x) = none)) ⟨[], _, rfl, rfl, Iff.rfl⟩ ?_ ?_
    · rintro i e δ N he ⟨zs, p3, rfl, hl, hi⟩ kN
      have hem : e ∈ seqOf x := List.mem_of_getElem? he
      have en := hx.all e hem
      obtain ⟨m, hm⟩ := en.pl
      have hil : i < (seqOf x).length := (List.getElem?_eq_some_iff.mp he).1
      rw [List.drop_eq_getElem_cons hil, show (seqOf x)[i] = e from (List.getElem?_eq_some_iff.mp he).2] at hi
      have bad : thg (tb.map (·.1)) zs (e :: (seqOf x).drop (i + 1)) = none → Qd (.d (.str "thing")) [] := fun h => by
        rw [hi.mp h] at k
        exact k
      walk_at "dd"
      refine ⟨e, m, 2, rfl, hm, by decide, ?_⟩
      cases qr : isR 2 e with
      | false =>
        walk_at "dd"
        exact bad (by unfold thg; exact if_pos qr)
      | true =>
        obtain ⟨a, b, qe, hee⟩ := row2 qr
        have sa := en.all a (by rw [qe]; exact List.mem_cons_self)
        walk_at "dd"
        refine alt_ix rfl hee ?_
        walk_at "dd"
        refine ⟨okK_ap hlow, ?_⟩
        refine ⟨_, .inl rfl, sa.cmp, by rw [keysD_ap]; exact cmp_strL, ?_⟩
        rw [if_pos rfl, keysD_ap]
        cases hk : keyD (tb.map (·.1)) a with
        | none =>
          rw [show ((pyL ((tb.map (·.1)).map D.str)).any fun y => PyData.eqv y (DV.d a).toD.py) = false from any_ne sa.cmp (keyD_none hk)]
          refine ⟨DR.nost_b, _, rfl, ?_⟩
          walk_at "dd"
          exact bad (by unfold thg; rw [if_neg (by rw [qr]; exact Bool.noConfusion), qe]; dsimp only; rw [hk])
        | some z =>
          obtain ⟨rfl, hz⟩ := keyD_some hk
          rw [show ((pyL ((tb.map (·.1)).map D.str)).any fun y => PyData.eqv y (DV.d (D.str z)).toD.py) = decide (z ∈ tb.map (·.1)) from any_str, decide_eq_true hz]
          refine ⟨DR.nost_b, _, rfl, ?_⟩
          walk_at "dd"
          refine alt_ix rfl hee ?_
          refine ⟨_, rfl, sa.cmp, cmp_strL, ?_⟩
          rw [show ((pyL (zs.map D.str)).any fun y => PyData.eqv y (DV.d (D.str z)).toD.py) = decide (z ∈ zs) from any_str]
          have et : thg (tb.map (·.1)) zs (e :: (seqOf x).drop (i + 1)) = if z ∈ zs then none else (thg (tb.map (·.1)) (zs ++ [z]) ((seqOf x).drop (i + 1))).map ((z, b) :: ·) := by
            conv => lhs; unfold thg
            rw [if_neg (by rw [qr]; exact Bool.noConfusion), qe]; dsimp only; rw [hk]
          by_cases hzs : z ∈ zs
          · rw [decide_eq_true hzs]
            refine ⟨true, rfl, ?_⟩
            walk_at "dd"
            exact bad (by rw [et, if_pos hzs])
          · rw [decide_eq_false hzs]
            refine ⟨false, rfl, ?_⟩
            walk_at "dd"
            refine alt_ix rfl hee ?_
            walk_at "dd"
            refine ⟨[_], _, rfl, rfl, _, rfl, by rw [List.length_map]; exact Nat.lt_of_lt_of_le (show zs.length < 4 by omega) (by decide), ?_⟩
            rw [et, if_neg hzs, Option.map_eq_none_iff] at hi
            exact kN _ ⟨zs ++ [z], _, by rw [List.map_append]; rfl, by rw [List.length_append, hl]; rfl, hi⟩
    · rintro δ ⟨zs, p3, rfl, hl, hi⟩
      rw [List.drop_length] at hi
      cases hg : thg (tb.map (·.1)) [] (seqOf x) with
      | none => exact absurd (hi.mpr hg) (fun z => nomatch z)
      | some ps => exact kN _ ⟨ps, hg, _, _, rfl⟩
  rintro δ ⟨ps, hps, p2, p3, rfl⟩
  rw [hps] at k
  dsimp only at k
  obtain ⟨⟨qs, e1, e2⟩, hkk, nd⟩ := thg_some hps
  subst e2
  rw [e1] at hro
  have hql : qs.length ≤ 4 := by rw [e1, List.length_map] at c2; exact c2
  have hsm : ∀ q ∈ qs, Sm q.2.2 := fun q hq => by
    have := (hx.all (enD q) (by rw [e1]; exact List.mem_map_of_mem hq)).all q.2.2
    obtain ⟨b, c⟩ := q
    cases b <;> exact this (List.mem_cons_of_mem _ List.mem_cons_self)
  with_reducible refine DR.cut (fun δ => (∀ q ∈ qs, cntB q.2.2 = true) ∧ ∃ p2 p3 p4 p5, δ = [some (.d (.dK (apK C gs tb))), some (.d x), p2, p3, p4, p5]) (fun N kN => ?_) ?_
  · refine DR.for_ ?_
    refine seq_row rfl hro ?_
    refine DR.for_inv (fun i δ => (∀ q ∈ qs.take i, cntB q.2.2 = true) ∧ ∃ p4 p5, δ = [some (.d (.dK (apK C gs tb))), some (.d x), p2, p3, p4, p5]) ⟨(fun q h => by rw [List.take_zero] at h; exact nomatch h), _, _, rfl⟩ ?_ ?_
    · rintro i e δ N he ⟨hi, p4, p5, rfl⟩ kN
      obtain ⟨q, hq, rfl⟩ := DR.map_at he
      have hqm := List.mem_of_getElem? hq
      have sq := hsm q hqm
      obtain ⟨m, hm⟩ := sq.pl
      have bad : cntB q.2.2 = false → Qd (.d (.str "count")) [] := fun h => by
        rw [if_pos] at k
        · exact k
        · refine Bool.eq_false_iff.mpr fun z => ?_
          rw [List.all_eq_true.mp z q.2 (List.mem_map_of_mem hqm)] at h
          cases h
      have go : ∀ {Q : DSt → Prop} {δ : DSt}, Q ((δ.set 4 (some (.d (.str q.2.1)))).set 5 (some (.d q.2.2))) → orG (tupG [4, 5]) (lstG [4, 5]) (enD q) δ Q := fun {Q δ} h => by
        obtain ⟨b, c⟩ := q
        cases b
        · exact .inr ⟨_, rfl, h⟩
        · exact .inl ⟨_, rfl, h⟩
      refine go ?_
      walk_at "dd"
      refine ⟨_, m, _, _, rfl, hm, ?_⟩
      cases hw : whB (-1000) 1000 q.2.2 with
      | false =>
        rw [show whB (-1000) 1000 (DV.d q.2.2).toD = false from hw]
        walk_at "dd"
        refine bad ?_
        cases hd : q.2.2 with
        | int j =>
          rw [hd] at hw
          show (decide (-1000 ≤ j) && decide (j ≤ 1000) && _) = false
          rw [show (decide (-1000 ≤ j) && decide (j ≤ 1000)) = false from hw]
          rfl
        | _ => rfl
      | true =>
        rw [show whB (-1000) 1000 (DV.d q.2.2).toD = true from hw]
        cases hd : q.2.2 with
        | int j =>
          rw [hd] at hw bad
          walk_at "dd"
          refine DR.split (fun c => ?_) (fun c => ?_)
          · walk_at "dd"
            refine bad ?_
            show (_ && !decide (j = 0)) = false
            rw [decide_eq_true c]
            exact Bool.and_false _
          · walk_at "dd"
            refine kN _ ⟨fun r hr => ?_, _, _, rfl⟩
            rw [List.take_succ, hq] at hr
            rcases List.mem_append.mp hr with hr | hr
            · exact hi r hr
            · cases List.mem_singleton.mp hr
              rw [hd]
              show (_ && !decide (j = 0)) = true
              rw [decide_eq_false c]
              show (decide (-1000 ≤ j) && decide (j ≤ 1000) && true) = true
              rw [show (decide (-1000 ≤ j) && decide (j ≤ 1000)) = true from hw]
              rfl
        | _ => rw [hd] at hw; cases hw
    · rintro δ ⟨hi, p4, p5, rfl⟩
      rw [List.length_map, List.take_length] at hi
      exact kN _ ⟨hi, _, _, _, _, rfl⟩
  rintro δ ⟨hcn, p2, p3, p4, p5, rfl⟩
  let rs : List (Bool × (Str × Int)) := qs.map fun q => (q.1, (q.2.1, intOf q.2.2))
  have er : qs.map enD = rs.map entD := by
    rw [List.map_map]
    refine List.map_congr_left fun q hq => ?_
    obtain ⟨i, e, _⟩ := cntB_int (hcn q hq)
    show enD q = entD (q.1, (q.2.1, intOf q.2.2))
    unfold enD entD
    rw [e]
    rfl
  have e3 : rs.map (·.2) = (qs.map (·.2)).map fun p => (p.1, intOf p.2) := by rw [List.map_map, List.map_map]; rfl
  rw [if_neg (by
    rw [show ((qs.map (·.2)).all fun p => cntB p.2) = true from List.all_eq_true.mpr fun p hp => by obtain ⟨q, hq, rfl⟩ := List.mem_map.mp hp; exact hcn q hq]
    exact Bool.noConfusion), ← e3] at k
  have q0 : qs ≠ [] := fun z => by rw [e1, z] at c1; exact absurd c1 (by decide)
  walk_at "dd"
  refine ⟨gs, tb, rs, x, rfl, by rw [← er]; exact hro, hg, fun p hp => (ht p hp).1, fun z => q0 (List.map_eq_nil_iff.mp z), by rw [List.length_map]; omega, fun r hr => ?_, ?_⟩
  · obtain ⟨q, hq, rfl⟩ := List.mem_map.mp hr
    obtain ⟨i, e, _, g1, g2⟩ := cntB_int (hcn q hq)
    refine ⟨(hkk q.2 (List.mem_map_of_mem hq)).1, ?_⟩
    show -1000 ≤ intOf q.2.2 ∧ intOf q.2.2 ≤ 1000
    rw [e]
    exact ⟨g1, g2⟩
  · walk_at "dd"
    refine ⟨gs, _, rfl, ?_⟩
    rw [flat_zero, sumV_len]
    by_cases hz : sumV gs.length tb (rs.map (·.2)) = zeroV gs.length
    · rw [if_pos hz] at k
      rw [decide_eq_true hz]
      walk_at "dd"
      exact k
    · rw [if_neg hz] at k
      rw [decide_eq_false hz]
      walk_at "dd"
      exact k
end
end KT

set_option Elab.async false
set_option linter.all false
set_option maxRecDepth 100000
set_option maxHeartbeats 0
set_option pp.deepTerms false
set_option pp.deepTerms.threshold 8


namespace KT
open PySem PySem.Spec PyProof.Rows L2 DL
/-! ### what is wrong with a row -/
structure Rw (r : D) : Prop where
  pl : ∃ n, Pl r n
  len : (seqOf r).length ≤ 1000
  nm : ∀ a b, seqOf r = [a, b] → (∃ n, Pl a n) ∧ (∀ z, a = .str z → z.length ≤ 1000) ∧ Ct b
def rowW (n : Nat) (tb : Tb) (r : D) : Option Str :=
  if isR 2 r = false then some "row" else
  match seqOf r with
  | [a, b] => if thB a = false then some "name" else if keyD (tb.map (·.1)) a ≠ none then some "double" else contW n tb b
  | _ => none
def nmOf (r : D) : Str := match seqOf r with
  | [.str z, _] => z
  | _ => ""
def pairOf (e : D) : Str × Int := match seqOf e with
  | [.str z, .int i] => (z, i)
  | _ => ("", 0)
def ctOf (r : D) : List (Str × Int) := match seqOf r with
  | [_, b] => (seqOf b).map pairOf
  | _ => []
theorem pair_ent {q : Bool × (Str × Int)} : pairOf (entD q) = q.2 := by
  obtain ⟨b, c⟩ := q
  cases b <;> rfl
theorem thB_nm {a : D} (h : thB a = true) : ∃ z, a = .str z ∧ (z ≠ "cash" ∧ 1 ≤ z.length ∧ z.length ≤ 12 ∧ Low z) := by
  cases a with
  | str z =>
    have h : (nmB z && !decide (z = cash)) = true := h
    rw [Bool.and_eq_true] at h
    have hc : z ≠ cash := by simpa using h.2
    obtain ⟨_, h1, h2, h3⟩ := nmB_nm h.1 hc
    exact ⟨z, rfl, hc, h1, h2, h3⟩
  | _ => cases h
/-- a right row -/
theorem rowW_none {n : Nat} {tb : Tb} {r : D} (h : rowW n tb r = none) (hr : isR 2 r = true) : ∃ (q : Bool) (x : D) (qs : List (Bool × (Str × Int))), r = (if q = true then .tup [.str (nmOf r), x] else .lst [.str (nmOf r), x]) ∧ RowOf x (qs.map entD) ∧ qs.map (·.2) = ctOf r ∧ RowOk n tb (nmOf r, ctOf r) := by
  obtain ⟨a, b, q, he⟩ := row2 hr
  unfold rowW at h
  rw [if_neg (by rw [hr]; exact Bool.noConfusion), q] at h
  dsimp only at h
  split at h
  · cases h
  · rename_i h1
    obtain ⟨z, rfl, hz⟩ := thB_nm (by simpa using h1)
    split at h
    · cases h
    · rename_i h2
      have h2 : keyD (tb.map (·.1)) (.str z) = none := by simpa using h2
      obtain ⟨qs, hx, hc, hs⟩ := contW_none h
      have en : nmOf r = z := by unfold nmOf; rw [q]
      have ec : ctOf r = qs.map (·.2) := by
        unfold ctOf
        rw [q]
        have : seqOf b = qs.map entD := by rcases hx with rfl | rfl <;> rfl
        show (seqOf b).map pairOf = _
        rw [this, List.map_map]
        exact List.map_congr_left fun q _ => pair_ent
      rw [en, ec]
      refine ⟨(match r with | .tup _ => true | _ => false), b, qs, ?_, hx, rfl, hz, fun y => keyD_none h2 z y rfl, hc, hs⟩
      rcases he with rfl | rfl <;> rfl
section
variable {P : Program} {w : World} {K : PySem.W.Frag} {mg : Str → Option Value} {base : Heap} {C OG BG BP BR PC NT : Addr}
theorem valK_ap {gs : List Str} {x : Str} {tb : Tb} (h : x ∉ tb.map (·.1)) : valK (apK C gs tb) (.inr x) = none := by
  have go : ∀ tb : Tb, x ∉ tb.map (·.1) → valK (apK C gs tb) (.inr x) = none := fun tb => by
    induction tb with
    | nil => exact fun _ => rfl
    | cons p tb ih =>
      obtain ⟨y, v⟩ := p
      intro h
      have hn : ¬ (y = x) := fun e => h (by rw [List.map_cons, ← e]; exact List.mem_cons_self)
      rw [← ih fun z => h (List.mem_cons_of_mem _ z)]
      show Option.map _ (List.find? _ (((.inr y : Key), posD C gs v) :: apK C gs tb)) = _
      rw [List.find?_cons_of_neg (by rw [decide_eq_true_iff]; exact fun z => hn (Sum.inr.inj z))]
      rfl
  exact go tb h
def sdRowF (C : Addr) : SpD := fun as Q _ => ∃ (gs : List Str) (tb : Tb) (r : D), as = [.d (.dK (apK C gs tb)), .d r] ∧ Rw r ∧ Goods gs ∧ TbOk gs.length tb ∧ (∀ z ∈ tb.map (·.1), Low z) ∧ tb.length ≤ 1000 ∧ Q (.d (optD (rowW gs.length tb r))) []
abbrev s_row_fault : Stmt := top 30
theorem sc_row_fault : FnScope ["aparts", "row", "name", "contents"] ["aparts", "row"] (defScope s_row_fault) := ⟨rfl, rfl, rfl, by decide +kernel, rfl, by decide +kernel, by decide +kernel⟩
theorem ok_rowf (D_is_row : DefD P w K mg base "is_row" 3 ["thing", "length"] sdRowX) (D_is_thing_name : DefD P w K mg base "is_thing_name" 3 ["thing"] sdThingX) (D_contents_fault : DefD P w K mg base "_contents_fault" 13 ["aparts", "contents"] (sdContF C)) {f : Addr} {fd : FuncData} (G : Fun K "_row_fault" "_row_fault" s_row_fault f fd) (T : TxtS K mg C BR OG PC NT) : FnOk P w K mg base (L2.CX P w) 15 f fd ["aparts", "row"] (spOf K (sdRowF C)) := by
  refine okD G sc_row_fault [] (fun as Q E ⟨gs, tb, x, e, _⟩ => by subst e; exact ⟨rfl, rfl⟩) ⟨_, fun cdv A outer s H E ad F0 H0 hr => (pds_cons (psd_if (ptd_not (ptd_val (pd_call D_is_row.ok (hr.mono (by decide)) (by rfl) D_is_row.mg D_is_row.kp D_is_row.b (takes_of rfl rfl rfl rfl) (pda_cons (pd_var (pv 1)) (pda_cons (pd_const pe_int (fun _ => .int _)) pda_nil))) (fun h => pt_val h))) (pds_one (psd_ret (pd_const pe_str (fun _ => .str (by decide +kernel))))) pds_nil)
      (pds_cons (psd_unpack (pd_var (pv 1)) (PG.or (pgd_tup (is := [2, 3]) (vs := [2, 3]) (pg_tup rfl (pgs_cons (pg_name (i := 2) sc_row_fault.nd rfl (.inl rfl)) (pgs_cons (pg_name (i := 3) sc_row_fault.nd rfl (.inl rfl)) pgs_nil))) rfl (by show ∀ i ∈ ([2, 3] : List Nat), ¬ (i ∈ ([] : List Nat)) ∧ i ∈ ([2, 3] : List Nat); decide)) (pgd_lst (is := [2, 3]) (vs := [2, 3]) (pg_unl rfl (pgs_cons (pg_name (i := 2) sc_row_fault.nd rfl (.inl rfl)) (pgs_cons (pg_name (i := 3) sc_row_fault.nd rfl (.inl rfl)) pgs_nil))) rfl (by show ∀ i ∈ ([2, 3] : List Nat), ¬ (i ∈ ([] : List Nat)) ∧ i ∈ ([2, 3] : List Nat); decide))) (fun h g => ps_asg h g))
      (pds_cons (psd_if (ptd_not (ptd_val (pd_call D_is_thing_name.ok (hr.mono (by decide)) (by rfl) D_is_thing_name.mg D_is_thing_name.kp D_is_thing_name.b (takes_of rfl rfl rfl rfl) (pda_cons (pd_var (pv 2)) pda_nil)) (fun h => pt_val h))) (pds_one (psd_ret (pd_const pe_str (fun _ => .str (by decide +kernel))))) pds_nil)
      (pds_cons (psd_if (ptd_inKF_t (fun hi ho => pt_cmp (pc_din (hu_of hr) hi ho)) (pd_var (pv 2)) (pd_var (pv 0))) (pds_one (psd_ret (pd_const pe_str (fun _ => .str (by decide +kernel))))) pds_nil)
      (pds_one (psd_ret (pd_call D_contents_fault.ok (hr.mono (by decide)) (by rfl) D_contents_fault.mg D_contents_fault.kp D_contents_fault.b (takes_of rfl rfl rfl rfl) (pda_cons (pd_var (pv 0)) (pda_cons (pd_var (pv 3)) pda_nil))))))))), ?_⟩
  rintro as Qd Ed ⟨gs, tb, r, rfl, hr, hg, ht, hlow, htl, k⟩
  refine DR.start (δ' := [some (.d (.dK (apK C gs tb))), some (.d r), none, none]) rfl ?_
  obtain ⟨n, hn⟩ := hr.pl
  walk_at "dd"
  refine ⟨r, n, 2, rfl, hn, by decide, ?_⟩
  cases q : isR 2 r with
  | false =>
    walk_at "dd"
    rw [show rowW gs.length tb r = some "row" by unfold rowW; exact if_pos q] at k
    exact k
  | true =>
    obtain ⟨a, b, qe, hee⟩ := row2 q
    obtain ⟨⟨m, hm⟩, hz, hct⟩ := hr.nm a b qe
    have eW : rowW gs.length tb r = if thB a = false then (some "name" : Option Str) else if keyD (tb.map (·.1)) a ≠ none then (some "double" : Option Str) else contW gs.length tb b := by
      unfold rowW
      rw [if_neg (by rw [q]; exact Bool.noConfusion), qe]
    rw [eW] at k
    walk_at "dd"
    have go : ∀ {Q : DSt → Prop} {δ : DSt}, Q ((δ.set 2 (some (.d a))).set 3 (some (.d b))) → orG (tupG [2, 3]) (lstG [2, 3]) r δ Q := fun {Q δ} h => by
      rcases hee with rfl | rfl
      · exact .inl ⟨_, rfl, h⟩
      · exact .inr ⟨_, rfl, h⟩
    refine go ?_
    walk_at "dd"
    refine ⟨a, m, rfl, hm, hz, ?_⟩
    cases qn : thB a with
    | false =>
      rw [if_pos qn] at k
      walk_at "dd"
      exact k
    | true =>
      rw [if_neg (by rw [qn]; exact Bool.noConfusion)] at k
      obtain ⟨z, rfl, hzn⟩ := thB_nm qn
      walk_at "dd"
      refine ⟨_, .inr z, rfl, rfl, ?_⟩
      by_cases hk : z ∈ tb.map (·.1)
      · rw [keyD_str hk, if_pos (by exact Option.some_ne_none _)] at k
        rw [val_ap hk]
        refine ⟨true, rfl, ?_⟩
        walk_at "dd"
        exact k
      · rw [if_neg (by
          have : keyD (tb.map (·.1)) (.str z) = none := by unfold keyD; dsimp only; exact if_neg hk
          rw [this]; exact fun h => h rfl)] at k
        rw [valK_ap hk]
        refine ⟨false, rfl, ?_⟩
        walk_at "dd"
        refine ⟨gs, tb, b, rfl, hct, hg, ht, hlow, htl, ?_⟩
        walk_at "dd"
        exact k
end
end KT

set_option Elab.async false
set_option linter.all false
set_option maxRecDepth 100000
set_option maxHeartbeats 0
set_option pp.deepTerms false
set_option pp.deepTerms.threshold 8


namespace KT
open PySem PySem.Spec PyProof.Rows L2 DL
/-! ### parcels are made -/
/-- the rows one by one: the first wrong one with its word, or all of them -/
def rowsE (n : Nat) : Tb → Nat → List D → (Nat × Str) ⊕ List Row
  | _, _, [] => .inr []
  | tb, i, r :: rs => match rowW n tb r with
    | some w => .inl (i, w)
    | none => match rowsE n (tb ++ [(nmOf r, sumV n tb (ctOf r))]) (i + 1) rs with
      | .inl z => .inl z
      | .inr l => .inr ((nmOf r, ctOf r) :: l)
structure Rws (y : D) : Prop where
  pl : (∃ n, Pl y n) ∨ y = .ktp []
  len : (seqOf y).length ≤ 1000
  all : ∀ r ∈ seqOf y, Rw r
def isY : D → Bool
  | .ktp _ => true
  | y => isS y
def rowsP (gs : List Str) (y : D) : (Option Nat × Str) ⊕ List Row :=
  if isY y = false ∨ 6 < (seqOf y).length then .inl (none, "rows") else
  match rowsE gs.length (tab0 gs gs.length) 0 (seqOf y) with
  | .inl (i, w) => .inl (some i, w)
  | .inr l => .inr l
def ixDn : Option Nat → D
  | none => .non
  | some i => .int (i : Int)
theorem rowsOk_tb {n : Nat} : ∀ {rs : List Row} {tb : Tb}, TbOk n tb → RowsOk n tb rs → TbOk n (tabOf n tb rs)
  | [], _, h, _ => h
  | r :: rs, tb, h, g => rowsOk_tb (rs := rs) (fun p hp => by
      rcases List.mem_append.mp hp with hp | hp
      · exact h p hp
      · rw [List.mem_singleton.mp hp]
        exact ⟨sumV_len, g.1.2.2.2⟩) g.2
theorem rowsOk_low {n : Nat} : ∀ {rs : List Row} {tb : Tb}, RowsOk n tb rs → ∀ r ∈ rs, Low r.1
  | r :: rs, tb, h, r', hr => by
    rcases List.mem_cons.mp hr with rfl | hr
    · exact h.1.1.2.2.2
    · exact rowsOk_low h.2 r' hr
theorem keysM {gs : List Str} {rs : List Row} : (tabM gs rs).map (·.1) = gs ++ rs.map (·.1) := by rw [tabOf_keys, tab0_keys, List.take_length]
theorem lowM {gs : List Str} {rs : List Row} (hg : Goods gs) (hr : RowsOk gs.length (tab0 gs gs.length) rs) : ∀ z ∈ (tabM gs rs).map (·.1), Low z := fun z hz => by
  rw [keysM] at hz
  rcases List.mem_append.mp hz with h | h
  · exact (hg.2.2.2 z h).2.2.2
  · obtain ⟨r, h2, rfl⟩ := List.mem_map.mp h
    exact rowsOk_low hr r h2
theorem unit_at {gs : List Str} (nd : gs.Nodup) {i : Nat} (h : i < gs.length) : (gs.map fun b => if b = gs[i] then (1 : Int) else 0) = unitV gs.length i := by
  unfold unitV
  refine List.ext_getElem (by rw [List.length_map, List.length_map, List.length_range]) fun j h1 h2 => ?_
  rw [List.getElem_map, List.getElem_map, List.getElem_range]
  rw [List.length_map] at h1
  by_cases e : i = j
  · subst e; rw [if_pos rfl, if_pos rfl]
  · rw [if_neg e, if_neg fun z => e (((List.getElem_inj nd).mp z).symm)]
theorem noK_ints : ∀ {l : List Int}, noKL (l.map .int) = true
  | [] => rfl
  | _ :: l => by rw [List.map_cons]; exact noK_ints (l := l)
theorem noK_pps : ∀ {l : List (Str × Int)}, noKL (l.map ppD) = true
  | [] => rfl
  | _ :: l => by rw [List.map_cons]; exact noK_pps (l := l)
theorem noK_pos {C : Addr} {gs : List Str} {js : List Int} : (posD C gs js).noK = true := by
  show noKF (posFs gs js) = true
  show (noKL (gs.map .str) && (noKL (js.map .int) && (noKL (List.map ppD _) && true))) = true
  rw [noK_strs, noK_ints, noK_pps]
  rfl
theorem enum_y {y : D} {δ : DSt} {Q : List D → DSt → Prop} {E : XD} (h : δ[2]? = some (some (.d y))) (hy : (∃ n, Pl y n) ∨ y = .ktp []) (q : isY y = true) (k : Q (enumL (seqOf y)) δ) : orI (enumI (consD (varD 2) nilD)) (orI (enumTI (consD (varD 2) nilD)) (enumKI (consD (varD 2) nilD))) δ Q E := by
  rcases hy with ⟨n, hn⟩ | rfl
  · cases hn with
    | lst l => exact .inl (DR.enumi (DR.cons (DR.var h (DR.nil ⟨_, _, rfl, .inl rfl, k⟩))))
    | tup l => exact .inr (.inl (DR.cons (DR.var h (DR.nil ⟨_, rfl, k⟩))))
    | _ => cases q
  · exact .inr (.inr (DR.cons (DR.var h (DR.nil ⟨_, rfl, k⟩))))
theorem tup_ent {q : Bool × (Str × Int)} {Q : DV → Prop} (k : Q (.d (ctD q.2))) : tupleN [entD q] Q := by
  obtain ⟨b, c⟩ := q
  cases b
  · exact ⟨_, _, rfl, .inl rfl, k⟩
  · exact ⟨_, _, rfl, .inr (.inr rfl), k⟩
section
variable {P : Program} {w : World} {K : PySem.W.Frag} {mg : Str → Option Value} {base : Heap} {C OG BG BP BR PC NT NA BA TU : Addr}
structure TxtT (K : PySem.W.Frag) (mg : Str → Option Value) (C BR OG PC NT BA : Addr) : Prop extends TxtS K mg C BR OG PC NT where
  c_BadParcels : mg "BadParcels" = some (.ref BA)
def sdParInit (PC C BG BA : Addr) : SpD := fun as Q E => ∃ (x y : D), as = [.own (.ins PC []), .d x, .d y] ∧ GA x ∧ Rws y ∧ (∀ v, goodsW x = some v → ∀ o, E ⟨BG, some [("what", .str v)]⟩ [o]) ∧
  (∀ gs, RowOf x (gs.map .str) → Goods gs → (∀ rs, rowsP gs y = .inr rs → RowsOk gs.length (tab0 gs gs.length) rs → rs.length ≤ 6 → Q (.d .non) [.ins PC (parFs C gs rs)]) ∧ ∀ i v, rowsP gs y = .inl (i, v) → ∀ o, E ⟨BA, some [("what", .str v), ("index", ixDn i)]⟩ [o])
def sdSeqY : SpD := fun as Q _ => ∃ x : D, as = [.d x] ∧ ((∃ n, Pl x n) ∨ x = .ktp []) ∧ Q (.d (.bl (isY x))) []
theorem ok_seqY {f : Addr} {fd : FuncData} (G : Fun K "is_sequence" "is_sequence" s_is_sequence f fd) (T : TxtN mg) : FnOk P w K mg base (L2.CX P w) 1 f fd ["thing"] (spOf K sdSeqY) := by
  refine okD G sc_is_sequence [] (fun as Q E ⟨xs, e, _⟩ => by subst e; exact ⟨rfl, rfl⟩) ⟨_, fun cdv A outer s H E ad F0 H0 hr => (pds_one (psd_ret (pd_builtB (fun h => pe_callB call_isiT (by rfl) T.b_isinstance (by decide +kernel) h) (cn_isiT (K := K)).op (pda_cons (pd_var (pv 0)) (pda_cons (pd_tup (fun h => pe_tup h) (pda_cons (pd_const (pe_bltn (v := .ty "list") (by rfl) T.b_list (by decide +kernel) rfl) (fun _ => .ty _)) (pda_cons (pd_const (pe_bltn (v := .ty "tuple") (by rfl) T.b_tuple (by decide +kernel) rfl) (fun _ => .ty _)) pda_nil))) pda_nil))))), ?_⟩
  rintro as Qd Ed ⟨x, rfl, hx, k⟩
  refine DR.start (δ' := [some (.d x)]) rfl ?_
  walk_at "dd"
  rcases hx with ⟨n, hx⟩ | rfl
  · cases hx with
    | non => exact ⟨_, _, _, _, false, rfl, .cons (.ty _) (.cons (.ty _) .nil), .non, rfl, DR.nost_b, by walk_at "dd"; exact k⟩
    | bl b => exact ⟨_, _, _, _, false, rfl, .cons (.ty _) (.cons (.ty _) .nil), .bl _, rfl, DR.nost_b, by walk_at "dd"; exact k⟩
    | int i => exact ⟨_, _, _, _, false, rfl, .cons (.ty _) (.cons (.ty _) .nil), .int _, rfl, DR.nost_b, by walk_at "dd"; exact k⟩
    | str s => exact ⟨_, _, _, _, false, rfl, .cons (.ty _) (.cons (.ty _) .nil), .str _, rfl, DR.nost_b, by walk_at "dd"; exact k⟩
    | lst l => exact ⟨_, _, _, _, true, rfl, .cons (.ty _) (.cons (.ty _) .nil), .lst _, rfl, DR.nost_b, by walk_at "dd"; exact k⟩
    | tup l => exact ⟨_, _, _, _, true, rfl, .cons (.ty _) (.cons (.ty _) .nil), .tup _, rfl, DR.nost_b, by walk_at "dd"; exact k⟩
  · exact ⟨_, _, _, _, true, rfl, .cons (.ty _) (.cons (.ty _) .nil), .ktp _, rfl, DR.nost_b, by walk_at "dd"; exact k⟩
abbrev s_Parcels___init : Stmt := inClass (top 32) 0
theorem sc_Parcels___init : FnScope ["self", "goods", "rows", "kept", "index", "row", "word", "name", "contents", "good", "entry"] ["self", "goods", "rows"] (defScope s_Parcels___init) := ⟨rfl, rfl, rfl, by decide +kernel, rfl, by decide +kernel, by decide +kernel⟩
theorem ok_parinit (X_BadParcels : DefX P w K mg base "BadParcels" BA ["index", "what"]) (D_is_sequence : DefD P w K mg base "is_sequence" 1 ["thing"] sdSeqY) (D_checked_goods : DefD P w K mg base "checked_goods" 3 ["goods"] (sdGoodsX BG)) (D_Position_single_2 : DefC P w K mg base C (.type "type") "single" 9 (dfltD 3 [.int 1] (sdPSingle C BG BP NA))) (D_row_fault : DefD P w K mg base "_row_fault" 15 ["aparts", "row"] (sdRowF C)) (D_sum_apart : DefD P w K mg base "_sum_apart" 11 ["aparts", "contents"] (sdSumA C)) {f : Addr} {fd : FuncData} (G : FunD K "__init__" "Parcels.__init__" (defArgs s_Parcels___init) (defBody s_Parcels___init) (defScope s_Parcels___init) [.ref TU] [] f fd) (T : TxtT K mg C BR OG PC NT BA) : FnOk P w K mg base (L2.CX P w) 17 f fd ["self", "goods", "rows"] (spOf K (sdParInit PC C BG BA)) := by
  obtain ⟨_, k__MOST_ROWS⟩ := T.k__MOST_ROWS
  refine okDD G sc_Parcels___init [0] (fun as Q E ⟨x, y, e, _⟩ => by subst e; exact ⟨rfl, rfl⟩) ⟨_, fun cdv A outer s H E ad F0 H0 hr => (pss_exitI (i := 0) (pdsc_cons (psc_up (psd_fld (i := 0) (pv 0) (pd_call D_checked_goods.ok (hr.mono (by decide)) (by rfl) D_checked_goods.mg D_checked_goods.kp D_checked_goods.b (takes_of rfl rfl rfl rfl) (pda_cons (pd_var (pv 1)) pda_nil)) T.cl_Parcels (T.na_Parcels _ (by decide)) rfl))
      (pdsc_cons (psc_up (psd_if (PW.pt (pwd_or (ptd_not (ptd_val (pd_call D_is_sequence.ok (hr.mono (by decide)) (by rfl) D_is_sequence.mg D_is_sequence.kp D_is_sequence.b (takes_of rfl rfl rfl rfl) (pda_cons (pd_var (pv 2)) pda_nil)) (fun h => pt_val h))) (pwd_or1 (ptd_cmp op_gt (op2_I0 fun _ _ _ => .bl _) (pd_builtB (fun h => pe_callB call_len_seq (by rfl) T.b_len (by decide +kernel) h) cn_len.op (pda_cons (pd_var (pv 2)) pda_nil)) (pd_const (pe_glob (v := (.int 6)) rfl k__MOST_ROWS ⟨_, rfl⟩) (fun _ => .int _)) (nomark _))))) (pds_one (psd_raiseR rfl (takes_of rfl rfl rfl rfl) (fun h => pmk_oex X_BadParcels.ox X_BadParcels.ini X_BadParcels.ty X_BadParcels.ok (hr.mono (by decide)) X_BadParcels.b .nil pass0 (by rfl) X_BadParcels.mg h) (pda_cons (pd_const pe_non (fun _ => .non)) (pda_cons (pd_const pe_str (fun _ => .str (by decide +kernel))) pda_nil)))) pds_nil))
      (pdsc_cons (psc_fldC (i := 0) (pv 0) (pd_dc (own := [("good", 9)]) (by rfl) sc_Parcels___init.nd (pid_tup (pd_fldO (i := 0) (pv 0) T.cl_Parcels (T.na_Parcels _ (by decide)) rfl)) (blkOk_by (own := [("good", 9)]) (N := ["self", "goods", "rows", "kept", "index", "row", "word", "name", "contents", "good", "entry"]) (sc := defScope s_Parcels___init) (by decide +kernel)) (fun _ _ _ _ _ => (pgd_name (i := 9) (vs := [9]) (pg_name (i := 9) sc_Parcels___init.nd rfl (.inl rfl)) (by show ¬ (9 ∈ ([0] : List Nat)); decide) (by decide))) (fun _ _ _ _ _ => ptsd_nil) (fun _ _ _ _ _ => (pd_var (pv 9))) (fun _ _ _ _ _ => (pd_clsm (pd_const (pe_glob (v := .ref C) rfl T.c_Position rfl) (fun _ => .adr _)) T.cr_Position D_Position_single_2.cm D_Position_single_2.ok (hr.mono (by decide)) takes0 (pda_cons (pd_fldO (i := 0) (pv 0) T.cl_Parcels (T.na_Parcels _ (by decide)) rfl) (pda_cons (pd_var (pv 9)) pda_nil)))) (by show ∀ i ∈ ([9] : List Nat), ¬ (i ∈ ([0] : List Nat)); decide)) T.cl_Parcels (T.na_Parcels _ (by decide)) rfl)
      (pdsc_cons (psc_up (psd_setO (i := 3) (pd_lst (fun h => pe_lst h) pda_nil) (by show ¬ (3 ∈ ([0] : List Nat)); decide) sc_Parcels___init.nd rfl (.inl rfl)))
      (pdsc_cons (psc_for (passes_of rfl) rfl (PI.or (pid_enum (by rfl) T.b_enumerate (pda_cons (pd_var (pv 2)) pda_nil)) (PI.or (pid_enumT (by rfl) T.b_enumerate (pda_cons (pd_var (pv 2)) pda_nil)) (pid_enumK (by rfl) T.b_enumerate (pda_cons (pd_var (pv 2)) pda_nil)))) (pgd_tup (is := [4, 5]) (vs := [4, 5]) (pg_tup rfl (pgs_cons (pg_name (i := 4) sc_Parcels___init.nd rfl (.inl rfl)) (pgs_cons (pg_name (i := 5) sc_Parcels___init.nd rfl (.inl rfl)) pgs_nil))) rfl (by show ∀ i ∈ ([4, 5] : List Nat), ¬ (i ∈ ([0] : List Nat)) ∧ i ∈ ([4, 5] : List Nat); decide))
      (pdsc_cons (psc_set (i := 6) (o := false) (pec_lendK D_row_fault.ok (hr.mono (by decide)) (by rfl) D_row_fault.mg D_row_fault.kp D_row_fault.b (takes_of rfl rfl rfl rfl) (pd_fldO (i := 0) (pv 0) T.cl_Parcels (T.na_Parcels _ (by decide)) rfl) (pd_var (pv 5))) (by show ¬ (6 ∈ ([0] : List Nat)); decide) sc_Parcels___init.nd rfl (.inl rfl))
      (pdsc_cons (psc_up (psd_if (ptd_cmp op_notN op2_notN.op (pd_var (pv 6)) (pd_const pe_non (fun _ => .non)) (nomark _)) (pds_one (psd_raiseR rfl (takes_of rfl rfl rfl rfl) (fun h => pmk_oex X_BadParcels.ox X_BadParcels.ini X_BadParcels.ty X_BadParcels.ok (hr.mono (by decide)) X_BadParcels.b .nil pass0 (by rfl) X_BadParcels.mg h) (pda_cons (pd_var (pv 4)) (pda_cons (pd_var (pv 6)) pda_nil)))) pds_nil))
      (pdsc_cons (psc_up (psd_unpack (pd_var (pv 5)) (PG.or (pgd_tup (is := [7, 8]) (vs := [7, 8]) (pg_tup rfl (pgs_cons (pg_name (i := 7) sc_Parcels___init.nd rfl (.inl rfl)) (pgs_cons (pg_name (i := 8) sc_Parcels___init.nd rfl (.inl rfl)) pgs_nil))) rfl (by show ∀ i ∈ ([7, 8] : List Nat), ¬ (i ∈ ([0] : List Nat)) ∧ i ∈ ([7, 8] : List Nat); decide)) (pgd_lst (is := [7, 8]) (vs := [7, 8]) (pg_unl rfl (pgs_cons (pg_name (i := 7) sc_Parcels___init.nd rfl (.inl rfl)) (pgs_cons (pg_name (i := 8) sc_Parcels___init.nd rfl (.inl rfl)) pgs_nil))) rfl (by show ∀ i ∈ ([7, 8] : List Nat), ¬ (i ∈ ([0] : List Nat)) ∧ i ∈ ([7, 8] : List Nat); decide))) (fun h g => ps_asg h g)))
      (pdsc_cons (psc_putC (fun ho hi hv => ps_dput (hu_of hr) ho hi hv (by rfl)) (pd_fldO (i := 0) (pv 0) T.cl_Parcels (T.na_Parcels _ (by decide)) rfl) (pec_lendK D_sum_apart.ok (hr.mono (by decide)) (by rfl) D_sum_apart.mg D_sum_apart.kp D_sum_apart.b (takes_of rfl rfl rfl rfl) (pd_fldO (i := 0) (pv 0) T.cl_Parcels (T.na_Parcels _ (by decide)) rfl) (pd_var (pv 8))) (pd_var (pv 7)))
      (pdsc_one (psc_up (psd_expr (pd_methO (j := 3) (fun ho h => pe_bm PySem.F.plainAttrs_list PySem.F.slot_list_append PySem.F.type_list_append mt_append ho h) mo_append (pv 3) (pda_cons (pd_tup (fun h => pe_tup h) (pda_cons (pd_var (pv 7)) (pda_cons (pd_builtB (fun h => pe_callTy call_tuple_of (by rfl) T.b_tuple (by decide +kernel) h) cn_tuple (pda_cons (pd_lc (own := [("entry", 10)]) (by rfl) sc_Parcels___init.nd (pid_seq (pd_var (pv 8))) (blkOk_by (own := [("entry", 10)]) (N := ["self", "goods", "rows", "kept", "index", "row", "word", "name", "contents", "good", "entry"]) (sc := defScope s_Parcels___init) (by decide +kernel)) (fun _ _ _ _ _ => (pgd_name (i := 10) (vs := [10]) (pg_name (i := 10) sc_Parcels___init.nd rfl (.inl rfl)) (by show ¬ (10 ∈ ([0] : List Nat)); decide) (by decide))) (fun _ _ _ _ _ => ptsd_nil) (fun _ _ _ _ _ => (pd_builtB (fun h => pe_callTy call_tuple_of (by rfl) T.b_tuple (by decide +kernel) h) cn_tuple (pda_cons (pd_var (pv 10)) pda_nil))) (by show ∀ i ∈ ([10] : List Nat), ¬ (i ∈ ([0] : List Nat)); decide)) pda_nil)) pda_nil))) pda_nil))))))))))
      (pdsc_one (psc_up (psd_fld (i := 0) (pv 0) (pd_builtB (fun h => pe_callTy call_tuple_of (by rfl) T.b_tuple (by decide +kernel) h) cn_tuple (pda_cons (pd_fvar (i := 3) (pv 3) (by show ¬ (3 ∈ ([0] : List Nat)); decide)) pda_nil)) T.cl_Parcels (T.na_Parcels _ (by decide)) rfl))))))))), ?_⟩
  rintro as Qd Ed ⟨x, y, rfl, hx, hy, k1, k2⟩
  refine DR.start (δ' := [some (.own (.ins PC [])), some (.d x), some (.d y), none, none, none, none, none, none, none, none]) rfl ?_
  refine DR.exitI ?_
  show seqC _ _ _ [some (.own (.ins PC [])), some (.d x), some (.d y), none, none, none, none, none, none, none, none] _
  with_reducible refine DR.cutC (fun δ cs => cs = [] ∧ ∃ gs, RowOf x (gs.map .str) ∧ Goods gs ∧ δ = [some (.own (.ins PC [("goods", .tup (gs.map .str))])), some (.d x), some (.d y), none, none, none, none, none, none, none, none]) (fun N kN => ?_) ?_
  · refine DR.upC ?_
    walk_at "dd"
    refine goods_any hx (fun gs hxr hg => ?_) fun v hv => ?_
    · walk_at "dd"
      exact kN _ _ ⟨rfl, gs, hxr, hg, rfl⟩
    · walk_at "dd"
      exact k1 v hv _
  rintro δ cs ⟨rfl, gs, hxr, hg, rfl⟩
  obtain ⟨k3, k4⟩ := k2 gs hxr hg
  with_reducible refine DR.cutC (fun δ cs => cs = [] ∧ δ = [some (.own (.ins PC [("goods", .tup (gs.map .str))])), some (.d x), some (.d y), none, none, none, none, none, none, none, none] ∧ isY y = true ∧ (seqOf y).length ≤ 6) (fun N kN => ?_) ?_
  · refine DR.upC ?_
    walk_at "dd"
    refine ⟨y, rfl, hy.pl, ?_⟩
    cases q : isY y with
    | false =>
      walk_at "dd"
      refine ⟨rfl, by show 2 ≤ 1000; decide, ?_⟩
      walk_at "dd"
      exact k4 none "rows" (by unfold rowsP; exact if_pos (.inl q)) _
    | true =>
      have hi : y.its = some (seqOf y) := by
        rcases hy.pl with ⟨n, hn⟩ | rfl
        · cases hn <;> first | rfl | cases q
        · rfl
      walk_at "dd"
      refine ⟨_, _, rfl, hi, DR.nost_i, ?_⟩
      walk_at "dd"
      refine DR.split (fun c => ?_) (fun c => ?_)
      · walk_at "dd"
        refine ⟨rfl, by show 2 ≤ 1000; decide, ?_⟩
        walk_at "dd"
        exact k4 none "rows" (by unfold rowsP; exact if_pos (.inr (by omega))) _
      · walk_at "dd"
        exact kN _ _ ⟨rfl, rfl, q, by omega⟩
  rintro δ cs ⟨rfl, rfl, q, hl6⟩
  with_reducible refine DR.cutC (fun δ cs => ∃ a, cs = [(a, .dK (apK C gs (tabM gs [])))] ∧ δ = [some (.own (.ins PC [("goods", .tup (gs.map .str)), ("_aparts", .adr a)])), some (.d x), some (.d y), none, none, none, none, none, none, none, none]) (fun N kN => ?_) ?_
  · refine DR.fldC ?_
    walk_at "dd"
    refine DR.dc_inv (fun i acc δ => acc = apK C gs (tab0 gs i) ∧ δ = [some (.own (.ins PC [("goods", .tup (gs.map .str))])), some (.d x), some (.d y), none, none, none, none, none, none, none, none]) ⟨rfl, rfl⟩ ?_ ?_
    · rintro i z acc δ N2 hz ⟨rfl, rfl⟩ kN2
      obtain ⟨g, hgi, rfl⟩ := DR.map_at hz
      have hin : i < gs.length := (List.getElem?_eq_some_iff.mp hgi).1
      have hgm := List.mem_of_getElem? hgi
      have eg : gs[i] = g := (List.getElem?_eq_some_iff.mp hgi).2
      walk_at "dd"
      refine ⟨rfl, ?_⟩
      walk_at "dd"
      refine ⟨[_, _, _], rfl, rfl, ?_⟩
      refine ⟨_, _, _, rfl, ga_row (.inr rfl) hg, dp_str.cmp, ⟨_, .int _⟩, (fun v hv => by rw [show goodsW (DV.d (D.tup (gs.map .str))).toD = none from goodsW_ok (.inr rfl) hg] at hv; cases hv), fun gs2 h1 _ => ?_⟩
      obtain rfl : gs = gs2 := row_same (.inr rfl) h1
      refine ⟨fun h => absurd rfl (h g hgm), fun g2 _ e => ?_⟩
      cases e
      refine ⟨fun j e => ?_, fun h => nomatch h⟩
      cases e
      refine ⟨.inr g, rfl, Nat.lt_of_le_of_lt (show (apK C gs (tab0 gs i)).length ≤ 5 by have := hg.2.2.1; have e := congrArg List.length (tab0_keys (gs := gs) (i := i)); rw [List.length_map, List.length_take] at e; rw [List.length_map]; omega) (by decide), ?_⟩
      refine kN2 _ _ ⟨?_, rfl⟩
      rw [tab0_snoc hin, ← eg, ← unit_at hg.1 hin]
      refine (putKD_fresh ?_).trans (by show _ = List.map _ (_ ++ _); rw [List.map_append]; rfl)
      rw [List.map_map, show (Prod.fst ∘ fun p : Str × List Int => ((.inr p.1 : Key), posD C gs p.2)) = (fun z : Str => (.inr z : Key)) ∘ Prod.fst from rfl, ← List.map_map, show (tab0 gs i).map Prod.fst = gs.take i from tab0_keys]
      intro h
      obtain ⟨b, hb, e⟩ := List.mem_map.mp h
      cases Sum.inr.inj e
      obtain ⟨j, hj, e2⟩ := List.getElem_of_mem hb
      rw [List.getElem_take] at e2
      rw [List.length_take] at hj
      have := (List.getElem_inj hg.1).mp e2
      omega
    · rintro acc δ ⟨rfl, rfl⟩
      rw [List.length_map]
      exact ⟨_, _, rfl, rfl, by show 1 < 1000; decide, fun a _ => kN _ _ ⟨a, rfl, rfl⟩⟩
  rintro δ cs ⟨a, rfl, rfl⟩
  with_reducible refine DR.cutC (fun δ cs => cs = [(a, .dK (apK C gs (tabM gs [])))] ∧ δ = [some (.own (.ins PC [("goods", .tup (gs.map .str)), ("_aparts", .adr a)])), some (.d x), some (.d y), some (.own (.lst [])), none, none, none, none, none, none, none]) (fun N kN => ?_) ?_
  · refine DR.upC ?_
    walk_at "dd"
    exact kN _ _ ⟨rfl, rfl⟩
  rintro δ cs ⟨rfl, rfl⟩
  have eP : ∀ z, rowsE gs.length (tab0 gs gs.length) 0 (seqOf y) = .inl z → rowsP gs y = .inl (some z.1, z.2) := fun z e => by
    unfold rowsP
    rw [if_neg (by rintro (h | h); (rw [q] at h; cases h); omega), e]
  have eR : ∀ l, rowsE gs.length (tab0 gs gs.length) 0 (seqOf y) = .inr l → rowsP gs y = .inr l := fun l e => by
    unfold rowsP
    rw [if_neg (by rintro (h | h); (rw [q] at h; cases h); omega), e]
  with_reducible refine DR.cutC (fun δ cs => ∃ rs p4 p5 p6 p7 p8, cs = [(a, .dK (apK C gs (tabM gs rs)))] ∧ rs.length ≤ 6 ∧ δ = [some (.own (.ins PC [("goods", .tup (gs.map .str)), ("_aparts", .adr a)])), some (.d x), some (.d y), some (.own (.lst (rs.map rowT))), p4, p5, p6, p7, p8, none, none] ∧ RowsOk gs.length (tab0 gs gs.length) rs ∧ rowsP gs y = .inr rs) (fun N kN => ?_) ?_
  · refine DR.forC ?_
    refine enum_y rfl hy.pl q ?_
    refine DR.forC_inv (fun i δ cs => ∃ rs p4 p5 p6 p7 p8, cs = [(a, .dK (apK C gs (tabM gs rs)))] ∧ rs.length = i ∧ δ = [some (.own (.ins PC [("goods", .tup (gs.map .str)), ("_aparts", .adr a)])), some (.d x), some (.d y), some (.own (.lst (rs.map rowT))), p4, p5, p6, p7, p8, none, none] ∧ RowsOk gs.length (tab0 gs gs.length) rs ∧
      (∀ z, rowsE gs.length (tabM gs rs) i ((seqOf y).drop i) = .inl z → rowsP gs y = .inl (some z.1, z.2)) ∧ (∀ l, rowsE gs.length (tabM gs rs) i ((seqOf y).drop i) = .inr l → rowsP gs y = .inr (rs ++ l))) ⟨[], _, _, _, _, _, rfl, rfl, rfl, True.intro, eP, eR⟩ ?step ?fin
    case fin =>
      rintro δ cs ⟨rs, p4, p5, p6, p7, p8, rfl, hl, rfl, hok, _, h2⟩
      have el : (enumL (seqOf y)).length = (seqOf y).length := by simp [enumL]
      rw [el] at hl
      rw [el, List.drop_length] at h2
      refine kN _ _ ⟨rs, _, _, _, _, _, rfl, by omega, rfl, hok, ?_⟩
      have := h2 [] rfl
      rwa [List.append_nil] at this
    case step =>
    rintro i e δ cs N2 he ⟨rs, p4, p5, p6, p7, p8, rfl, hl, rfl, hok, h1, h2⟩ kN2
    obtain ⟨r, hr, rfl⟩ := DR.enum_at he
    have hrm := List.mem_of_getElem? hr
    have hil : i < (seqOf y).length := (List.getElem?_eq_some_iff.mp hr).1
    have tok := rowsOk_tb tab0_ok hok
    have low := lowM hg hok
    have tl : (tabM gs rs).length ≤ 11 := by
      have := congrArg List.length (keysM (gs := gs) (rs := rs))
      rw [List.length_map, List.length_append, List.length_map] at this
      have := hg.2.2.1
      omega
    rw [List.drop_eq_getElem_cons hil, show (seqOf y)[i] = r from (List.getElem?_eq_some_iff.mp hr).2] at h1 h2
    walk_at "dd"
    refine DR.seqC (DR.setC (DR.lendK ?_))
    walk_at "dd"
    refine ⟨a, _, rfl, List.mem_singleton_self _, ?_⟩
    refine ⟨gs, tabM gs rs, r, rfl, hy.all r hrm, hg, tok, low, Nat.le_trans tl (by decide), rfl, _, rfl, by cases rowW gs.length (tabM gs rs) r <;> rfl, ?_⟩
    dsimp only
    refine DR.seqC (DR.upC ?_)
    cases hw : rowW gs.length (tabM gs rs) r with
    | some v =>
      walk_at "dd"
      refine ⟨false, rfl, ⟨(fun h => nomatch h), (fun h => nomatch h)⟩, DR.nost_b, ?_⟩
      walk_at "dd"
      refine ⟨rfl, by show 2 ≤ 1000; decide, ?_⟩
      walk_at "dd"
      have := h1 (i, v) (by unfold rowsE; rw [hw])
      exact k4 (some i) v this _
    | none =>
      walk_at "dd"
      refine ⟨true, rfl, ⟨(fun _ => rfl), (fun _ => rfl)⟩, DR.nost_b, ?_⟩
      walk_at "dd"
      dsimp only
      have hr2 : isR 2 r = true := by
        cases z : isR 2 r with
        | true => rfl
        | false => unfold rowW at hw; rw [if_pos z] at hw; cases hw
      obtain ⟨b, x2, qs, er, hx2, eq2, hro⟩ := rowW_none hw hr2
      refine DR.seqC (DR.upC ?_)
      have go : ∀ {Q : DSt → Prop} {δ : DSt}, Q ((δ.set 7 (some (.d (.str (nmOf r))))).set 8 (some (.d x2))) → orG (tupG [7, 8]) (lstG [7, 8]) r δ Q := fun {Q δ} h => by
        rw [er]
        cases b
        · exact .inr ⟨_, rfl, h⟩
        · exact .inl ⟨_, rfl, h⟩
      walk_at "dd"
      refine go ?_
      dsimp only
      refine DR.seqC (DR.putC (DR.lendK ?_))
      walk_at "dd"
      have ct : Cont ((tabM gs rs).map (·.1)) (ctOf r) := hro.2.2.1
      refine ⟨a, _, rfl, List.mem_singleton_self _, ?_⟩
      refine ⟨gs, tabM gs rs, qs, x2, rfl, hx2, hg, fun p hp => (tok p hp).1, ?_, ?_, ?_, rfl, _, rfl, noK_pos, ?_⟩
      · intro z
        rw [z] at eq2
        exact ct.1 eq2.symm
      · have := congrArg List.length eq2
        rw [List.length_map] at this
        have := ct.2.1
        omega
      · intro q2 hq2
        have := ct.2.2.2 q2.2 (by rw [← eq2]; exact List.mem_map_of_mem hq2)
        exact ⟨this.1, this.2.2⟩
      walk_at "dd"
      refine ⟨0, a, _, .inr (nmOf r), rfl, rfl, rfl, by rw [List.length_map]; exact Nat.lt_of_le_of_lt tl (by decide), ?_⟩
      dsimp only
      refine DR.upC ?_
      walk_at "dd"
      refine seq_row rfl hx2 ?_
      refine DR.lc_mapM (l := qs) (r := entD) (fun q => ctD q.2) (fun q acc N hqm hl3 kN => ?_) ?_
      · walk_at "dd"
        refine tup_ent ?_
        exact ⟨Nat.lt_of_lt_of_le hl3 (Nat.le_trans (by have := congrArg List.length eq2; rw [List.length_map] at this; have := ct.2.1; omega) (show 4 ≤ sizeLine by decide)), kN⟩
      walk_at "dd"
      refine ⟨_, _, rfl, .inl rfl, ?_⟩
      walk_at "dd"
      refine ⟨[_], _, rfl, rfl, _, rfl, by rw [List.length_map]; exact Nat.lt_of_lt_of_le (show rs.length < 6 by omega) (by decide), ?_⟩
      have eE : rowsE gs.length (tabM gs rs) i (r :: (seqOf y).drop (i + 1)) = match rowsE gs.length (tabM gs (rs ++ [(nmOf r, ctOf r)])) (i + 1) ((seqOf y).drop (i + 1)) with
        | .inl z => .inl z
        | .inr l => .inr ((nmOf r, ctOf r) :: l) := by
        conv => lhs; unfold rowsE
        rw [hw]
        dsimp only
        rw [show tabM gs rs ++ [(nmOf r, sumV gs.length (tabM gs rs) (ctOf r))] = tabM gs (rs ++ [(nmOf r, ctOf r)]) from (tabOf_snoc (n := gs.length) (tb := tab0 gs gs.length) (rs := rs) (r := (nmOf r, ctOf r))).symm]
      refine kN2 _ _ ⟨rs ++ [(nmOf r, ctOf r)], some (.d (.int (i : Int))), some (.d r), some (.d .non), some (.d (.str (nmOf r))), some (.d x2), ?_, by rw [List.length_append, hl]; rfl, ?_, rowsOk_snoc hok hro, fun z hz => ?_, fun l hz => ?_⟩
      · show [(a, OC.dK (putKD (apK C gs (tabM gs rs)) (.inr (nmOf r)) (posD C gs (sumV gs.length (tabM gs rs) (qs.map (·.2))))))] = _
        rw [eq2, putKD_fresh, show tabM gs (rs ++ [(nmOf r, ctOf r)]) = tabM gs rs ++ [(nmOf r, sumV gs.length (tabM gs rs) (ctOf r))] from tabOf_snoc]
        · show _ = [(a, OC.dK (List.map _ (_ ++ _)))]
          rw [List.map_append]
          rfl
        · rw [List.map_map, show (Prod.fst ∘ fun p : Str × List Int => ((.inr p.1 : Key), posD C gs p.2)) = (fun z : Str => (.inr z : Key)) ∘ Prod.fst from rfl, ← List.map_map]
          intro h
          obtain ⟨z, hz, e⟩ := List.mem_map.mp h
          cases Sum.inr.inj e
          exact hro.2.1 hz
      · have e1 : qs.map (fun q => ctD q.2) = (ctOf r).map ctD := by rw [← eq2, List.map_map]; rfl
        rw [List.map_append, e1]
        rfl
      · refine h1 z ?_
        rw [eE, hz]
      · rw [h2 ((nmOf r, ctOf r) :: l) (by rw [eE, hz]), List.append_assoc]
        rfl
  rintro δ cs ⟨rs, p4, p5, p6, p7, p8, rfl, hl, rfl, hok, hP⟩
  refine DR.upC ?_
  walk_at "dd"
  refine ⟨_, _, rfl, .inl rfl, ?_⟩
  walk_at "dd"
  exact ⟨PC, _, _, rfl, .cons .refl (.cons (Fill.adr (List.mem_singleton_self _)) (.cons .refl .nil)), ⟨_, ⟨_, _, rfl, rfl, rfl⟩, (k3 rs hP hok hl)⟩⟩
end
end KT

set_option Elab.async false
set_option linter.all false
set_option maxRecDepth 100000
set_option maxHeartbeats 0
set_option pp.deepTerms false
set_option pp.deepTerms.threshold 8


namespace KT
open PySem PySem.Spec PyProof.Rows L2 DL
/-! ### the law's kinds of things -/
def isL (a b : Int) (x : D) : Bool := isS x && (decide (a ≤ ((seqOf x).length : Int)) && decide (((seqOf x).length : Int) ≤ b))
section
variable {P : Program} {w : World} {K : PySem.W.Frag} {mg : Str → Option Value} {base : Heap} {C OG BG BP BR PC NT : Addr}
abbrev s_law_is_name : Stmt := top 42
theorem sc_law_is_name : FnScope ["_law_thing", "_law_sign"] ["_law_thing"] (defScope s_law_is_name) := ⟨rfl, rfl, rfl, by decide +kernel, rfl, by decide +kernel, by decide +kernel⟩
theorem ok_lname {f : Addr} {fd : FuncData} (G : Fun K "_law_is_name" "_law_is_name" s_law_is_name f fd) (T : TxtN mg) : FnOk P w K mg base (L2.CX P w) 1 f fd ["_law_thing"] (spOf K sdNameX) := by
  refine okD G sc_law_is_name [] (fun as Q E ⟨xs, n, e, _⟩ => by subst e; exact ⟨rfl, rfl⟩) ⟨_, fun cdv A outer s H E ad F0 H0 hr => (pds_cons (psd_if (PW.pt (pwd_or (ptd_not (ptd_val (pd_builtB (fun h => pe_callB call_isi (by rfl) T.b_isinstance (by decide +kernel) h) (cn_isi (K := K)).op (pda_cons (pd_var (pv 0)) (pda_cons (pd_const (pe_bltn (v := .ty "str") (by rfl) T.b_str (by decide +kernel) rfl) (fun _ => .ty _)) pda_nil))) (fun h => pt_val h))) (pwd_or1 (ptd_not (ptd_chain op_le (op2_I0 fun _ _ _ => .bl _) op_le (op2_I0 fun _ _ _ => .bl _) (pd_const pe_int (fun _ => .int _)) (pd_builtB (fun h => pe_callB call_len_str (by rfl) T.b_len (by decide +kernel) h) cn_lenS.op (pda_cons (pd_var (pv 0)) pda_nil)) (pd_const pe_int (fun _ => .int _)) (by with_unfolding_all rfl)))))) (pds_one (psd_ret (pd_const pe_bl (fun _ => .bl _)))) pds_nil)
      (pds_one (psd_ret (pd_builtB (fun h => pe_callB (cr_all rfl) (by rfl) T.b_all (by decide +kernel) h) cn_all.op (pda_cons (pd_lc (own := [("_law_sign", 1)]) (by rfl) sc_law_is_name.nd (pid_str (pd_var (pv 0))) (blkOk_by (own := [("_law_sign", 1)]) (N := ["_law_thing", "_law_sign"]) (sc := defScope s_law_is_name) (by decide +kernel)) (fun _ _ _ _ _ => (pgd_name (i := 1) (vs := [1]) (pg_name (i := 1) sc_law_is_name.nd rfl (.inl rfl)) (by show ¬ (1 ∈ ([] : List Nat)); decide) (by decide))) (fun _ _ _ _ _ => ptsd_nil) (fun _ _ _ _ _ => (pd_cmp op_in_sign op2_inSign.op (pd_var (pv 1)) (pd_const pe_str (fun _ => .str (by decide +kernel))) rfl)) (by show ∀ i ∈ ([1] : List Nat), ¬ (i ∈ ([] : List Nat)); decide)) pda_nil))))), ?_⟩
  rintro as Qd Ed ⟨x, n, rfl, hx, hz, k⟩
  refine DR.start (δ' := [some (.d x), none]) rfl ?_
  walk_at "dd"
  cases hx with
  | str g =>
    have hz := hz g rfl
    refine ⟨_, _, _, _, true, rfl, .ty _, .str _, kit_self, ?_⟩
    walk_at "dd"
    refine ⟨Nat.le_trans hz (by decide), ?_⟩
    walk_at "dd"
    by_cases c1 : 1 ≤ g.length
    · rw [show decide (1 ≤ (g.length : Int)) = true from decide_eq_true (by omega)]
      walk_at "dd"
      by_cases c2 : g.length ≤ 12
      · rw [show decide ((g.length : Int) ≤ 12) = true from decide_eq_true (by omega)]
        walk_at "dd"
        refine DR.lc_mapM (fun c => D.bl (decide (c ∈ (Str.ofString "abcdefghijklmnopqrstuvwxyz").cps.toList))) (fun ch acc N hc hl kN => ?_) ?_
        · walk_at "dd"
          refine ⟨Nat.lt_of_lt_of_le hl (Nat.le_trans (show g.cps.toList.length ≤ 1000 by rw [Array.length_toList]; exact hz) (by decide)), ?_⟩
          rw [if_neg Bool.false_ne_true]
          exact kN
        · walk_at "dd"
          refine ⟨g.cps.toList.map fun c => decide (c ∈ (Str.ofString "abcdefghijklmnopqrstuvwxyz").cps.toList), .inl (by rw [List.map_map]; rfl), ?_⟩
          walk_at "dd"
          rw [show nmD (.str g) = low g by show nmB g = _; unfold nmB; rw [decide_eq_true c1, decide_eq_true c2]; rfl] at k
          dsimp only
          rw [List.all_map]
          exact k
      · rw [show decide ((g.length : Int) ≤ 12) = false from decide_eq_false (by omega)]
        walk_at "dd"
        rw [show nmD (.str g) = false by show nmB g = _; unfold nmB; rw [decide_eq_false c2, Bool.and_false]; rfl] at k
        exact k
    · rw [show decide (1 ≤ (g.length : Int)) = false from decide_eq_false (by omega)]
      walk_at "dd"
      rw [show nmD (.str g) = false by show nmB g = _; unfold nmB; rw [decide_eq_false c1]; rfl] at k
      exact k
  | non =>
    refine ⟨_, _, _, _, false, rfl, .ty _, .non, by rfl, ?_⟩
    walk_at "dd"
    exact k
  | bl b =>
    refine ⟨_, _, _, _, false, rfl, .ty _, .bl _, by rfl, ?_⟩
    walk_at "dd"
    exact k
  | int i =>
    refine ⟨_, _, _, _, false, rfl, .ty _, .int _, by rfl, ?_⟩
    walk_at "dd"
    exact k
  | lst l =>
    refine ⟨_, _, _, _, false, rfl, .ty _, .lst _, by rfl, ?_⟩
    walk_at "dd"
    exact k
  | tup l =>
    refine ⟨_, _, _, _, false, rfl, .ty _, .tup _, by rfl, ?_⟩
    walk_at "dd"
    exact k

def sdList : SpD := fun as Q _ => ∃ (x : D) (n : String) (a b : Int), as = [.d x, .d (.int a), .d (.int b)] ∧ Pl x n ∧ (seqOf x).length ≤ 100000 ∧ Q (.d (.bl (isL a b x))) []
abbrev s_law_is_list : Stmt := top 43
theorem sc_law_is_list : FnScope ["_law_thing", "_law_least", "_law_most"] ["_law_thing", "_law_least", "_law_most"] (defScope s_law_is_list) := ⟨rfl, rfl, rfl, by decide +kernel, rfl, by decide +kernel, by decide +kernel⟩
theorem ok_llist {f : Addr} {fd : FuncData} (G : Fun K "_law_is_list" "_law_is_list" s_law_is_list f fd) (T : TxtN mg) : FnOk P w K mg base (L2.CX P w) 1 f fd ["_law_thing", "_law_least", "_law_most"] (spOf K sdList) := by
  refine okD G sc_law_is_list [] (fun as Q E ⟨xs, n, a, b, e, _⟩ => by subst e; exact ⟨rfl, rfl⟩) ⟨_, fun cdv A outer s H E ad F0 H0 hr => (pds_one (psd_ret (pd_and (pd_builtB (fun h => pe_callB call_isiT (by rfl) T.b_isinstance (by decide +kernel) h) (cn_isiT (K := K)).op (pda_cons (pd_var (pv 0)) (pda_cons (pd_tup (fun h => pe_tup h) (pda_cons (pd_const (pe_bltn (v := .ty "list") (by rfl) T.b_list (by decide +kernel) rfl) (fun _ => .ty _)) (pda_cons (pd_const (pe_bltn (v := .ty "tuple") (by rfl) T.b_tuple (by decide +kernel) rfl) (fun _ => .ty _)) pda_nil))) pda_nil))) (pd_one (pd_chain op_le (op2_I0 fun _ _ _ => .bl _) op_le (op2_I0 fun _ _ _ => .bl _) (pd_var (pv 1)) (pd_builtB (fun h => pe_callB call_len_seq (by rfl) T.b_len (by decide +kernel) h) cn_len.op (pda_cons (pd_var (pv 0)) pda_nil)) (pd_var (pv 2)) (by with_unfolding_all rfl)))))), ?_⟩
  rintro as Qd Ed ⟨x, n, a, b, rfl, hx, hl, k⟩
  refine DR.start (δ' := [some (.d x), some (.d (.int a)), some (.d (.int b))]) rfl ?_
  walk_at "dd"
  have fin : ∀ l : List D, isS x = true → seqOf x = l → Qd (.d (.bl (decide (a ≤ (l.length : Int)) && decide ((l.length : Int) ≤ b)))) [] := fun l h1 h2 => by
    unfold isL at k; rw [h1, h2] at k; exact k
  have no : isS x = false → Qd (.d (.bl false)) [] := fun h => by unfold isL at k; rw [h] at k; exact k
  cases hx with
  | non => exact ⟨_, _, _, _, false, rfl, .cons (.ty _) (.cons (.ty _) .nil), .non, rfl, DR.nost_b, by walk_at "dd"; exact no rfl⟩
  | bl b => exact ⟨_, _, _, _, false, rfl, .cons (.ty _) (.cons (.ty _) .nil), .bl _, rfl, DR.nost_b, by walk_at "dd"; exact no rfl⟩
  | int i => exact ⟨_, _, _, _, false, rfl, .cons (.ty _) (.cons (.ty _) .nil), .int _, rfl, DR.nost_b, by walk_at "dd"; exact no rfl⟩
  | str s => exact ⟨_, _, _, _, false, rfl, .cons (.ty _) (.cons (.ty _) .nil), .str _, rfl, DR.nost_b, by walk_at "dd"; exact no rfl⟩
  | lst l =>
    refine ⟨_, _, _, _, true, rfl, .cons (.ty _) (.cons (.ty _) .nil), .lst _, rfl, DR.nost_b, ?_⟩
    have fin := fin l rfl rfl
    walk_at "dd"
    by_cases c1 : a ≤ (l.length : Int)
    · rw [decide_eq_true c1] at fin ⊢
      walk_at "dd"
      exact fin
    · rw [decide_eq_false c1] at fin ⊢
      walk_at "dd"
      exact fin
  | tup l =>
    refine ⟨_, _, _, _, true, rfl, .cons (.ty _) (.cons (.ty _) .nil), .tup _, rfl, DR.nost_b, ?_⟩
    have fin := fin l rfl rfl
    walk_at "dd"
    by_cases c1 : a ≤ (l.length : Int)
    · rw [decide_eq_true c1] at fin ⊢
      walk_at "dd"
      exact fin
    · rw [decide_eq_false c1] at fin ⊢
      walk_at "dd"
      exact fin
end
end KT

set_option Elab.async false
set_option linter.all false
set_option maxRecDepth 100000
set_option maxHeartbeats 0
set_option pp.deepTerms false
set_option pp.deepTerms.threshold 8


namespace KT
open PySem PySem.Spec PyProof.Rows L2 DL
/-! ### the law's word for a row -/
def sdLThings : SpD := fun as Q _ => ∃ (x : D) (es : List D) (tb : Tb), as = [.d x, .own (.dK (tbK tb))] ∧ RowOf x es ∧ (∀ e ∈ es, En e) ∧ es.length ≤ 1000 ∧ (∀ z ∈ tb.map (·.1), nmB z = true) ∧ Q (.d (.bl (thg (tb.map (·.1)) [] es).isSome)) [.dK (tbK tb)]
theorem valK_tbN {x : Str} {tb : Tb} (h : x ∉ tb.map (·.1)) : valK (tbK tb) (.inr x) = none := by
  rw [valK_tb, List.find?_eq_none.mpr]
  · rfl
  · intro p hp e
    exact h (by rw [← of_decide_eq_true e]; exact List.mem_map_of_mem hp)
theorem isL22 {x : D} : isL 2 2 x = isR 2 x := by
  unfold isL isR
  cases isS x with
  | false => rfl
  | true =>
    rw [Bool.true_and, Bool.true_and, ← Bool.decide_and]
    exact decide_eq_decide.mpr ⟨fun h => by omega, fun h => by omega⟩
theorem keyD_nn {ks : List Str} (hk : ∀ z ∈ ks, nmB z = true) {a : D} (h : nmD a = false) : keyD ks a = none := by
  cases a with
  | str y =>
    unfold keyD
    dsimp only
    rw [if_neg]
    intro hz
    rw [show nmD (.str y) = nmB y from rfl, hk y hz] at h
    cases h
  | _ => rfl
theorem nmD_str {a : D} (h : nmD a = true) : ∃ z, a = .str z := by
  cases a with
  | str y => exact ⟨y, rfl⟩
  | _ => cases h
section
variable {P : Program} {w : World} {K : PySem.W.Frag} {mg : Str → Option Value} {base : Heap} {C OG BG BP BR PC NT : Addr}
abbrev s_law_are_things : Stmt := top 44
theorem sc_law_are_things : FnScope ["_law_contents", "_law_table", "_law_seen", "_law_entry"] ["_law_contents", "_law_table"] (defScope s_law_are_things) := ⟨rfl, rfl, rfl, by decide +kernel, rfl, by decide +kernel, by decide +kernel⟩
theorem ok_lthings (D_law_is_list : DefD P w K mg base "_law_is_list" 1 ["_law_thing", "_law_least", "_law_most"] sdList) (D_law_is_name : DefD P w K mg base "_law_is_name" 1 ["_law_thing"] sdNameX) {f : Addr} {fd : FuncData} (G : Fun K "_law_are_things" "_law_are_things" s_law_are_things f fd) (T : TxtN mg) : FnOk P w K mg base (L2.CX P w) 3 f fd ["_law_contents", "_law_table"] (spOf K sdLThings) := by
  refine okD G sc_law_are_things [1] (fun as Q E ⟨xs, es, tb, e, _⟩ => by subst e; exact ⟨rfl, rfl⟩) ⟨_, fun cdv A outer s H E ad F0 H0 hr => (pds_cons (psd_setO (i := 2) (pd_lst (fun h => pe_lst h) pda_nil) (by show ¬ (2 ∈ ([1] : List Nat)); decide) sc_law_are_things.nd rfl (.inl rfl))
      (pds_cons (psd_for (passes_of rfl) rfl (pid_seq (pd_var (pv 0))) (pgd_name (i := 3) (vs := [3]) (pg_name (i := 3) sc_law_are_things.nd rfl (.inl rfl)) (by show ¬ (3 ∈ ([1] : List Nat)); decide) (by decide))
      (pds_cons (psd_if (PW.pt (pwd_or (ptd_not (ptd_val (pd_call D_law_is_list.ok (hr.mono (by decide)) (by rfl) D_law_is_list.mg D_law_is_list.kp D_law_is_list.b (takes_of rfl rfl rfl rfl) (pda_cons (pd_var (pv 3)) (pda_cons (pd_const pe_int (fun _ => .int _)) (pda_cons (pd_const pe_int (fun _ => .int _)) pda_nil)))) (fun h => pt_val h))) (pwd_or1 (ptd_not (ptd_val (pd_call D_law_is_name.ok (hr.mono (by decide)) (by rfl) D_law_is_name.mg D_law_is_name.kp D_law_is_name.b (takes_of rfl rfl rfl rfl) (pda_cons (pd_orE (pd_ix ix_list op2_ixL (pd_var (pv 3)) (pd_const pe_int (fun _ => .int _)) (fun _ _ => rfl)) (pd_ix ix_tup op2_ixT (pd_var (pv 3)) (pd_const pe_int (fun _ => .int _)) (fun _ _ => rfl))) pda_nil)) (fun h => pt_val h)))))) (pds_one (psd_ret (pd_const pe_bl (fun _ => .bl _)))) pds_nil)
      (pds_cons (psd_if (PW.pt (pwd_or (ptd_inKO_f (j := 1) (fun hi ho => pt_cmp (pc_dnotin (hu_of hr) hi ho)) (pd_orE (pd_ix ix_list op2_ixL (pd_var (pv 3)) (pd_const pe_int (fun _ => .int _)) (fun _ _ => rfl)) (pd_ix ix_tup op2_ixT (pd_var (pv 3)) (pd_const pe_int (fun _ => .int _)) (fun _ _ => rfl))) (pv 1)) (pwd_or1 (ptd_inLO_t (j := 2) (units65 hr) (pd_orE (pd_ix ix_list op2_ixL (pd_var (pv 3)) (pd_const pe_int (fun _ => .int _)) (fun _ _ => rfl)) (pd_ix ix_tup op2_ixT (pd_var (pv 3)) (pd_const pe_int (fun _ => .int _)) (fun _ _ => rfl))) (pv 2))))) (pds_one (psd_ret (pd_const pe_bl (fun _ => .bl _)))) pds_nil)
      (pds_one (psd_expr (pd_methO (j := 2) (fun ho h => pe_bm PySem.F.plainAttrs_list PySem.F.slot_list_append PySem.F.type_list_append mt_append ho h) mo_append (pv 2) (pda_cons (pd_orE (pd_ix ix_list op2_ixL (pd_var (pv 3)) (pd_const pe_int (fun _ => .int _)) (fun _ _ => rfl)) (pd_ix ix_tup op2_ixT (pd_var (pv 3)) (pd_const pe_int (fun _ => .int _)) (fun _ _ => rfl))) pda_nil)))))))
      (pds_one (psd_ret (pd_const pe_bl (fun _ => .bl _)))))), ?_⟩
  rintro as Qd Ed ⟨x, es, tb, rfl, hx, hes, hl, hk, k⟩
  refine DR.start (δ' := [some (.d x), some (.own (.dK (tbK tb))), none, none]) rfl ?_
  walk_at "dd"
  refine seq_row rfl hx ?_
  refine DR.for_inv (fun i δ => ∃ (zs : List Str) (p3 : Option DV), δ = [some (.d x), some (.own (.dK (tbK tb))), some (.own (.lst (zs.map .str))), p3] ∧ zs.length = i ∧ (thg (tb.map (·.1)) zs (es.drop i) = none ↔ thg (tb.map (·.1)) [] es = none)) ⟨[], _, rfl, rfl, Iff.rfl⟩ ?_ ?_
  · rintro i e δ N he ⟨zs, p3, rfl, hi, ih⟩ kN
    have hem : e ∈ es := List.mem_of_getElem? he
    have en := hes e hem
    obtain ⟨m, hm⟩ := en.pl
    have hil : i < es.length := (List.getElem?_eq_some_iff.mp he).1
    rw [List.drop_eq_getElem_cons hil, show es[i] = e from (List.getElem?_eq_some_iff.mp he).2] at ih
    have bad : thg (tb.map (·.1)) zs (e :: es.drop (i + 1)) = none → Qd (.d (.bl false)) [.dK (tbK tb)] := fun h => by
      rw [ih.mp h] at k
      exact k
    walk_at "dd"
    refine ⟨e, m, 2, 2, rfl, hm, Nat.le_trans en.len (by decide), ?_⟩
    rw [isL22]
    cases qr : isR 2 e with
    | false =>
      walk_at "dd"
      exact bad (by unfold thg; exact if_pos qr)
    | true =>
      obtain ⟨a, b, qe, hee⟩ := row2 qr
      have sa := en.all a (by rw [qe]; exact List.mem_cons_self)
      obtain ⟨ma, hma⟩ := sa.pl
      have et : ∀ c, thg (tb.map (·.1)) zs (e :: c) = match keyD (tb.map (·.1)) a with
        | some z => if z ∈ zs then none else (thg (tb.map (·.1)) (zs ++ [z]) c).map ((z, b) :: ·)
        | none => none := fun c => by
        conv => lhs; unfold thg
        rw [if_neg (by rw [qr]; exact Bool.noConfusion), qe]
        all_goals rfl
      walk_at "dd"
      refine alt_ix rfl hee ?_
      walk_at "dd"
      refine ⟨a, ma, rfl, hma, sa.few, ?_⟩
      cases qn : nmD a with
      | false =>
        walk_at "dd"
        exact bad (by rw [et, keyD_nn hk qn])
      | true =>
        obtain ⟨z, rfl⟩ := nmD_str qn
        walk_at "dd"
        refine alt_ix rfl hee ?_
        walk_at "dd"
        refine ⟨_, .inr z, rfl, rfl, ?_⟩
        by_cases hz : z ∈ tb.map (·.1)
        · rw [keyD_str hz] at et
          dsimp only at et
          rw [(val_tb hz).1]
          refine ⟨false, rfl, ?_⟩
          walk_at "dd"
          refine alt_ix rfl hee ?_
          refine ⟨_, rfl, sa.cmp, cmp_strL, ?_⟩
          rw [show ((pyL (zs.map D.str)).any fun y => PyData.eqv y (DV.d (D.str z)).toD.py) = decide (z ∈ zs) from any_str]
          by_cases hzs : z ∈ zs
          · rw [decide_eq_true hzs]
            refine ⟨true, rfl, ?_⟩
            walk_at "dd"
            exact bad (by rw [et, if_pos hzs])
          · rw [decide_eq_false hzs]
            refine ⟨false, rfl, ?_⟩
            walk_at "dd"
            refine alt_ix rfl hee ?_
            walk_at "dd"
            refine ⟨[_], _, rfl, rfl, _, rfl, by rw [List.length_map]; exact Nat.lt_of_lt_of_le (show zs.length < 1000 by omega) (by decide), ?_⟩
            rw [et, if_neg hzs, Option.map_eq_none_iff] at ih
            exact kN _ ⟨zs ++ [z], _, by rw [List.map_append]; rfl, by rw [List.length_append, hi]; rfl, ih⟩
        · rw [show keyD (tb.map (·.1)) (.str z) = none by unfold keyD; dsimp only; exact if_neg hz] at et
          rw [valK_tbN hz]
          refine ⟨true, rfl, ?_⟩
          walk_at "dd"
          exact bad (et _)
  · rintro δ ⟨zs, p3, rfl, hi, ih⟩
    rw [List.drop_length] at ih
    cases hg : thg (tb.map (·.1)) [] es with
    | none => exact absurd (ih.mpr hg) (fun z => nomatch z)
    | some ps =>
      rw [hg] at k
      walk_at "dd"
      exact k
end
end KT

set_option Elab.async false
set_option linter.all false
set_option maxRecDepth 100000
set_option maxHeartbeats 0
set_option pp.deepTerms false
set_option pp.deepTerms.threshold 8


namespace KT
open PySem PySem.Spec PyProof.Rows L2 DL
section
variable {P : Program} {w : World} {K : PySem.W.Frag} {mg : Str → Option Value} {base : Heap} {C OG BG BP BR PC NT : Addr}
theorem alt_ix1 {j : Nat} {e a b : D} {δ : DSt} {Q : DV → DSt → Prop} {E : XD} (h : δ[j]? = some (some (.d e))) (hee : e = .tup [a, b] ∨ e = .lst [a, b]) (k : Q (.d b) δ) : altD (opD ixD (varD j) (constD (.int 1))) (opD (fun a b Q => ∃ xs i d, a = D.tup xs ∧ b = D.int i ∧ atI xs i = some d ∧ Q (DV.d d)) (varD j) (constD (.int 1))) δ Q E := by
  rcases hee with rfl | rfl
  · exact .inr (DR.op (DR.var h (DR.const ⟨_, 1, b, rfl, rfl, rfl, k⟩)))
  · exact .inl (DR.op (DR.var h (DR.const ⟨1, rfl, _, b, .inl rfl, rfl, k⟩)))
theorem seq_alt1 {j : Nat} {e a b : D} {xs : List D} {δ : DSt} {Q : List D → DSt → Prop} {E : XD} (h : δ[j]? = some (some (.d e))) (hee : e = .tup [a, b] ∨ e = .lst [a, b]) (hx : RowOf b xs) (k : Q xs δ) : seqO (altD (opD ixD (varD j) (constD (.int 1))) (opD (fun a b Q => ∃ xs i d, a = D.tup xs ∧ b = D.int i ∧ atI xs i = some d ∧ Q (DV.d d)) (varD j) (constD (.int 1)))) δ Q E := by
  rcases hx with rfl | rfl
  · exact .inl (alt_ix1 h hee ⟨xs, .inl rfl, k⟩)
  · exact .inr (alt_ix1 h hee ⟨xs, rfl, k⟩)
def sdWord : SpD := fun as Q _ => ∃ (gs : List Str) (r : D) (tb : Tb), as = [.d (.lst (gs.map .str)), .d r, .own (.dK (tbK tb))] ∧ Rw r ∧ Goods gs ∧ TbOk gs.length tb ∧ (∀ z ∈ tb.map (·.1), nmB z = true) ∧ Q (.d (optD (rowW gs.length tb r))) [.dK (tbK tb)]
abbrev s_law_word : Stmt := top 45
theorem sc_law_word : FnScope ["_law_goods", "_law_row", "_law_table", "_law_entry", "_law_count"] ["_law_goods", "_law_row", "_law_table"] (defScope s_law_word) := ⟨rfl, rfl, rfl, by decide +kernel, rfl, by decide +kernel, by decide +kernel⟩
theorem ok_lword (D_law_is_list : DefD P w K mg base "_law_is_list" 1 ["_law_thing", "_law_least", "_law_most"] sdList) (D_law_is_name : DefD P w K mg base "_law_is_name" 1 ["_law_thing"] sdNameX) (D_law_are_things : DefD P w K mg base "_law_are_things" 3 ["_law_contents", "_law_table"] sdLThings) (D_law_sum : DefD P w K mg base "_law_sum" 1 ["_law_goods", "_law_contents", "_law_table"] sdSum) {f : Addr} {fd : FuncData} (G : Fun K "_law_word" "_law_word" s_law_word f fd) (T : TxtN mg) : FnOk P w K mg base (L2.CX P w) 5 f fd ["_law_goods", "_law_row", "_law_table"] (spOf K sdWord) := by
  refine okD G sc_law_word [2] (fun as Q E ⟨xs, r, tb, e, _⟩ => by subst e; exact ⟨rfl, rfl⟩) ⟨_, fun cdv A outer s H E ad F0 H0 hr => (pds_cons (psd_if (ptd_not (ptd_val (pd_call D_law_is_list.ok (hr.mono (by decide)) (by rfl) D_law_is_list.mg D_law_is_list.kp D_law_is_list.b (takes_of rfl rfl rfl rfl) (pda_cons (pd_var (pv 1)) (pda_cons (pd_const pe_int (fun _ => .int _)) (pda_cons (pd_const pe_int (fun _ => .int _)) pda_nil)))) (fun h => pt_val h))) (pds_one (psd_ret (pd_const pe_str (fun _ => .str (by decide +kernel))))) pds_nil)
      (pds_cons (psd_if (PW.pt (pwd_or (ptd_not (ptd_val (pd_call D_law_is_name.ok (hr.mono (by decide)) (by rfl) D_law_is_name.mg D_law_is_name.kp D_law_is_name.b (takes_of rfl rfl rfl rfl) (pda_cons (pd_orE (pd_ix ix_list op2_ixL (pd_var (pv 1)) (pd_const pe_int (fun _ => .int _)) (fun _ _ => rfl)) (pd_ix ix_tup op2_ixT (pd_var (pv 1)) (pd_const pe_int (fun _ => .int _)) (fun _ _ => rfl))) pda_nil)) (fun h => pt_val h))) (pwd_or1 (ptd_cmp (op_eqD hr.units) op2_eqD.op (pd_orE (pd_ix ix_list op2_ixL (pd_var (pv 1)) (pd_const pe_int (fun _ => .int _)) (fun _ _ => rfl)) (pd_ix ix_tup op2_ixT (pd_var (pv 1)) (pd_const pe_int (fun _ => .int _)) (fun _ _ => rfl))) (pd_const pe_str (fun _ => .str (by decide +kernel))) (nomark _))))) (pds_one (psd_ret (pd_const pe_str (fun _ => .str (by decide +kernel))))) pds_nil)
      (pds_cons (psd_if (ptd_inKO_t (j := 2) (fun hi ho => pt_cmp (pc_din (hu_of hr) hi ho)) (pd_orE (pd_ix ix_list op2_ixL (pd_var (pv 1)) (pd_const pe_int (fun _ => .int _)) (fun _ _ => rfl)) (pd_ix ix_tup op2_ixT (pd_var (pv 1)) (pd_const pe_int (fun _ => .int _)) (fun _ _ => rfl))) (pv 2)) (pds_one (psd_ret (pd_const pe_str (fun _ => .str (by decide +kernel))))) pds_nil)
      (pds_cons (psd_if (ptd_not (ptd_val (pd_call D_law_is_list.ok (hr.mono (by decide)) (by rfl) D_law_is_list.mg D_law_is_list.kp D_law_is_list.b (takes_of rfl rfl rfl rfl) (pda_cons (pd_orE (pd_ix ix_list op2_ixL (pd_var (pv 1)) (pd_const pe_int (fun _ => .int _)) (fun _ _ => rfl)) (pd_ix ix_tup op2_ixT (pd_var (pv 1)) (pd_const pe_int (fun _ => .int _)) (fun _ _ => rfl))) (pda_cons (pd_const pe_int (fun _ => .int _)) (pda_cons (pd_const pe_int (fun _ => .int _)) pda_nil)))) (fun h => pt_val h))) (pds_one (psd_ret (pd_const pe_str (fun _ => .str (by decide +kernel))))) pds_nil)
      (pds_cons (psd_if (ptd_not (ptd_val (pd_call D_law_are_things.ok (hr.mono (by decide)) (by rfl) D_law_are_things.mg D_law_are_things.kp D_law_are_things.b (takes_of rfl rfl rfl rfl) (pda_cons (pd_orE (pd_ix ix_list op2_ixL (pd_var (pv 1)) (pd_const pe_int (fun _ => .int _)) (fun _ _ => rfl)) (pd_ix ix_tup op2_ixT (pd_var (pv 1)) (pd_const pe_int (fun _ => .int _)) (fun _ _ => rfl))) (pda_own (i := 2) (pv 2) pda_nil))) (fun h => pt_val h))) (pds_one (psd_ret (pd_const pe_str (fun _ => .str (by decide +kernel))))) pds_nil)
      (pds_cons (psd_for (passes_of rfl) rfl (pid_seq (pd_orE (pd_ix ix_list op2_ixL (pd_var (pv 1)) (pd_const pe_int (fun _ => .int _)) (fun _ _ => rfl)) (pd_ix ix_tup op2_ixT (pd_var (pv 1)) (pd_const pe_int (fun _ => .int _)) (fun _ _ => rfl)))) (pgd_name (i := 3) (vs := [3]) (pg_name (i := 3) sc_law_word.nd rfl (.inl rfl)) (by show ¬ (3 ∈ ([2] : List Nat)); decide) (by decide))
      (pds_cons (psd_set (i := 4) (pd_orE (pd_ix ix_list op2_ixL (pd_var (pv 3)) (pd_const pe_int (fun _ => .int _)) (fun _ _ => rfl)) (pd_ix ix_tup op2_ixT (pd_var (pv 3)) (pd_const pe_int (fun _ => .int _)) (fun _ _ => rfl))) (by show ¬ (4 ∈ ([2] : List Nat)); decide) sc_law_word.nd rfl (.inl rfl))
      (pds_one (psd_if (PW.pt (pwd_or (ptd_not (ptd_val (pd_builtB (fun h => pe_callB call_isi (by rfl) T.b_isinstance (by decide +kernel) h) (cn_isi (K := K)).op (pda_cons (pd_var (pv 4)) (pda_cons (pd_const (pe_bltn (v := .ty "int") (by rfl) T.b_int (by decide +kernel) rfl) (fun _ => .ty _)) pda_nil))) (fun h => pt_val h))) (pwd_or (ptd_val (pd_builtB (fun h => pe_callB call_isi (by rfl) T.b_isinstance (by decide +kernel) h) (cn_isi (K := K)).op (pda_cons (pd_var (pv 4)) (pda_cons (pd_const (pe_bltn (v := .ty "bool") (by rfl) T.b_bool (by decide +kernel) rfl) (fun _ => .ty _)) pda_nil))) (fun h => pt_val h)) (pwd_or (ptd_cmp op_gt (op2_I0 fun _ _ _ => .bl _) (pd_builtB (fun h => pe_callB call_abs (by rfl) T.b_abs (by decide +kernel) h) cn_abs.op (pda_cons (pd_var (pv 4)) pda_nil)) (pd_const pe_int (fun _ => .int _)) (nomark _)) (pwd_or1 (ptd_cmp op_eq op2_eq.op (pd_var (pv 4)) (pd_const pe_int (fun _ => .int _)) (nomark _))))))) (pds_one (psd_ret (pd_const pe_str (fun _ => .str (by decide +kernel))))) pds_nil))))
      (pds_one (psd_ret (pd_ifExp (ptd_cmp (op_eqD hr.units) op2_eqD.op (pd_call D_law_sum.ok (hr.mono (by decide)) (by rfl) D_law_sum.mg D_law_sum.kp D_law_sum.b (takes_of rfl rfl rfl rfl) (pda_cons (pd_var (pv 0)) (pda_cons (pd_orE (pd_ix ix_list op2_ixL (pd_var (pv 1)) (pd_const pe_int (fun _ => .int _)) (fun _ _ => rfl)) (pd_ix ix_tup op2_ixT (pd_var (pv 1)) (pd_const pe_int (fun _ => .int _)) (fun _ _ => rfl))) (pda_own (i := 2) (pv 2) pda_nil)))) (pd_op op_rep op2_rep (pd_lst (fun h => pe_lst h) (pda_cons (pd_const pe_int (fun _ => .int _)) pda_nil)) (pd_builtB (fun h => pe_callB call_len_seq (by rfl) T.b_len (by decide +kernel) h) cn_len.op (pda_cons (pd_var (pv 0)) pda_nil))) (nomark _)) (pd_const pe_str (fun _ => .str (by decide +kernel))) (pd_const pe_non (fun _ => .non))))))))))), ?_⟩
  rintro as Qd Ed ⟨gs, r, tb, rfl, hr, hg, ht, hk, k⟩
  refine DR.start (δ' := [some (.d (.lst (gs.map .str))), some (.d r), some (.own (.dK (tbK tb))), none, none]) rfl ?_
  obtain ⟨n, hn⟩ := hr.pl
  walk_at "dd"
  refine ⟨r, n, 2, 2, rfl, hn, Nat.le_trans hr.len (by decide), ?_⟩
  rw [isL22]
  cases q : isR 2 r with
  | false =>
    walk_at "dd"
    rw [show rowW gs.length tb r = some "row" by unfold rowW; exact if_pos q] at k
    exact k
  | true =>
    obtain ⟨a, b, qe, hee⟩ := row2 q
    obtain ⟨⟨m, hm⟩, hz, hct⟩ := hr.nm a b qe
    have eW : rowW gs.length tb r = if thB a = false then (some "name" : Option Str) else if keyD (tb.map (·.1)) a ≠ none then (some "double" : Option Str) else contW gs.length tb b := by
      unfold rowW
      rw [if_neg (by rw [q]; exact Bool.noConfusion), qe]
    rw [eW] at k
    walk_at "dd"
    refine alt_ix rfl hee ?_
    walk_at "dd"
    refine ⟨a, m, rfl, hm, hz, ?_⟩
    cases qn : nmD a with
    | false =>
      rw [if_pos (by cases a <;> first | rfl | (rename_i y; show (nmB y && _) = false; rw [show nmB y = false from qn]; rfl))] at k
      walk_at "dd"
      exact k
    | true =>
      obtain ⟨z, rfl⟩ := nmD_str qn
      walk_at "dd"
      refine alt_ix rfl hee ?_
      walk_at "dd"
      refine ⟨dp_str.cmp, dp_str.cmp, ?_⟩
      have ee : PyData.eqv (DV.d (D.str z)).toD.py (DV.d (D.str (Str.ofString "cash"))).toD.py = decide (z = cash) := by
        exact eqv_strs z cash
      rw [if_neg Bool.false_ne_true, ee]
      refine ⟨DR.nost_b, _, rfl, ?_⟩
      by_cases hc : z = cash
      · rw [decide_eq_true hc]
        walk_at "dd"
        rw [if_pos (by show (nmB z && !decide (z = cash)) = false; rw [decide_eq_true hc]; exact Bool.and_false _)] at k
        exact k
      · rw [decide_eq_false hc]
        rw [if_neg (by show ¬ (nmB z && !decide (z = cash)) = false; rw [show nmB z = true from qn, decide_eq_false hc]; exact Bool.noConfusion)] at k
        walk_at "dd"
        refine alt_ix rfl hee ?_
        walk_at "dd"
        refine ⟨_, .inr z, rfl, rfl, ?_⟩
        by_cases hk2 : z ∈ tb.map (·.1)
        · rw [keyD_str hk2, if_pos (by exact Option.some_ne_none _)] at k
          rw [(val_tb hk2).1]
          refine ⟨true, rfl, ?_⟩
          walk_at "dd"
          exact k
        · rw [if_neg (by
            have : keyD (tb.map (·.1)) (.str z) = none := by unfold keyD; dsimp only; exact if_neg hk2
            rw [this]; exact fun h => h rfl)] at k
          rw [valK_tbN hk2]
          refine ⟨false, rfl, ?_⟩
          walk_at "dd"
          refine alt_ix1 rfl hee ?_
          walk_at "dd"
          obtain ⟨nb, hnb⟩ := hct.pl
          refine ⟨b, nb, 1, 4, rfl, hnb, Nat.le_trans hct.len (by decide), ?_⟩
          have eL : isL 1 4 b = false ↔ (isS b = false ∨ (seqOf b).length < 1 ∨ 4 < (seqOf b).length) := by
            unfold isL
            cases isS b with
            | false => exact ⟨fun _ => .inl rfl, fun _ => rfl⟩
            | true =>
              rw [Bool.true_and, Bool.and_eq_false_iff, decide_eq_false_iff_not, decide_eq_false_iff_not]
              exact ⟨fun h => .inr (by omega), fun h => by rcases h with h | h; cases h; omega⟩
          have eC : contW gs.length tb b = if isL 1 4 b = false then (some "contents" : Option Str) else
            match thg (tb.map (·.1)) [] (seqOf b) with
            | none => (some "thing" : Option Str)
            | some ps => if (ps.all fun p => cntB p.2) = false then (some "count" : Option Str) else if sumV gs.length tb (ps.map fun p => (p.1, intOf p.2)) = zeroV gs.length then (some "flat" : Option Str) else none := by
            unfold contW
            by_cases h : isL 1 4 b = false
            · rw [if_pos h, if_pos (eL.mp h)]
            · rw [if_neg h, if_neg fun z => h (eL.mpr z)]
              all_goals rfl
          rw [eC] at k
          cases ql : isL 1 4 b with
          | false =>
            rw [if_pos ql] at k
            walk_at "dd"
            exact k
          | true =>
            rw [if_neg (by rw [ql]; exact Bool.noConfusion)] at k
            have nL : ¬ (isS b = false ∨ (seqOf b).length < 1 ∨ 4 < (seqOf b).length) := fun h => by rw [eL.mpr h] at ql; cases ql
            have hS : isS b = true := by
              cases h : isS b with
              | true => rfl
              | false => exact absurd (.inl h) nL
            have hro : RowOf b (seqOf b) := by cases hnb <;> first | exact .inl rfl | exact .inr rfl | cases hS
            walk_at "dd"
            refine alt_ix1 rfl hee ?_
            walk_at "dd"
            refine ⟨b, _, tb, rfl, hro, hct.all, hct.len, hk, ?_⟩
            cases ht2 : thg (tb.map (·.1)) [] (seqOf b) with
            | none =>
              rw [ht2] at k
              dsimp only at k
              rw [show Option.isSome (none : Option (List (Str × D))) = false from rfl]
              walk_at "dd"
              exact k
            | some ps =>
              rw [ht2] at k
              dsimp only at k
              rw [show Option.isSome (some ps) = true from rfl]
              obtain ⟨⟨qs, e1, e2⟩, hkk, nd⟩ := thg_some ht2
              subst e2
              have hql : qs.length ≤ 4 := by
                have : ¬ 4 < (seqOf b).length := fun h => nL (.inr (.inr h))
                rw [e1, List.length_map] at this
                omega
              have q0 : qs ≠ [] := fun z => nL (.inr (.inl (by rw [e1, z]; decide)))
              have hsm : ∀ q ∈ qs, Sm q.2.2 := fun q hq => by
                have := (hct.all (enD q) (by rw [e1]; exact List.mem_map_of_mem hq)).all q.2.2
                obtain ⟨b, c⟩ := q
                cases b <;> exact this (List.mem_cons_of_mem _ List.mem_cons_self)
              walk_at "dd"
              refine seq_alt1 rfl hee hro ?_
              rw [e1]
              refine DR.for_inv (fun i δ => (∀ q ∈ qs.take i, cntB q.2.2 = true) ∧ ∃ p3 p4, δ = [some (.d (.lst (gs.map .str))), some (.d r), some (.own (.dK (tbK tb))), p3, p4]) ⟨(fun q h => by rw [List.take_zero] at h; exact nomatch h), _, _, rfl⟩ ?_ ?_
              · rintro i e δ N he ⟨hi, p3, p4, rfl⟩ kN
                obtain ⟨q, hq, rfl⟩ := DR.map_at he
                have hqm := List.mem_of_getElem? hq
                have sq := hsm q hqm
                obtain ⟨m2, hm2⟩ := sq.pl
                have hee2 : enD q = .tup [.str q.2.1, q.2.2] ∨ enD q = .lst [.str q.2.1, q.2.2] := by
                  obtain ⟨b, c⟩ := q
                  cases b
                  · exact .inr rfl
                  · exact .inl rfl
                have bad : cntB q.2.2 = false → Qd (.d (.str "count")) [.dK (tbK tb)] := fun h => by
                  rw [if_pos] at k
                  · exact k
                  · refine Bool.eq_false_iff.mpr fun z => ?_
                    rw [List.all_eq_true.mp z q.2 (List.mem_map_of_mem hqm)] at h
                    cases h
                walk_at "dd"
                refine alt_ix1 rfl hee2 ?_
                walk_at "dd"
                have nx : cntB q.2.2 = true → (∀ r ∈ qs.take (i + 1), cntB r.2.2 = true) := fun h r hr => by
                  rw [List.take_succ, hq] at hr
                  rcases List.mem_append.mp hr with hr | hr
                  · exact hi r hr
                  · cases List.mem_singleton.mp hr
                    exact h
                obtain ⟨bq, zq, d⟩ := q
                dsimp only at hm2 bad nx
                cases hm2 with
                | non =>
                  refine ⟨_, _, _, _, false, rfl, .ty _, .non, by rfl, DR.nost_b, ?_⟩
                  walk_at "dd"
                  exact bad rfl
                | str _ =>
                  refine ⟨_, _, _, _, false, rfl, .ty _, .str _, by rfl, DR.nost_b, ?_⟩
                  walk_at "dd"
                  exact bad rfl
                | lst _ =>
                  refine ⟨_, _, _, _, false, rfl, .ty _, .lst _, by rfl, DR.nost_b, ?_⟩
                  walk_at "dd"
                  exact bad rfl
                | tup _ =>
                  refine ⟨_, _, _, _, false, rfl, .ty _, .tup _, by rfl, DR.nost_b, ?_⟩
                  walk_at "dd"
                  exact bad rfl
                | bl _ =>
                  refine ⟨_, _, _, _, true, rfl, .ty _, .bl _, by rfl, DR.nost_b, ?_⟩
                  walk_at "dd"
                  refine ⟨_, _, _, _, true, rfl, .ty _, .bl _, kit_self, DR.nost_b, ?_⟩
                  walk_at "dd"
                  exact bad rfl
                | int c =>
                  refine ⟨_, _, _, _, true, rfl, .ty _, .int _, kit_self, DR.nost_b, ?_⟩
                  walk_at "dd"
                  refine ⟨_, _, _, _, false, rfl, .ty _, .int _, by rfl, DR.nost_b, ?_⟩
                  walk_at "dd"
                  refine DR.split (fun c1 => ?_) (fun c1 => ?_)
                  · walk_at "dd"
                    refine bad ?_
                    show (decide (-1000 ≤ c) && decide (c ≤ 1000) && !decide (c = 0)) = false
                    have : ¬ (-1000 ≤ c ∧ c ≤ 1000) := fun h => by split at c1 <;> omega
                    rw [← Bool.decide_and, decide_eq_false this]
                    rfl
                  · walk_at "dd"
                    have c2 : -1000 ≤ c ∧ c ≤ 1000 := by split at c1 <;> omega
                    refine DR.split (fun c3 => ?_) (fun c3 => ?_)
                    · walk_at "dd"
                      refine bad ?_
                      show (decide (-1000 ≤ c) && decide (c ≤ 1000) && !decide (c = 0)) = false
                      rw [decide_eq_true c3]
                      exact Bool.and_false _
                    · walk_at "dd"
                      refine kN _ ⟨nx ?_, _, _, rfl⟩
                      show (decide (-1000 ≤ c) && decide (c ≤ 1000) && !decide (c = 0)) = true
                      rw [decide_eq_true c2.1, decide_eq_true c2.2, decide_eq_false c3]
                      rfl
              · rintro δ ⟨hi, p3, p4, rfl⟩
                rw [List.length_map, List.take_length] at hi
                walk_at "dd"
                refine alt_ix1 rfl hee ?_
                walk_at "dd"
                let rs : List (Bool × (Str × Int)) := qs.map fun q => (q.1, (q.2.1, intOf q.2.2))
                have er : qs.map enD = rs.map entD := by
                  rw [List.map_map]
                  refine List.map_congr_left fun q hq => ?_
                  obtain ⟨i, e, _⟩ := cntB_int (hi q hq)
                  show enD q = entD (q.1, (q.2.1, intOf q.2.2))
                  unfold enD entD
                  rw [e]
                  rfl
                have e3 : rs.map (·.2) = (qs.map (·.2)).map fun p => (p.1, intOf p.2) := by rw [List.map_map, List.map_map]; rfl
                rw [if_neg (by
                  rw [show ((qs.map (·.2)).all fun p => cntB p.2) = true from List.all_eq_true.mpr fun p hp => by obtain ⟨q, hq, rfl⟩ := List.mem_map.mp hp; exact hi q hq]
                  exact Bool.noConfusion), ← e3] at k
                refine ⟨gs, rs, tb, b, rfl, by rw [← er, ← e1]; exact hro, hg.2.2.1, by rw [List.length_map]; omega, fun r hr => ?_, fun p hp => (ht p hp).1, ?_⟩
                · obtain ⟨q, hq, rfl⟩ := List.mem_map.mp hr
                  obtain ⟨i, e, _, g1, g2⟩ := cntB_int (hi q hq)
                  refine ⟨(hkk q.2 (List.mem_map_of_mem hq)).1, ?_⟩
                  show -1000 ≤ intOf q.2.2 ∧ intOf q.2.2 ≤ 1000
                  rw [e]
                  exact ⟨g1, g2⟩
                walk_at "dd"
                have ht5 := hg.2.2.1
                have hz : (List.replicate ((gs.map D.str).length : Int).toNat [(DV.d (D.int 0)).toD]).flatten = (zeroV gs.length).map .int := by
                  rw [List.length_map, Int.toNat_natCast]
                  unfold zeroV
                  simp [DV.toD]
                refine ⟨by rw [List.length_map]; omega, by rw [List.length_map]; omega, by rw [List.length_map]; exact Nat.le_trans (show 1 * ((gs.length : Int)).toNat ≤ 5 by omega) (by decide), ?_⟩
                show eqP false (D.lst ((sumV gs.length tb (rs.map (·.2))).map .int)) (D.lst (List.replicate ((gs.map D.str).length : Int).toNat [(DV.d (D.int 0)).toD]).flatten) _
                rw [hz]
                refine ⟨(dp_lst (dp_map fun _ _ => dp_int)).cmp, (dp_lst (dp_map fun _ _ => dp_int)).cmp, ?_⟩
                rw [if_neg Bool.false_ne_true, show PyData.eqv (D.lst ((sumV gs.length tb (rs.map (·.2))).map .int)).py (D.lst ((zeroV gs.length).map .int)).py = decide (sumV gs.length tb (rs.map (·.2)) = zeroV gs.length) from eqv_lsts eqv_ints]
                by_cases hz2 : sumV gs.length tb (rs.map (·.2)) = zeroV gs.length
                · rw [if_pos hz2] at k
                  rw [decide_eq_true hz2]
                  walk_at "dd"
                  exact k
                · rw [if_neg hz2] at k
                  rw [decide_eq_false hz2]
                  walk_at "dd"
                  exact k
end
end KT

set_option Elab.async false
set_option linter.all false
set_option maxRecDepth 100000
set_option maxHeartbeats 0
set_option pp.deepTerms false
set_option pp.deepTerms.threshold 8


namespace KT
open PySem PySem.Spec PyProof.Rows L2 DL
/-! ### what is due -/
def dueD : ((Option Nat × Str) ⊕ List Row) → D
  | .inl z => .tup [ixDn z.1, .str z.2]
  | .inr _ => .non
structure Rwp (y : D) : Prop where
  pl : ∃ n, Pl y n
  len : (seqOf y).length ≤ 1000
  all : ∀ r ∈ seqOf y, Rw r
theorem Rwp.rws {y : D} (h : Rwp y) : Rws y := ⟨.inl h.pl, h.len, h.all⟩
theorem rowsOk_nm {n : Nat} : ∀ {rs : List Row} {tb : Tb}, RowsOk n tb rs → ∀ r ∈ rs, Nm r.1
  | r :: rs, tb, h, r', hr => by
    rcases List.mem_cons.mp hr with rfl | hr
    · exact h.1.1
    · exact rowsOk_nm h.2 r' hr
theorem nmM {gs : List Str} {rs : List Row} (hg : Goods gs) (hr : RowsOk gs.length (tab0 gs gs.length) rs) : ∀ z ∈ (tabM gs rs).map (·.1), nmB z = true := fun z hz => by
  rw [keysM] at hz
  rcases List.mem_append.mp hz with h | h
  · exact nm_nmB (hg.2.2.2 z h)
  · obtain ⟨r, h2, rfl⟩ := List.mem_map.mp h
    exact nm_nmB (rowsOk_nm hr r h2)
theorem enum_two {j : Nat} {y : D} {xs : List D} {δ : DSt} {Q : List D → DSt → Prop} {E : XD} (h : δ[j]? = some (some (.d y))) (hy : RowOf y xs) (k : Q (enumL xs) δ) : orI (enumI (consD (varD j) nilD)) (enumTI (consD (varD j) nilD)) δ Q E := by
  rcases hy with rfl | rfl
  · exact .inl (DR.enumi (DR.cons (DR.var h (DR.nil ⟨_, _, rfl, .inl rfl, k⟩))))
  · exact .inr (DR.cons (DR.var h (DR.nil ⟨_, rfl, k⟩)))
section
variable {P : Program} {w : World} {K : PySem.W.Frag} {mg : Str → Option Value} {base : Heap} {C OG BG BP BR PC NT : Addr}
def sdDue : SpD := fun as Q _ => ∃ (gs : List Str) (y : D), as = [.d (.lst (gs.map .str)), .d y] ∧ Goods gs ∧ Rwp y ∧ Q (.d (dueD (rowsP gs y))) []
abbrev s_law_due : Stmt := top 46
theorem sc_law_due : FnScope ["_law_goods", "_law_rows", "_law_table", "_law_k", "_law_good", "_law_index", "_law_row", "_law_word_here", "_law_j"] ["_law_goods", "_law_rows"] (defScope s_law_due) := ⟨rfl, rfl, rfl, by decide +kernel, rfl, by decide +kernel, by decide +kernel⟩
theorem ok_ldue (D_law_sum : DefD P w K mg base "_law_sum" 1 ["_law_goods", "_law_contents", "_law_table"] sdSum) (D_law_word : DefD P w K mg base "_law_word" 5 ["_law_goods", "_law_row", "_law_table"] sdWord) {f : Addr} {fd : FuncData} (G : Fun K "_law_due" "_law_due" s_law_due f fd) (T : TxtN mg) : FnOk P w K mg base (L2.CX P w) 7 f fd ["_law_goods", "_law_rows"] (spOf K sdDue) := by
  refine okD G sc_law_due [] (fun as Q E ⟨xs, r, e, _⟩ => by subst e; exact ⟨rfl, rfl⟩) ⟨_, fun cdv A outer s H E ad F0 H0 hr => (pds_cons (psd_if (PW.pt (pwd_or (ptd_not (ptd_val (pd_builtB (fun h => pe_callB call_isiT (by rfl) T.b_isinstance (by decide +kernel) h) (cn_isiT (K := K)).op (pda_cons (pd_var (pv 1)) (pda_cons (pd_tup (fun h => pe_tup h) (pda_cons (pd_const (pe_bltn (v := .ty "list") (by rfl) T.b_list (by decide +kernel) rfl) (fun _ => .ty _)) (pda_cons (pd_const (pe_bltn (v := .ty "tuple") (by rfl) T.b_tuple (by decide +kernel) rfl) (fun _ => .ty _)) pda_nil))) pda_nil))) (fun h => pt_val h))) (pwd_or1 (ptd_cmp op_gt (op2_I0 fun _ _ _ => .bl _) (pd_builtB (fun h => pe_callB call_len_seq (by rfl) T.b_len (by decide +kernel) h) cn_len.op (pda_cons (pd_var (pv 1)) pda_nil)) (pd_const pe_int (fun _ => .int _)) (nomark _))))) (pds_one (psd_ret (pd_tup (fun h => pe_tup h) (pda_cons (pd_const pe_non (fun _ => .non)) (pda_cons (pd_const pe_str (fun _ => .str (by decide +kernel))) pda_nil))))) pds_nil)
      (pds_cons (psd_setO (i := 2) (pd_newDK pe_dnewK) (by show ¬ (2 ∈ ([] : List Nat)); decide) sc_law_due.nd rfl (.inl rfl))
      (pds_cons (psd_for (passes_of rfl) rfl (pid_enum (by rfl) T.b_enumerate (pda_cons (pd_var (pv 0)) pda_nil)) (pgd_tup (is := [3, 4]) (vs := [3, 4]) (pg_tup rfl (pgs_cons (pg_name (i := 3) sc_law_due.nd rfl (.inr rfl)) (pgs_cons (pg_name (i := 4) sc_law_due.nd rfl (.inl rfl)) pgs_nil))) rfl (by show ∀ i ∈ ([3, 4] : List Nat), ¬ (i ∈ ([] : List Nat)) ∧ i ∈ ([3, 4] : List Nat); decide))
      (pds_one (psd_putK (j := 2) (hu_of hr) (fun ho hi hv => ps_dput (hu_of hr) ho hi hv (by rfl)) (pv 2) (pd_lc (own := [("_law_j", 8)]) (by rfl) sc_law_due.nd (pid_range1 (by rfl) T.b_range (pda_cons (pd_builtB (fun h => pe_callB call_len_seq (by rfl) T.b_len (by decide +kernel) h) cn_len.op (pda_cons (pd_var (pv 0)) pda_nil)) pda_nil)) (blkOk_by (own := [("_law_j", 8)]) (N := ["_law_goods", "_law_rows", "_law_table", "_law_k", "_law_good", "_law_index", "_law_row", "_law_word_here", "_law_j"]) (sc := defScope s_law_due) (by decide +kernel)) (fun _ _ _ _ _ => (pgd_name (i := 8) (vs := [8]) (pg_name (i := 8) sc_law_due.nd rfl (.inl rfl)) (by show ¬ (8 ∈ ([] : List Nat)); decide) (by decide))) (fun _ _ _ _ _ => ptsd_nil) (fun _ _ _ _ _ => (pd_builtB (fun h => pe_callTy call_int1 (by rfl) T.b_int (by decide +kernel) h) cn_intB.op (pda_cons (pd_cmp op_eq op2_eq.op (pd_var (pv 3)) (pd_var (pv 8)) (nomark _)) pda_nil))) (by show ∀ i ∈ ([8] : List Nat), ¬ (i ∈ ([] : List Nat)); decide)) (pd_var (pv 4)))))
      (pds_cons (psd_for (passes_of rfl) rfl (PI.or (pid_enum (by rfl) T.b_enumerate (pda_cons (pd_var (pv 1)) pda_nil)) (pid_enumT (by rfl) T.b_enumerate (pda_cons (pd_var (pv 1)) pda_nil))) (pgd_tup (is := [5, 6]) (vs := [5, 6]) (pg_tup rfl (pgs_cons (pg_name (i := 5) sc_law_due.nd rfl (.inl rfl)) (pgs_cons (pg_name (i := 6) sc_law_due.nd rfl (.inl rfl)) pgs_nil))) rfl (by show ∀ i ∈ ([5, 6] : List Nat), ¬ (i ∈ ([] : List Nat)) ∧ i ∈ ([5, 6] : List Nat); decide))
      (pds_cons (psd_set (i := 7) (pd_call D_law_word.ok (hr.mono (by decide)) (by rfl) D_law_word.mg D_law_word.kp D_law_word.b (takes_of rfl rfl rfl rfl) (pda_cons (pd_var (pv 0)) (pda_cons (pd_var (pv 6)) (pda_own (i := 2) (pv 2) pda_nil)))) (by show ¬ (7 ∈ ([] : List Nat)); decide) sc_law_due.nd rfl (.inl rfl))
      (pds_cons (psd_if (ptd_cmp op_notN op2_notN.op (pd_var (pv 7)) (pd_const pe_non (fun _ => .non)) (nomark _)) (pds_one (psd_ret (pd_tup (fun h => pe_tup h) (pda_cons (pd_var (pv 5)) (pda_cons (pd_var (pv 7)) pda_nil))))) pds_nil)
      (pds_one (psd_putK (j := 2) (hu_of hr) (fun ho hi hv => ps_dput (hu_of hr) ho hi hv (by rfl)) (pv 2) (pd_call D_law_sum.ok (hr.mono (by decide)) (by rfl) D_law_sum.mg D_law_sum.kp D_law_sum.b (takes_of rfl rfl rfl rfl) (pda_cons (pd_var (pv 0)) (pda_cons (pd_orE (pd_ix ix_list op2_ixL (pd_var (pv 6)) (pd_const pe_int (fun _ => .int _)) (fun _ _ => rfl)) (pd_ix ix_tup op2_ixT (pd_var (pv 6)) (pd_const pe_int (fun _ => .int _)) (fun _ _ => rfl))) (pda_own (i := 2) (pv 2) pda_nil)))) (pd_orE (pd_ix ix_list op2_ixL (pd_var (pv 6)) (pd_const pe_int (fun _ => .int _)) (fun _ _ => rfl)) (pd_ix ix_tup op2_ixT (pd_var (pv 6)) (pd_const pe_int (fun _ => .int _)) (fun _ _ => rfl))))))))
      (pds_one (psd_ret (pd_const pe_non (fun _ => .non)))))))), ?_⟩
  rintro as Qd Ed ⟨gs, y, rfl, hg, hy, k⟩
  refine DR.start (δ' := [some (.d (.lst (gs.map .str))), some (.d y), none, none, none, none, none, none, none]) rfl ?_
  have eY : isY y = isS y := by obtain ⟨n, hn⟩ := hy.pl; cases hn <;> rfl
  have eB : (isS y = false ∨ 6 < (seqOf y).length) → Qd (.d (.tup [.non, .str "rows"])) [] := fun h => by
    rw [show rowsP gs y = .inl (none, "rows") by unfold rowsP; exact if_pos (by rw [eY]; exact h)] at k
    exact k
  with_reducible refine DR.cut (fun δ => δ = [some (.d (.lst (gs.map .str))), some (.d y), none, none, none, none, none, none, none] ∧ isS y = true ∧ (seqOf y).length ≤ 6) (fun N kN => ?_) ?_
  · walk_at "dd"
    obtain ⟨n, hn⟩ := hy.pl
    cases hn with
    | non => exact ⟨_, _, _, _, false, rfl, .cons (.ty _) (.cons (.ty _) .nil), .non, rfl, DR.nost_b, by walk_at "dd"; exact eB (.inl rfl)⟩
    | bl b => exact ⟨_, _, _, _, false, rfl, .cons (.ty _) (.cons (.ty _) .nil), .bl _, rfl, DR.nost_b, by walk_at "dd"; exact eB (.inl rfl)⟩
    | int i => exact ⟨_, _, _, _, false, rfl, .cons (.ty _) (.cons (.ty _) .nil), .int _, rfl, DR.nost_b, by walk_at "dd"; exact eB (.inl rfl)⟩
    | str z => exact ⟨_, _, _, _, false, rfl, .cons (.ty _) (.cons (.ty _) .nil), .str _, rfl, DR.nost_b, by walk_at "dd"; exact eB (.inl rfl)⟩
    | lst l =>
      refine ⟨_, _, _, _, true, rfl, .cons (.ty _) (.cons (.ty _) .nil), .lst _, rfl, DR.nost_b, ?_⟩
      walk_at "dd"
      refine DR.split (fun c => ?_) (fun c => ?_)
      · walk_at "dd"
        exact eB (.inr (show 6 < l.length by omega))
      · walk_at "dd"
        exact kN _ ⟨rfl, rfl, show l.length ≤ 6 by omega⟩
    | tup l =>
      refine ⟨_, _, _, _, true, rfl, .cons (.ty _) (.cons (.ty _) .nil), .tup _, rfl, DR.nost_b, ?_⟩
      walk_at "dd"
      refine DR.split (fun c => ?_) (fun c => ?_)
      · walk_at "dd"
        exact eB (.inr (show 6 < l.length by omega))
      · walk_at "dd"
        exact kN _ ⟨rfl, rfl, show l.length ≤ 6 by omega⟩
  rintro δ ⟨rfl, hS, hl6⟩
  have hro : RowOf y (seqOf y) := by
    obtain ⟨n, hn⟩ := hy.pl
    cases hn <;> first | exact .inl rfl | exact .inr rfl | cases hS
  with_reducible refine DR.cut (fun δ => δ = [some (.d (.lst (gs.map .str))), some (.d y), some (.own (.dK [])), none, none, none, none, none, none]) (fun N kN => ?_) ?_
  · walk_at "dd"
    exact kN _ rfl
  rintro δ rfl
  with_reducible refine DR.cut (fun δ => ∃ p3 p4 : Option DV, δ = [some (.d (.lst (gs.map .str))), some (.d y), some (.own (.dK (tbK (tab0 gs gs.length)))), p3, p4, none, none, none, none]) (fun N kN => ?_) ?_
  · walk_at "dd"
    refine ⟨_, _, rfl, .inl rfl, ?_⟩
    refine DR.for_inv (fun i δ => ∃ p6 p7 : Option DV, δ = [some (.d (.lst (gs.map .str))), some (.d y), some (.own (.dK (tbK (tab0 gs i)))), p6, p7, none, none, none, none]) ⟨_, _, rfl⟩ ?_ ?_
    · rintro i x δ N2 hx ⟨p6, p7, rfl⟩ kN2
      obtain ⟨d, hd, rfl⟩ := DR.enum_at hx
      obtain ⟨hi, rfl⟩ : ∃ h : i < gs.length, d = .str gs[i] := by
        rw [List.getElem?_map] at hd
        rcases Nat.lt_or_ge i gs.length with h | h
        · rw [List.getElem?_eq_getElem h] at hd; cases hd; exact ⟨h, rfl⟩
        · rw [List.getElem?_eq_none h] at hd; cases hd
      have hg5 := hg.2.2.1
      walk_at "dd"
      refine ⟨by rw [List.length_map]; omega, by rw [List.length_map]; omega, ?_⟩
      refine DR.lc_inv (fun j acc δ => acc = (((List.range j).map fun q => if i = q then (1 : Int) else 0).map .int) ∧ δ = [some (.d (.lst (gs.map .str))), some (.d y), some (.own (.dK (tbK (tab0 gs i)))), some (.d (.int i)), some (.d (.str gs[i])), none, none, none, none]) ⟨rfl, rfl⟩ ?_ ?_
      · rintro j x acc δ N3 hx ⟨rfl, rfl⟩ kN3
        obtain ⟨rfl, hj⟩ := upto_at hx
        have hj : j < gs.length := by
          have h2 : j < ((gs.map D.str).length : Int).toNat := hj
          rw [List.length_map] at h2
          omega
        walk_at "dd"
        have e : (if (if false = true then !decide (V.int (i : Int) = V.int (j : Int)) else decide (V.int (i : Int) = V.int (j : Int))) = true then (1 : Int) else 0) = if i = j then 1 else 0 := by
          by_cases c : i = j
          · subst c; simp
          · rw [if_neg c, if_neg]
            simp only [Bool.false_eq_true, if_false, decide_eq_true_eq]
            exact fun z => c (by have := V.int.inj z; omega)
        refine ⟨Nat.lt_of_lt_of_le (show _ < 6 by rw [List.length_map, List.length_map, List.length_range]; omega) (by decide), kN3 _ _ ⟨?_, rfl⟩⟩
        rw [List.range_succ, List.map_append, List.map_append]
        show _ ++ [D.int _] = _ ++ [D.int (if i = j then 1 else 0)]
        rw [← e]
      · rintro acc δ ⟨rfl, rfl⟩
        have ea : (upto 0 ((gs.map D.str).length : Int).toNat).length = gs.length := by rw [upto_len, List.length_map]; rfl
        rw [ea]
        walk_at "dd"
        have nin : gs[i] ∉ gs.take i := fun z => by
          have h2 := hg.1
          rw [← List.take_append_drop i gs] at h2
          exact (List.nodup_append.mp h2).2.2 _ z _ (by rw [List.drop_eq_getElem_cons hi]; exact List.mem_cons_self) rfl
        have e : putKD (tbK (tab0 gs i)) (.inr gs[i]) (.lst ((unitV gs.length i).map .int)) = tbK (tab0 gs (i + 1)) := by
          rw [tab0_snoc hi]
          exact put_tb (by rw [tab0_keys]; exact nin)
        refine ⟨_, .inr gs[i], rfl, rfl, ?_, ?_⟩
        · have : (tbK (tab0 gs i)).length ≤ i := by
            unfold tab0
            rw [List.length_map, List.length_map, List.length_zipIdx, List.length_take]
            omega
          exact Nat.lt_of_lt_of_le (show _ < 6 by omega) (by decide)
        · refine kN2 _ ⟨some (.d (.int i)), some (.d (.str gs[i])), ?_⟩
          rw [← e]
          rfl
    · rintro δ ⟨p6, p7, rfl⟩
      have el : (enumL (gs.map D.str)).length = gs.length := by unfold enumL; simp
      rw [el]
      exact kN _ ⟨_, _, rfl⟩
  rintro δ ⟨p3, p4, rfl⟩
  have nB : ¬ (isY y = false ∨ 6 < (seqOf y).length) := by rw [eY]; rintro (h | h); (rw [hS] at h; cases h); omega
  have eP : ∀ z, rowsE gs.length (tab0 gs gs.length) 0 (seqOf y) = .inl z → rowsP gs y = .inl (some z.1, z.2) := fun z e => by
    unfold rowsP
    rw [if_neg nB, e]
  have eR : ∀ l, rowsE gs.length (tab0 gs gs.length) 0 (seqOf y) = .inr l → rowsP gs y = .inr l := fun l e => by
    unfold rowsP
    rw [if_neg nB, e]
  walk_at "dd"
  refine enum_two rfl hro ?_
  have el : (enumL (seqOf y)).length = (seqOf y).length := by simp [enumL]
  refine DR.for_inv (fun i δ => ∃ (rs : List Row) (p3 p4 p5 p6 p7 : Option DV), rs.length = i ∧ δ = [some (.d (.lst (gs.map .str))), some (.d y), some (.own (.dK (tbK (tabM gs rs)))), p3, p4, p5, p6, p7, none] ∧ RowsOk gs.length (tab0 gs gs.length) rs ∧
      (∀ z, rowsE gs.length (tabM gs rs) i ((seqOf y).drop i) = .inl z → rowsP gs y = .inl (some z.1, z.2)) ∧ (∀ l, rowsE gs.length (tabM gs rs) i ((seqOf y).drop i) = .inr l → rowsP gs y = .inr (rs ++ l))) ⟨[], _, _, _, _, _, rfl, rfl, True.intro, eP, eR⟩ ?step ?fin
  case fin =>
    rintro δ ⟨rs, p3, p4, p5, p6, p7, hl, rfl, hok, _, h2⟩
    rw [el, List.drop_length] at h2
    rw [h2 [] rfl] at k
    walk_at "dd"
    exact k
  case step =>
    rintro i e δ N he ⟨rs, p3, p4, p5, p6, p7, hl, rfl, hok, h1, h2⟩ kN
    obtain ⟨r, hr, rfl⟩ := DR.enum_at he
    have hrm := List.mem_of_getElem? hr
    have hil : i < (seqOf y).length := (List.getElem?_eq_some_iff.mp hr).1
    have tok := rowsOk_tb tab0_ok hok
    have nmk := nmM hg hok
    rw [List.drop_eq_getElem_cons hil, show (seqOf y)[i] = r from (List.getElem?_eq_some_iff.mp hr).2] at h1 h2
    walk_at "dd"
    refine ⟨gs, r, tabM gs rs, rfl, hy.all r hrm, hg, tok, nmk, ?_⟩
    cases hw : rowW gs.length (tabM gs rs) r with
    | some v =>
      walk_at "dd"
      refine ⟨false, rfl, ⟨(fun h => nomatch h), (fun h => nomatch h)⟩, DR.nost_b, ?_⟩
      walk_at "dd"
      have := h1 (i, v) (by unfold rowsE; rw [hw])
      rw [this] at k
      exact k
    | none =>
      walk_at "dd"
      refine ⟨true, rfl, ⟨(fun _ => rfl), (fun _ => rfl)⟩, DR.nost_b, ?_⟩
      walk_at "dd"
      have hr2 : isR 2 r = true := by
        cases z : isR 2 r with
        | true => rfl
        | false => unfold rowW at hw; rw [if_pos z] at hw; cases hw
      obtain ⟨b, x2, qs, er, hx2, eq2, hro2⟩ := rowW_none hw hr2
      have hee : r = .tup [.str (nmOf r), x2] ∨ r = .lst [.str (nmOf r), x2] := by
        cases b
        · exact .inr er
        · exact .inl er
      refine alt_ix1 rfl hee ?_
      walk_at "dd"
      have ct : Cont ((tabM gs rs).map (·.1)) (ctOf r) := hro2.2.2.1
      have tl : (tabM gs rs).length ≤ 11 := by
        have := congrArg List.length (keysM (gs := gs) (rs := rs))
        rw [List.length_map, List.length_append, List.length_map] at this
        have := hg.2.2.1
        omega
      refine ⟨gs, qs, tabM gs rs, x2, rfl, hx2, hg.2.2.1, ?_, ?_, fun p hp => (tok p hp).1, ?_⟩
      · have := congrArg List.length eq2
        rw [List.length_map] at this
        have := ct.2.1
        omega
      · intro q2 hq2
        have := ct.2.2.2 q2.2 (by rw [← eq2]; exact List.mem_map_of_mem hq2)
        exact ⟨this.1, this.2.2⟩
      walk_at "dd"
      refine alt_ix rfl hee ?_
      refine ⟨_, .inr (nmOf r), rfl, rfl, by rw [List.length_map]; exact Nat.lt_of_le_of_lt tl (by decide), ?_⟩
      have eE : rowsE gs.length (tabM gs rs) i (r :: (seqOf y).drop (i + 1)) = match rowsE gs.length (tabM gs (rs ++ [(nmOf r, ctOf r)])) (i + 1) ((seqOf y).drop (i + 1)) with
        | .inl z => .inl z
        | .inr l => .inr ((nmOf r, ctOf r) :: l) := by
        conv => lhs; unfold rowsE
        rw [hw]
        dsimp only
        rw [show tabM gs rs ++ [(nmOf r, sumV gs.length (tabM gs rs) (ctOf r))] = tabM gs (rs ++ [(nmOf r, ctOf r)]) from (tabOf_snoc (n := gs.length) (tb := tab0 gs gs.length) (rs := rs) (r := (nmOf r, ctOf r))).symm]
        all_goals rfl
      refine kN _ ⟨rs ++ [(nmOf r, ctOf r)], p3, p4, some (.d (.int (i : Int))), some (.d r), some (.d .non), by rw [List.length_append, hl]; rfl, ?_, rowsOk_snoc hok hro2, fun z hz => ?_, fun l hz => ?_⟩
      · rw [show tabM gs (rs ++ [(nmOf r, ctOf r)]) = tabM gs rs ++ [(nmOf r, sumV gs.length (tabM gs rs) (ctOf r))] from tabOf_snoc, ← put_tb hro2.2.1, ← eq2]
        rfl
      · refine h1 z ?_
        rw [eE, hz]
      · rw [h2 ((nmOf r, ctOf r) :: l) (by rw [eE, hz]), List.append_assoc]
        rfl
end
end KT

set_option Elab.async false
set_option linter.all false
set_option maxRecDepth 100000
set_option maxHeartbeats 0
set_option pp.deepTerms false
set_option pp.deepTerms.threshold 8


namespace KT
open PySem PySem.Spec PyProof.Rows L2 DL
/-! ### what was told -/
structure TxtL (K : PySem.W.Frag) (mg : Str → Option Value) (C BR OG PC NT BA ME BG : Addr) : Prop extends TxtT K mg C BR OG PC NT BA where
  c_MarketError : mg "MarketError" = some (.ref ME)
  c_BadGoods : mg "BadGoods" = some (.ref BG)
  b_ValueError : mg "ValueError" = none
  xf_BadGoods : XfC K BG
  xf_BadParcels : XfC K BA
  n_BadGoods_what : PySem.W.findIn K (.ref BG) "what" = some none
  n_BadParcels_what : PySem.W.findIn K (.ref BA) "what" = some none
  n_BadParcels_index : PySem.W.findIn K (.ref BA) "index" = some none
  exm_G : PySem.W.exmOne K (.ref BG) (.ref ME) = some true
  exm_A : PySem.W.exmOne K (.ref BA) (.ref ME) = some true
  ec_G : ExcC K BG
  ec_A : ExcC K BA
  kv_A : PySem.W.kitOne K (.ref BA) (.type "ValueError") = some true
  ka_A : PySem.W.kitOne K (.ref BA) (.ref BA) = some true
  kg_A : PySem.W.kitOne K (.ref BG) (.ref BA) = some false
  kg_G : PySem.W.kitOne K (.ref BG) (.ref BG) = some true
mutual
theorem eqv_self : ∀ d : PyData, d.hasDict = false → PyData.eqv d d = true
  | .none, _ => by simp [PyData.eqv]
  | .bool b, _ => by simp [PyData.eqv]
  | .int i, _ => by simp [PyData.eqv]
  | .str x, _ => by simp [PyData.eqv]
  | .list xs, h => by
    simp only [PyData.eqv]
    exact eqv_selfs xs (by simpa [PyData.hasDict] using h)
  | .tuple xs, h => by
    simp only [PyData.eqv]
    exact eqv_selfs xs (by simpa [PyData.hasDict] using h)
  | .dict _, h => by simp [PyData.hasDict] at h
theorem eqv_selfs : ∀ ds : List PyData, PyData.hasDictAll ds = false → PyData.eqvAll ds ds = true
  | [], _ => by simp [PyData.eqvAll]
  | d :: ds, h => by
    simp only [PyData.hasDictAll, Bool.or_eq_false_iff] at h
    simp only [PyData.eqvAll, eqv_self d h.1, eqv_selfs ds h.2, Bool.and_self]
end
theorem eqP_same {a b : D} {Q : D → Prop} (e : a = b) (c : Cmp b) (k : Q (.bl true)) : eqP false a b fun z => NoStr z ∧ Q z := by
  subst e
  refine ⟨c, c, ?_⟩
  rw [if_neg Bool.false_ne_true, eqv_self _ (noDict c.1)]
  exact ⟨DR.nost_b, k⟩
section
variable {P : Program} {w : World} {K : PySem.W.Frag} {mg : Str → Option Value} {base : Heap} {C OG BG BP BR PC NT BA ME : Addr}
def sdTold : SpD := fun as Q _ => ∃ x y : D, as = [.d x, .d y] ∧ GA x ∧ Rwp y ∧ (∀ v, goodsW x = some v → Q (.d (.tup [.str "goods", .str v])) []) ∧ (∀ gs, RowOf x (gs.map .str) → Goods gs → Q (.d (dueD (rowsP gs y))) [])
abbrev s_law_told : Stmt := top 47
theorem sc_law_told : FnScope ["_law_goods", "_law_rows", "_law_made", "e"] ["_law_goods", "_law_rows"] (defScope s_law_told) := ⟨rfl, rfl, rfl, by decide +kernel, rfl, by decide +kernel, by decide +kernel⟩
theorem ok_ltold (K_Parcels2 : DefK P w K mg base PC 17 3 ["self", "goods", "rows"] [] [] (sdParInit PC C BG BA)) (D_Parcels_things : DefP P w K mg base PC "things" 1 ["self"] (sdThings PC C)) {f : Addr} {fd : FuncData} (G : Fun K "_law_told" "_law_told" s_law_told f fd) (T : TxtL K mg C BR OG PC NT BA ME BG) : FnOk P w K mg base (L2.CX P w) 19 f fd ["_law_goods", "_law_rows"] (spOf K sdTold) := by
  refine okD G sc_law_told [] (fun as Q E ⟨x, y, e, _⟩ => by subst e; exact ⟨rfl, rfl⟩) ⟨_, fun cdv A outer s H E ad F0 H0 hr => (pds_cons (psd_tryA K rfl (i := 3) (by show ¬ (3 ∈ ([] : List Nat)); decide) rfl rfl sc_law_told.nd rfl rfl ⟨by rfl, by decide +kernel, .inl T.c_MarketError⟩ (takes_of rfl rfl rfl rfl) (fun W pn xe tk po => (pds_one (psd_set (i := 2) (pd_newK (n := 2) K_Parcels2.mkc K_Parcels2.ok (hr.mono (by decide)) (by rfl) T.c_Parcels K_Parcels2.kb0 (fun _ => .nil) (fun _ _ _ => rfl) tk (pda_cons (pd_var (pv 0)) (pda_cons (pd_var (pv 1)) pda_nil)) pkd_nil) (by show ¬ (2 ∈ ([] : List Nat)); decide) sc_law_told.nd rfl (.inl rfl)))) (fun a oe cls d pn hz hf => (pds_cons (psd_if (PW.pt (pwd_and (ptd_val (pd_builtB (fun h => pe_callB (call_isXc hz hf) (by rfl) T.b_isinstance (by decide +kernel) h) (cn_isXc (K := K)).op (pda_cons (pd_var (pv 3)) (pda_cons (pd_const (pe_glob (v := .ref BA) rfl T.c_BadParcels rfl) (fun _ => .adr _)) pda_nil))) (fun h => pt_val h)) (pwd_and1 (ptd_val (pd_builtB (fun h => pe_callB (call_isXc hz hf) (by rfl) T.b_isinstance (by decide +kernel) h) (cn_isXcT (K := K)).op (pda_cons (pd_var (pv 3)) (pda_cons (pd_const (pe_bltn (v := .ty "ValueError") (by rfl) T.b_ValueError (by decide +kernel) rfl) (fun _ => .ty _)) pda_nil))) (fun h => pt_val h))))) (pds_one (psd_ret (pd_tup (fun h => pe_tup h) (pda_cons (pd_xf T.xf_BadParcels T.n_BadParcels_index hz hf (pd_var (pv 3))) (pda_cons (pd_orE (pd_xf T.xf_BadGoods T.n_BadGoods_what hz hf (pd_var (pv 3))) (pd_xf T.xf_BadParcels T.n_BadParcels_what hz hf (pd_var (pv 3)))) pda_nil))))) pds_nil)
      (pds_one (psd_ret (pd_ifExp (ptd_val (pd_builtB (fun h => pe_callB (call_isXc hz hf) (by rfl) T.b_isinstance (by decide +kernel) h) (cn_isXc (K := K)).op (pda_cons (pd_var (pv 3)) (pda_cons (pd_const (pe_glob (v := .ref BG) rfl T.c_BadGoods rfl) (fun _ => .adr _)) pda_nil))) (fun h => pt_val h)) (pd_tup (fun h => pe_tup h) (pda_cons (pd_const pe_str (fun _ => .str (by decide +kernel))) (pda_cons (pd_orE (pd_xf T.xf_BadGoods T.n_BadGoods_what hz hf (pd_var (pv 3))) (pd_xf T.xf_BadParcels T.n_BadParcels_what hz hf (pd_var (pv 3)))) pda_nil))) (pd_tup (fun h => pe_tup h) (pda_cons (pd_const pe_str (fun _ => .str (by decide +kernel))) (pda_cons (pd_const pe_str (fun _ => .str (by decide +kernel))) pda_nil)))))))))
      (pds_one (psd_ret (pd_ifExp (ptd_cmp (op_eqD hr.units) op2_eqD.op (pd_sliceTA (pd_prop (pd_var (pv 2)) T.cl_Parcels D_Parcels_things.po D_Parcels_things.ok (hr.mono (by decide)) D_Parcels_things.b rfl) pod_none (pod_some (pd_builtB (fun h => pe_callB call_len_seq (by rfl) T.b_len (by decide +kernel) h) cn_len.op (pda_cons (pd_var (pv 0)) pda_nil)))) (pd_builtB (fun h => pe_callTy call_tuple_of (by rfl) T.b_tuple (by decide +kernel) h) cn_tuple (pda_cons (pd_var (pv 0)) pda_nil)) (nomark _)) (pd_const pe_non (fun _ => .non)) (pd_tup (fun h => pe_tup h) (pda_cons (pd_const pe_str (fun _ => .str (by decide +kernel))) (pda_cons (pd_const pe_str (fun _ => .str (by decide +kernel))) pda_nil))))))), ?_⟩
  rintro as Qd Ed ⟨x, y, rfl, hx, hy, k1, k2⟩
  refine DR.start (δ' := [some (.d x), some (.d y), none, none]) rfl ?_
  walk_at "dd"
  refine DR.trya ?_
  walk_at "dd"
  refine ⟨rfl, ?_⟩
  walk_at "dd"
  refine ⟨rfl, ?_⟩
  walk_at "dd"
  refine ⟨x, y, rfl, hx, hy.rws, fun v hv o => ?_, fun gs hxr hg => ⟨fun rs hP hok hl => ?_, fun i v hP o => ?_⟩⟩
  · refine ⟨_, _, rfl, true, T.exm_G, fun _ a dd _ => ?_, fun e => nomatch e⟩
    walk_at "dd"
    refine ⟨_, _, _, _, rfl, rfl, T.ec_G, T.kg_A, ?_⟩
    walk_at "dd"
    refine ⟨_, _, _, _, rfl, rfl, T.ec_G, T.kg_G, ?_⟩
    walk_at "dd"
    refine .inl ?_
    walk_at "dd"
    refine ⟨_, _, rfl, rfl, rfl, ?_⟩
    walk_at "dd"
    exact k1 v hv
  · have k := k2 gs hxr hg
    rw [hP] at k
    refine ⟨rfl, _, _, rfl, ?_⟩
    walk_at "dd"
    refine ⟨gs, rs, rfl, hg.2.2.1, hl, ?_⟩
    walk_at "dd"
    have ec : DL.cutD ((gs ++ rs.map (·.1)).map D.str) none (some (gs.length : Int)) = gs.map .str := by
      rw [cut_hi (by rw [List.length_append]; omega), List.take_append_of_le_length (Nat.le_refl _), List.take_length]
    rcases hxr with rfl | rfl
    · walk_at "dd"
      refine ⟨_, _, rfl, .inl rfl, ?_⟩
      refine eqP_same (by show D.tup (DL.cutD _ none (some ((gs.map D.str).length : Int))) = D.tup (gs.map D.str); rw [List.length_map, ec]) (dp_tup (dp_map fun _ _ => dp_str)).cmp ?_
      walk_at "dd"
      exact k
    · walk_at "dd"
      refine ⟨_, _, rfl, .inr (.inr rfl), ?_⟩
      refine eqP_same (by show D.tup (DL.cutD _ none (some ((gs.map D.str).length : Int))) = D.tup (gs.map D.str); rw [List.length_map, ec]) (dp_tup (dp_map fun _ _ => dp_str)).cmp ?_
      walk_at "dd"
      exact k
  · have k := k2 gs hxr hg
    rw [hP] at k
    refine ⟨_, _, rfl, true, T.exm_A, fun _ a dd _ => ?_, fun e => nomatch e⟩
    walk_at "dd"
    refine ⟨_, _, _, _, rfl, rfl, T.ec_A, T.ka_A, ?_⟩
    walk_at "dd"
    refine ⟨_, _, _, _, rfl, rfl, T.ec_A, T.kv_A, ?_⟩
    walk_at "dd"
    refine ⟨_, _, rfl, rfl, rfl, ?_⟩
    walk_at "dd"
    refine .inr ?_
    walk_at "dd"
    refine ⟨_, _, rfl, rfl, rfl, ?_⟩
    walk_at "dd"
    exact k
end
end KT

set_option Elab.async false
set_option linter.all false
set_option maxRecDepth 100000
set_option maxHeartbeats 0
set_option pp.deepTerms false
set_option pp.deepTerms.threshold 8


namespace KT
open PySem PySem.Spec PyProof.Rows L2 DL
/-! ### told as it is due -/
theorem contW_len {n : Nat} {tb : Tb} {x : D} {v : Str} (h : contW n tb x = some v) : v.length ≤ 8 := by
  unfold contW at h
  split at h
  · cases h; decide
  · split at h
    · cases h; decide
    · split at h
      · cases h; decide
      · split at h
        · cases h; decide
        · cases h
theorem rowW_len {n : Nat} {tb : Tb} {x : D} {v : Str} (h : rowW n tb x = some v) : v.length ≤ 8 := by
  unfold rowW at h
  split at h
  · cases h; decide
  · split at h
    · split at h
      · cases h; decide
      · split at h
        · cases h; decide
        · exact contW_len h
    · cases h
theorem rowsE_len {n : Nat} : ∀ {rs : List D} {tb : Tb} {i : Nat} {z : Nat × Str}, rowsE n tb i rs = .inl z → z.1 < i + rs.length ∧ z.2.length ≤ 8
  | [], _, _, _, h => by cases h
  | r :: rs, tb, i, z, h => by
    unfold rowsE at h
    split at h
    · rename_i w hw
      cases h
      exact ⟨by rw [List.length_cons]; show i < _; omega, rowW_len hw⟩
    · split at h
      · rename_i hz
        cases h
        have := rowsE_len hz
        rw [List.length_cons]
        exact ⟨by omega, this.2⟩
      · cases h
theorem show_due {gs : List Str} {y : D} (hl : (seqOf y).length ≤ 1000) : Show (dueD (rowsP gs y)) := by
  have two : ∀ {a : D} {v : Str}, Sz 100 1 a → v.length ≤ 8 → Show (.tup [a, .str v]) := fun {a v} ha hv => (sz_tup (m := 2) (n := 100) (k := 1) (ds := [a, .str v]) (fun d hd => by
    rcases List.mem_cons.mp hd with rfl | hd
    · exact ha
    · rw [List.mem_singleton.mp hd]
      exact (sz_str hv).le (by decide) (by decide)) (by show 2 ≤ 2; decide)).show (by decide) (by decide)
  unfold rowsP
  split
  · exact two (sz_non.le (by decide) (by decide)) (by decide)
  · split
    · rename_i i v hz
      have := rowsE_len hz
      exact two ((sz_int (by show ((i : Int)).natAbs < 10 ^ 19; have h0 := this.1; dsimp only at h0; rw [Int.natAbs_natCast]; exact Nat.lt_of_lt_of_le (show i < 1001 by omega) (by decide))).le (by decide) (by decide)) this.2
    · exact (sz_non.le (m := 100) (j := 1) (by decide) (by decide)).show (by decide) (by decide)
section
variable {P : Program} {w : World} {K : PySem.W.Frag} {mg : Str → Option Value} {base : Heap} {C OG BG BP BR PC NT BA ME : Addr}
theorem isi_nl {y : D} {n : String} {Q : D → Prop} (hn : Pl y n) (hc : ¬ ∃ l, y = .lst l) (k : Q (.bl false)) : isiS K [y, .ty "list"] Q := by
  cases hn with
  | lst l => exact absurd ⟨l, rfl⟩ hc
  | non => exact ⟨_, _, _, _, false, rfl, .ty _, .non, by rfl, k⟩
  | bl b => exact ⟨_, _, _, _, false, rfl, .ty _, .bl _, by rfl, k⟩
  | int i => exact ⟨_, _, _, _, false, rfl, .ty _, .int _, by rfl, k⟩
  | str z => exact ⟨_, _, _, _, false, rfl, .ty _, .str _, by rfl, k⟩
  | tup l => exact ⟨_, _, _, _, false, rfl, .ty _, .tup _, by rfl, k⟩
def sdHeld : SpD := fun as Q _ => ∃ (gs : List Str) (y : D), as = [.d (.lst (gs.map .str)), .d y] ∧ Goods gs ∧ Rwp y ∧ Show y ∧ Q (.d (.bl true)) []
abbrev s_law_held : Stmt := top 51
theorem sc_law_held : FnScope ["_law_goods", "_law_rows", "_law_due_here", "_law_kept", "_law_some"] ["_law_goods", "_law_rows"] (defScope s_law_held) := ⟨rfl, rfl, rfl, by decide +kernel, rfl, by decide +kernel, by decide +kernel⟩
theorem ok_lheld (D_law_due : DefD P w K mg base "_law_due" 7 ["_law_goods", "_law_rows"] sdDue) (D_law_told : DefD P w K mg base "_law_told" 19 ["_law_goods", "_law_rows"] sdTold) {f : Addr} {fd : FuncData} (G : Fun K "_law_held" "_law_held" s_law_held f fd) (T : TxtL K mg C BR OG PC NT BA ME BG) : FnOkG P w K mg base (L2.CX P w) 21 f fd ["_law_goods", "_law_rows"] (spOf K sdHeld) := by
  refine okDG G sc_law_held [] (fun as Q E ⟨x, y, e, _⟩ => by subst e; exact ⟨rfl, rfl⟩) ⟨_, fun cdv A hgs outer s H E ad F0 H0 hr => (pds_cons (psd_par (i := 2) (j := 3) (oi := false) (oj := false) (pka_cons (pd_call D_law_due.ok (hr.mono (by decide)) (by rfl) D_law_due.mg D_law_due.kp D_law_due.b (takes_of rfl rfl rfl rfl) (pda_cons (pd_var (pv 0)) (pda_cons (pd_var (pv 1)) pda_nil))) (pka_cons (pd_repr hgs (units65 hr :) (by rfl) T.b_repr (by decide +kernel) (pda_cons (pd_var (pv 1)) pda_nil)) pka_nil)) (by show ¬ (2 ∈ ([] : List Nat)); decide) (by show ¬ (3 ∈ ([] : List Nat)); decide) (fun h => ps_par (i := 2) (j := 3) (by rfl) sc_law_held.nd rfl rfl (by decide) rfl rfl h (by rfl)) (by decide))
      (pds_cons (psd_for (passes_of rfl) rfl (pid_list (pd_lst (fun h => pe_lst h) (pda_cons (pd_var (pv 1)) (pda_cons (pd_ifExp (ptd_val (pd_builtB (fun h => pe_callB call_isi (by rfl) T.b_isinstance (by decide +kernel) h) (cn_isi (K := K)).op (pda_cons (pd_var (pv 1)) (pda_cons (pd_const (pe_bltn (v := .ty "list") (by rfl) T.b_list (by decide +kernel) rfl) (fun _ => .ty _)) pda_nil))) (fun h => pt_val h)) (pd_builtB (fun h => pe_callTy call_tuple_of (by rfl) T.b_tuple (by decide +kernel) h) cn_tuple (pda_cons (pd_var (pv 1)) pda_nil)) (pd_var (pv 1))) pda_nil)))) (pgd_name (i := 4) (vs := [4]) (pg_name (i := 4) sc_law_held.nd rfl (.inl rfl)) (by show ¬ (4 ∈ ([] : List Nat)); decide) (by decide))
      (pds_one (psd_if (ptd_cmp op_ne op2_ne.op (pd_repr hgs (units65 hr :) (by rfl) T.b_repr (by decide +kernel) (pda_cons (pd_call D_law_told.ok (hr.mono (by decide)) (by rfl) D_law_told.mg D_law_told.kp D_law_told.b (takes_of rfl rfl rfl rfl) (pda_cons (pd_var (pv 0)) (pda_cons (pd_var (pv 4)) pda_nil))) pda_nil)) (pd_repr hgs (units65 hr :) (by rfl) T.b_repr (by decide +kernel) (pda_cons (pd_var (pv 2)) pda_nil)) (nomark _)) (pds_one (psd_ret (pd_const pe_bl (fun _ => .bl _)))) pds_nil)))
      (pds_one (psd_ret (pd_cmp op_eq op2_eq.op (pd_repr hgs (units65 hr :) (by rfl) T.b_repr (by decide +kernel) (pda_cons (pd_var (pv 1)) pda_nil)) (pd_var (pv 3)) (nomark _)))))), ?_⟩
  rintro as Qd Ed ⟨gs, y, rfl, hg, hy, sh, k⟩
  refine DR.start (δ' := [some (.d (.lst (gs.map .str))), some (.d y), none, none, none]) rfl ?_
  walk_at "dd"
  refine ⟨gs, y, rfl, hg, hy, ?_⟩
  walk_at "dd"
  refine ⟨sh, ?_⟩
  walk_at "dd"
  obtain ⟨n, hn⟩ := hy.pl
  have sd := show_due (gs := gs) hy.len
  by_cases hc : ∃ l, y = .lst l
  · obtain ⟨l, rfl⟩ := hc
    refine ⟨_, _, _, _, true, rfl, .ty _, .lst _, kit_self, DR.nost_b, ?_⟩
    walk_at "dd"
    refine ⟨_, _, rfl, .inl rfl, ?_⟩
    walk_at "dd"
    refine DR.for_inv (fun _ δ => ∃ p4 : Option DV, δ = [some (.d (.lst (gs.map .str))), some (.d (.lst l)), some (.d (dueD (rowsP gs (.lst l)))), some (.d (.str ((.lst l) : D).py.shown)), p4]) ⟨_, rfl⟩ ?_ ?_
    · rintro i e δ N he ⟨p4, rfl⟩ kN
      have hh : Rwp e ∧ rowsP gs e = rowsP gs (.lst l) := by
        match i, he with
        | 0, he => cases he; exact ⟨hy, rfl⟩
        | 1, he => cases he; exact ⟨⟨⟨_, .tup _⟩, hy.len, hy.all⟩, rfl⟩
        | _ + 2, he => cases he
      walk_at "dd"
      refine ⟨.lst (gs.map .str), e, rfl, ga_row (.inl rfl) hg, hh.1, (fun v hv => by rw [goodsW_ok (.inl rfl) hg] at hv; cases hv), fun gs2 h1 _ => ?_⟩
      obtain rfl : gs = gs2 := row_same (.inl rfl) h1
      rw [hh.2]
      walk_at "dd"
      refine ⟨sd, ?_⟩
      walk_at "dd"
      refine ⟨sd, ?_⟩
      walk_at "dd"
      rw [decide_eq_true (by rfl)]
      walk_at "dd"
      exact kN _ ⟨_, rfl⟩
    · rintro δ ⟨p4, rfl⟩
      walk_at "dd"
      refine ⟨sh, ?_⟩
      walk_at "dd"
      rw [if_neg Bool.false_ne_true, decide_eq_true (by rfl)]
      exact k
  · refine isi_nl hn hc ⟨DR.nost_b, ?_⟩
    walk_at "dd"
    refine DR.for_inv (fun _ δ => ∃ p4 : Option DV, δ = [some (.d (.lst (gs.map .str))), some (.d y), some (.d (dueD (rowsP gs y))), some (.d (.str (y : D).py.shown)), p4]) ⟨_, rfl⟩ ?_ ?_
    · rintro i e δ N he ⟨p4, rfl⟩ kN
      have hh : Rwp e ∧ rowsP gs e = rowsP gs y := by
        match i, he with
        | 0, he => cases he; exact ⟨hy, rfl⟩
        | 1, he => cases he; exact ⟨hy, rfl⟩
        | _ + 2, he => cases he
      walk_at "dd"
      refine ⟨.lst (gs.map .str), e, rfl, ga_row (.inl rfl) hg, hh.1, (fun v hv => by rw [goodsW_ok (.inl rfl) hg] at hv; cases hv), fun gs2 h1 _ => ?_⟩
      obtain rfl : gs = gs2 := row_same (.inl rfl) h1
      rw [hh.2]
      walk_at "dd"
      refine ⟨sd, ?_⟩
      walk_at "dd"
      refine ⟨sd, ?_⟩
      walk_at "dd"
      rw [decide_eq_true (by rfl)]
      walk_at "dd"
      exact kN _ ⟨_, rfl⟩
    · rintro δ ⟨p4, rfl⟩
      walk_at "dd"
      refine ⟨sh, ?_⟩
      walk_at "dd"
      rw [if_neg Bool.false_ne_true, decide_eq_true (by rfl)]
      exact k
end
end KT

set_option Elab.async false
set_option linter.all false
set_option maxRecDepth 100000
set_option maxHeartbeats 0
set_option pp.deepTerms false
set_option pp.deepTerms.threshold 8


namespace KT
open PySem PySem.Spec PyProof.Rows L2 DL
/-! ### the other way round -/
def negV : D → Int
  | .int i => 0 - i
  | _ => 1
section
variable {P : Program} {w : World} {K : PySem.W.Frag} {mg : Str → Option Value} {base : Heap} {C OG BG BP BR PC NT BA ME : Addr}
def sdNeg : SpD := fun as Q _ => ∃ (x : D) (n : String), as = [.d x] ∧ Pl x n ∧ Q (.d (.int (negV x))) []
abbrev s_law_negative : Stmt := top 50
theorem sc_law_negative : FnScope ["_law_count"] ["_law_count"] (defScope s_law_negative) := ⟨rfl, rfl, rfl, by decide +kernel, rfl, by decide +kernel, by decide +kernel⟩
theorem ok_lneg {f : Addr} {fd : FuncData} (G : Fun K "_law_negative" "_law_negative" s_law_negative f fd) (T : TxtN mg) : FnOk P w K mg base (L2.CX P w) 1 f fd ["_law_count"] (spOf K sdNeg) := by
  refine okD G sc_law_negative [] (fun as Q E ⟨x, y, e, _⟩ => by subst e; exact ⟨rfl, rfl⟩) ⟨_, fun cdv A outer s H E ad F0 H0 hr => (pds_cons (psd_if (PW.pt (pwd_or (ptd_not (ptd_val (pd_builtB (fun h => pe_callB call_isi (by rfl) T.b_isinstance (by decide +kernel) h) (cn_isi (K := K)).op (pda_cons (pd_var (pv 0)) (pda_cons (pd_const (pe_bltn (v := .ty "int") (by rfl) T.b_int (by decide +kernel) rfl) (fun _ => .ty _)) pda_nil))) (fun h => pt_val h))) (pwd_or1 (ptd_val (pd_builtB (fun h => pe_callB call_isi (by rfl) T.b_isinstance (by decide +kernel) h) (cn_isi (K := K)).op (pda_cons (pd_var (pv 0)) (pda_cons (pd_const (pe_bltn (v := .ty "bool") (by rfl) T.b_bool (by decide +kernel) rfl) (fun _ => .ty _)) pda_nil))) (fun h => pt_val h))))) (pds_one (psd_ret (pd_const pe_int (fun _ => .int _)))) pds_nil)
      (pds_one (psd_ret (pd_op op_sub (op2_I0 fun _ _ _ => .int _) (pd_const pe_int (fun _ => .int _)) (pd_var (pv 0)))))), ?_⟩
  rintro as Qd Ed ⟨x, n, rfl, hx, k⟩
  refine DR.start (δ' := [some (.d x)]) rfl ?_
  walk_at "dd"
  cases hx with
  | non => refine ⟨_, _, _, _, false, rfl, .ty _, .non, by rfl, DR.nost_b, ?_⟩; walk_at "dd"; exact k
  | str _ => refine ⟨_, _, _, _, false, rfl, .ty _, .str _, by rfl, DR.nost_b, ?_⟩; walk_at "dd"; exact k
  | lst _ => refine ⟨_, _, _, _, false, rfl, .ty _, .lst _, by rfl, DR.nost_b, ?_⟩; walk_at "dd"; exact k
  | tup _ => refine ⟨_, _, _, _, false, rfl, .ty _, .tup _, by rfl, DR.nost_b, ?_⟩; walk_at "dd"; exact k
  | bl _ =>
    refine ⟨_, _, _, _, true, rfl, .ty _, .bl _, by rfl, DR.nost_b, ?_⟩
    walk_at "dd"
    refine ⟨_, _, _, _, true, rfl, .ty _, .bl _, kit_self, DR.nost_b, ?_⟩
    walk_at "dd"
    exact k
  | int c =>
    refine ⟨_, _, _, _, true, rfl, .ty _, .int _, kit_self, DR.nost_b, ?_⟩
    walk_at "dd"
    refine ⟨_, _, _, _, false, rfl, .ty _, .int _, by rfl, DR.nost_b, ?_⟩
    walk_at "dd"
    exact k
end
end KT

set_option Elab.async false
set_option linter.all false
set_option maxRecDepth 100000
set_option maxHeartbeats 0
set_option pp.deepTerms false
set_option pp.deepTerms.threshold 8


namespace KT
open PySem PySem.Spec PyProof.Rows L2 DL
/-! ### what rows are, however often they are spoilt -/
theorem sz_int31 {i : Int} (h : i.natAbs < 10 ^ 31) : Sz 32 1 (.int i) := ⟨rfl, by simp [D.py, PyData.depth], by
  have : i.natAbs.log2 < 104 := by
    rcases Nat.eq_zero_or_pos i.natAbs with e | e
    · rw [e]; decide
    · exact (Nat.log2_lt (by omega)).mpr (Nat.lt_of_lt_of_le h (by decide))
  simp only [D.py, PyData.showable]
  exact decide_eq_true (by omega), by simp only [D.py, shW]; exact int_len (by decide) h⟩
/-- short texts, numbers, words -/
inductive Lf : D → Prop
  | non : Lf .non
  | bl (b : Bool) : Lf (.bl b)
  | int (i : Int) (h : i.natAbs < 10 ^ 31) : Lf (.int i)
  | str (z : Str) (h : z.length ≤ 20) : Lf (.str z)
def Sq (P : D → Prop) (n : Nat) (x : D) : Prop := ∃ ds, RowOf x ds ∧ ds.length ≤ n ∧ ∀ d ∈ ds, P d
abbrev Bx (x : D) : Prop := Lf x ∨ Sq Lf 3 x
abbrev Ey (x : D) : Prop := Bx x ∨ Sq Bx 3 x
abbrev Cq (x : D) : Prop := Lf x ∨ Sq Ey 20 x
inductive Rq : D → Prop
  | lf {x : D} (h : Lf x) : Rq x
  | r0 {x : D} (h : RowOf x []) : Rq x
  | r1 {x a : D} (h : RowOf x [a]) (ha : Bx a) : Rq x
  | r2 {x a b : D} (h : RowOf x [a, b]) (ha : Bx a) (hb : Cq b) : Rq x
  | r3 {x a b c : D} (h : RowOf x [a, b, c]) (ha : Bx a) (hb : Cq b) (hc : Lf c) : Rq x
theorem Lf.sz {x : D} (h : Lf x) : Sz 202 1 x := by
  cases h with
  | non => exact sz_non.le (by decide) (by decide)
  | bl b => exact sz_bl.le (by decide) (by decide)
  | int i h => exact (sz_int31 h).le (by decide) (by decide)
  | str z h => exact (sz_str h).le (by decide) (by decide)
theorem sz_row {n k m : Nat} {x : D} {ds : List D} (hx : RowOf x ds) (h : ∀ d ∈ ds, Sz n k d) (l : ds.length ≤ m) : Sz (m * (n + 2) + 3) (k + 1) x := by
  rcases hx with rfl | rfl
  · exact sz_lst h l
  · exact sz_tup h l
theorem Bx.sz {x : D} (h : Bx x) : Sz 615 2 x := by
  rcases h with h | ⟨ds, hx, l, h⟩
  · exact h.sz.le (by decide) (by decide)
  · exact sz_row hx (fun d hd => (h d hd).sz) l
theorem Ey.sz {x : D} (h : Ey x) : Sz 1854 3 x := by
  rcases h with h | ⟨ds, hx, l, h⟩
  · exact (Bx.sz h).le (by decide) (by decide)
  · exact sz_row hx (fun d hd => Bx.sz (h d hd)) l
theorem Cq.sz {x : D} (h : Cq x) : Sz 37123 4 x := by
  rcases h with h | ⟨ds, hx, l, h⟩
  · exact h.sz.le (by decide) (by decide)
  · exact sz_row hx (fun d hd => Ey.sz (h d hd)) l
theorem Rq.sz {x : D} (h : Rq x) : Sz 111378 5 x := by
  cases h with
  | lf h => exact h.sz.le (by decide) (by decide)
  | r0 h => exact (sz_row (m := 0) (n := 0) (k := 0) h (fun d hd => nomatch hd) (Nat.le_refl 0)).le (by decide) (by decide)
  | r1 h ha => exact (sz_row (m := 1) (n := 615) (k := 2) h (fun d hd => by
      rw [List.mem_singleton.mp hd]; exact Bx.sz ha) (Nat.le_refl 1)).le (by decide) (by decide)
  | r2 h ha hb => exact (sz_row (m := 2) (n := 37123) (k := 4) h (fun d hd => by
      simp only [List.mem_cons, List.not_mem_nil, or_false] at hd
      rcases hd with rfl | rfl
      · exact (Bx.sz ha).le (by decide) (by decide)
      · exact Cq.sz hb) (Nat.le_refl 2)).le (by decide) (by decide)
  | r3 h ha hb hc => exact sz_row (m := 3) (n := 37123) (k := 4) h (fun d hd => by
      simp only [List.mem_cons, List.not_mem_nil, or_false] at hd
      rcases hd with rfl | rfl | rfl
      · exact (Bx.sz ha).le (by decide) (by decide)
      · exact Cq.sz hb
      · exact hc.sz.le (by decide) (by decide)) (Nat.le_refl 3)
theorem Lf.pl {x : D} (h : Lf x) : ∃ n, Pl x n := by
  cases h with
  | non => exact ⟨_, .non⟩
  | bl b => exact ⟨_, .bl _⟩
  | int i h => exact ⟨_, .int _⟩
  | str z h => exact ⟨_, .str _⟩
theorem pl_rowQ {x : D} {ds : List D} (h : RowOf x ds) : ∃ n, Pl x n := by
  rcases h with rfl | rfl
  · exact ⟨_, .lst _⟩
  · exact ⟨_, .tup _⟩
theorem seq_rowOf {x : D} {ds : List D} (h : RowOf x ds) : seqOf x = ds := by
  rcases h with rfl | rfl <;> rfl
theorem Lf.seq {x : D} (h : Lf x) : seqOf x = [] := by cases h <;> rfl
theorem lq_pl {P : D → Prop} {n : Nat} {x : D} (h : Lf x ∨ Sq P n x) : ∃ n, Pl x n := by
  rcases h with h | ⟨ds, hx, _, _⟩
  · exact h.pl
  · exact pl_rowQ hx
theorem Bx.len {x : D} (h : Bx x) : (seqOf x).length ≤ 3 := by
  rcases h with h | ⟨ds, hx, l, _⟩
  · rw [h.seq]; exact Nat.zero_le _
  · rw [seq_rowOf hx]; exact l
theorem Bx.pl {x : D} (h : Bx x) : ∃ n, Pl x n := lq_pl h
theorem Ey.pl {x : D} (h : Ey x) : ∃ n, Pl x n := by
  rcases h with h | ⟨ds, hx, _, _⟩
  · exact Bx.pl h
  · exact pl_rowQ hx
theorem Lf.few {x : D} (h : Lf x) : ∀ z, x = .str z → z.length ≤ 20 := fun z e => by
  cases h with
  | str z h => cases e; exact h
  | _ => cases e
theorem Bx.few {x : D} (h : Bx x) : ∀ z, x = .str z → z.length ≤ 20 := fun z e => by
  rcases h with h | ⟨ds, hx, l, _⟩
  · exact h.few z e
  · subst e; rcases hx with hx | hx <;> cases hx
theorem Bx.sm {x : D} (h : Bx x) : Sm x := ⟨Bx.pl h, (Bx.sz h).cmp, fun z e => Nat.le_trans (Bx.few h z e) (by decide)⟩
theorem Ey.len {x : D} (h : Ey x) : (seqOf x).length ≤ 3 := by
  rcases h with h | ⟨ds, hx, l, _⟩
  · exact Bx.len h
  · rw [seq_rowOf hx]; exact l
theorem Ey.mem {x : D} (h : Ey x) : ∀ d ∈ seqOf x, Bx d := by
  rcases h with (h | ⟨ds, hx, l, g⟩) | ⟨ds, hx, l, g⟩
  · rw [h.seq]; exact fun d hd => nomatch hd
  · rw [seq_rowOf hx]; exact fun d hd => .inl (g d hd)
  · rw [seq_rowOf hx]; exact g
theorem Ey.en {x : D} (h : Ey x) : En x := ⟨Ey.pl h, Nat.le_trans (Ey.len h) (by decide), fun d hd => Bx.sm (Ey.mem h d hd)⟩
theorem Cq.pl {x : D} (h : Cq x) : ∃ n, Pl x n := lq_pl h
theorem Cq.len {x : D} (h : Cq x) : (seqOf x).length ≤ 20 := by
  rcases h with h | ⟨ds, hx, l, _⟩
  · rw [h.seq]; exact Nat.zero_le _
  · rw [seq_rowOf hx]; exact l
theorem Cq.mem {x : D} (h : Cq x) : ∀ d ∈ seqOf x, Ey d := by
  rcases h with h | ⟨ds, hx, l, g⟩
  · rw [h.seq]; exact fun d hd => nomatch hd
  · rw [seq_rowOf hx]; exact g
theorem Cq.ct {x : D} (h : Cq x) : Ct x := ⟨Cq.pl h, Nat.le_trans (Cq.len h) (by decide), fun e he => Ey.en (Cq.mem h e he)⟩
theorem Rq.pl {x : D} (h : Rq x) : ∃ n, Pl x n := by
  cases h with
  | lf h => exact h.pl
  | r0 h => exact pl_rowQ h
  | r1 h _ => exact pl_rowQ h
  | r2 h _ _ => exact pl_rowQ h
  | r3 h _ _ _ => exact pl_rowQ h
theorem Rq.len {x : D} (h : Rq x) : (seqOf x).length ≤ 3 := by
  cases h with
  | lf h => rw [h.seq]; exact Nat.zero_le _
  | r0 h => rw [seq_rowOf h]; exact Nat.zero_le _
  | r1 h _ => rw [seq_rowOf h]; exact (by decide : 1 ≤ 3)
  | r2 h _ _ => rw [seq_rowOf h]; exact (by decide : 2 ≤ 3)
  | r3 h _ _ _ => rw [seq_rowOf h]; exact Nat.le_refl 3
theorem Rq.two {x a b : D} (h : Rq x) (e : seqOf x = [a, b]) : Bx a ∧ Cq b := by
  cases h with
  | lf h => rw [h.seq] at e; cases e
  | r0 h => rw [seq_rowOf h] at e; cases e
  | r1 h _ => rw [seq_rowOf h] at e; cases e
  | r2 h ha hb => rw [seq_rowOf h] at e; cases e; exact ⟨ha, hb⟩
  | r3 h _ _ _ => rw [seq_rowOf h] at e; cases e
theorem Rq.rw {x : D} (h : Rq x) : Rw x := ⟨h.pl, Nat.le_trans h.len (by decide), fun a b e => by
  obtain ⟨ha, hb⟩ := h.two e
  exact ⟨Bx.pl ha, fun z q => Nat.le_trans (Bx.few ha z q) (by decide), Cq.ct hb⟩⟩
theorem rwp_of {y : D} {ds : List D} (hy : RowOf y ds) (hl : ds.length ≤ 8) (h : ∀ d ∈ ds, Rq d) : Rwp y ∧ Show y := by
  refine ⟨⟨pl_rowQ hy, by rw [seq_rowOf hy]; omega, by rw [seq_rowOf hy]; exact fun r hr => (h r hr).rw⟩, ?_⟩
  exact ((sz_row (m := 8) hy (fun d hd => (h d hd).sz) hl).le (m := 900000) (by decide) (Nat.le_refl _)).show (by decide) (by decide)
theorem rwp_lf {y : D} (h : Lf y) : Rwp y ∧ Show y := ⟨⟨h.pl, by rw [h.seq]; exact Nat.zero_le _, by rw [h.seq]; exact fun r hr => nomatch hr⟩, h.sz.show (by decide) (by decide)⟩
theorem Bx.neg {x : D} (h : Bx x) : Lf (.int (negV x)) := by
  rcases h with h | ⟨ds, hx, _, _⟩
  · cases h with
    | int i h => exact .int _ (by show (0 - i).natAbs < _; rw [Int.zero_sub, Int.natAbs_neg]; exact h)
    | non => exact .int _ (by decide)
    | bl b => exact .int _ (show (1 : Int).natAbs < 10 ^ 31 by decide)
    | str z h => exact .int _ (show (1 : Int).natAbs < 10 ^ 31 by decide)
  · rcases hx with rfl | rfl <;> exact .int _ (show (1 : Int).natAbs < 10 ^ 31 by decide)
theorem cmp_e : Cmp (.ro []) ∧ Cmp (.lst []) := ⟨⟨rfl, by simp [D.py, pyL, PyData.depth, PyData.depthAll]⟩, ⟨rfl, by simp [D.py, pyL, PyData.depth, PyData.depthAll]⟩⟩
theorem ey_two {a b : D} (ha : Bx a) (hb : Bx b) : Ey (.tup [a, b]) := .inr ⟨[a, b], .inr rfl, (show 2 ≤ 3 by decide), fun d hd => by
  simp only [List.mem_cons, List.not_mem_nil, or_false] at hd
  rcases hd with rfl | rfl
  · exact ha
  · exact hb⟩
theorem cq_lst {es : List D} (hl : es.length ≤ 20) (h : ∀ e ∈ es, Ey e) : Cq (.lst es) := .inr ⟨es, .inl rfl, hl, h⟩
theorem rq_two {a b : D} (ha : Bx a) (hb : Cq b) : Rq (.tup [a, b]) := .r2 (.inr rfl) ha hb
end KT

set_option Elab.async false
set_option linter.all false
set_option maxRecDepth 100000
set_option maxHeartbeats 0
set_option pp.deepTerms false
set_option pp.deepTerms.threshold 8


namespace KT
open PySem PySem.Spec PyProof.Rows L2 DL
/-! ### flat contents -/
theorem alt_any {t : TD} {i : Int} {e v : D} {ds : List D} {δ : DSt} {Q : DV → DSt → Prop} {E : XD} (hv : ∀ Q' : DV → DSt → Prop, Q' (.d e) δ → t δ Q' E) (he : RowOf e ds) (hi : atI ds i = some v) (k : Q (.d v) δ) : altD (opD ixD t (constD (.int i))) (opD (fun a b Q => ∃ xs i d, a = D.tup xs ∧ b = D.int i ∧ atI xs i = some d ∧ Q (DV.d d)) t (constD (.int i))) δ Q E := by
  rcases he with rfl | rfl
  · exact .inl (DR.op (hv _ (DR.const ⟨i, rfl, _, v, .inl rfl, hi, k⟩)))
  · exact .inr (DR.op (hv _ (DR.const ⟨_, i, v, rfl, rfl, hi, k⟩)))
theorem isL_row {a b : Int} {x : D} (h : isL a b x = true) : RowOf x (seqOf x) ∧ a ≤ ((seqOf x).length : Int) ∧ ((seqOf x).length : Int) ≤ b := by
  unfold isL at h
  rw [Bool.and_eq_true, Bool.and_eq_true] at h
  refine ⟨?_, of_decide_eq_true h.2.1, of_decide_eq_true h.2.2⟩
  cases x <;> first | exact .inl rfl | exact .inr rfl | cases h.1
theorem isL_two {x : D} (h : isL 2 2 x = true) : ∃ a b, seqOf x = [a, b] ∧ RowOf x [a, b] := by
  obtain ⟨h1, h2, h3⟩ := isL_row h
  match q : seqOf x, h2, h3 with
  | [a, b], _, _ => exact ⟨a, b, rfl, by rw [← q]; exact h1⟩
  | [], h2, _ => rw [List.length_nil] at h2; omega
  | [_], h2, _ => rw [List.length_singleton] at h2; omega
  | _ :: _ :: _ :: _, _, h3 => simp only [List.length_cons] at h3; omega
theorem isL_one {x : D} (h : isL 1 1 x = true) : ∃ a, seqOf x = [a] ∧ RowOf x [a] := by
  obtain ⟨h1, h2, h3⟩ := isL_row h
  match q : seqOf x, h2, h3 with
  | [a], _, _ => exact ⟨a, rfl, by rw [← q]; exact h1⟩
  | [], h2, _ => rw [List.length_nil] at h2; omega
  | _ :: _ :: _, _, h3 => simp only [List.length_cons] at h3; omega
section
variable {P : Program} {w : World} {K : PySem.W.Frag} {mg : Str → Option Value} {base : Heap} {C OG BG BP BR PC NT BA ME : Addr}
def sdFlat : SpD := fun as Q _ => ∃ (ys rs : List D) (gs : List Str) (x : D), as = [.own (.lst ys), .d (.lst (gs.map .str)), .d (.lst rs), .d x] ∧ Bg ys ∧ rs.length ≤ 8 ∧ (∀ r ∈ rs, Rq r) ∧ Cq x ∧ ∀ (c : D) (ys : List D), Cq c → Bg ys → Q (.d c) [.lst ys]
abbrev s_law_flat : Stmt := top 49
theorem sc_law_flat : FnScope ["_law_bag_here", "_law_goods", "_law_ahead", "_law_contents", "_law_found", "_law_one"] ["_law_bag_here", "_law_goods", "_law_ahead", "_law_contents"] (defScope s_law_flat) := ⟨rfl, rfl, rfl, by decide +kernel, rfl, by decide +kernel, by decide +kernel⟩
theorem ok_lflat (D_law_is_list : DefD P w K mg base "_law_is_list" 1 ["_law_thing", "_law_least", "_law_most"] sdList) (D_law_negative : DefD P w K mg base "_law_negative" 1 ["_law_count"] sdNeg) (D_law_of : DefD P w K mg base "_law_of" 3 ["_law_bag_here", "_law_some"] sdOf) {f : Addr} {fd : FuncData} (G : Fun K "_law_flat" "_law_flat" s_law_flat f fd) (T : TxtN mg) : FnOk P w K mg base (L2.CX P w) 5 f fd ["_law_bag_here", "_law_goods", "_law_ahead", "_law_contents"] (spOf K sdFlat) := by
  refine okD G sc_law_flat [0] (fun as Q E ⟨ys, rs, gs, x, e, _⟩ => by subst e; exact ⟨rfl, rfl⟩) ⟨_, fun cdv A outer s H E ad F0 H0 hr => (pds_cons (psd_setO (i := 4) (pd_lst (fun h => pe_lst h) pda_nil) (by show ¬ (4 ∈ ([0] : List Nat)); decide) sc_law_flat.nd rfl (.inl rfl))
      (pds_cons (psd_for (passes_of rfl) rfl (pid_list (pd_var (pv 2))) (pgd_name (i := 5) (vs := [5]) (pg_name (i := 5) sc_law_flat.nd rfl (.inl rfl)) (by show ¬ (5 ∈ ([0] : List Nat)); decide) (by decide))
      (pds_one (psd_if (PW.pt (pwd_and (ptd_val (pd_call D_law_is_list.ok (hr.mono (by decide)) (by rfl) D_law_is_list.mg D_law_is_list.kp D_law_is_list.b (takes_of rfl rfl rfl rfl) (pda_cons (pd_var (pv 5)) (pda_cons (pd_const pe_int (fun _ => .int _)) (pda_cons (pd_const pe_int (fun _ => .int _)) pda_nil)))) (fun h => pt_val h)) (pwd_and (ptd_val (pd_call D_law_is_list.ok (hr.mono (by decide)) (by rfl) D_law_is_list.mg D_law_is_list.kp D_law_is_list.b (takes_of rfl rfl rfl rfl) (pda_cons (pd_orE (pd_ix ix_list op2_ixL (pd_var (pv 5)) (pd_const pe_int (fun _ => .int _)) (fun _ _ => rfl)) (pd_ix ix_tup op2_ixT (pd_var (pv 5)) (pd_const pe_int (fun _ => .int _)) (fun _ _ => rfl))) (pda_cons (pd_const pe_int (fun _ => .int _)) (pda_cons (pd_const pe_int (fun _ => .int _)) pda_nil)))) (fun h => pt_val h)) (pwd_and1 (ptd_val (pd_call D_law_is_list.ok (hr.mono (by decide)) (by rfl) D_law_is_list.mg D_law_is_list.kp D_law_is_list.b (takes_of rfl rfl rfl rfl) (pda_cons (pd_orE (pd_ix ix_list op2_ixL (pd_orE (pd_ix ix_list op2_ixL (pd_var (pv 5)) (pd_const pe_int (fun _ => .int _)) (fun _ _ => rfl)) (pd_ix ix_tup op2_ixT (pd_var (pv 5)) (pd_const pe_int (fun _ => .int _)) (fun _ _ => rfl))) (pd_const pe_int (fun _ => .int _)) (fun _ _ => rfl)) (pd_ix ix_tup op2_ixT (pd_orE (pd_ix ix_list op2_ixL (pd_var (pv 5)) (pd_const pe_int (fun _ => .int _)) (fun _ _ => rfl)) (pd_ix ix_tup op2_ixT (pd_var (pv 5)) (pd_const pe_int (fun _ => .int _)) (fun _ _ => rfl))) (pd_const pe_int (fun _ => .int _)) (fun _ _ => rfl))) (pda_cons (pd_const pe_int (fun _ => .int _)) (pda_cons (pd_const pe_int (fun _ => .int _)) pda_nil)))) (fun h => pt_val h)))))) (pds_one (psd_expr (pd_methO (j := 4) (fun ho h => pe_bm PySem.F.plainAttrs_list PySem.F.slot_list_append PySem.F.type_list_append mt_append ho h) mo_append (pv 4) (pda_cons (pd_lst (fun h => pe_lst h) (pda_cons (pd_tup (fun h => pe_tup h) (pda_cons (pd_orE (pd_ix ix_list op2_ixL (pd_var (pv 5)) (pd_const pe_int (fun _ => .int _)) (fun _ _ => rfl)) (pd_ix ix_tup op2_ixT (pd_var (pv 5)) (pd_const pe_int (fun _ => .int _)) (fun _ _ => rfl))) (pda_cons (pd_const pe_int (fun _ => .int _)) pda_nil))) (pda_cons (pd_tup (fun h => pe_tup h) (pda_cons (pd_orE (pd_ix ix_list op2_ixL (pd_orE (pd_ix ix_list op2_ixL (pd_orE (pd_ix ix_list op2_ixL (pd_var (pv 5)) (pd_const pe_int (fun _ => .int _)) (fun _ _ => rfl)) (pd_ix ix_tup op2_ixT (pd_var (pv 5)) (pd_const pe_int (fun _ => .int _)) (fun _ _ => rfl))) (pd_const pe_int (fun _ => .int _)) (fun _ _ => rfl)) (pd_ix ix_tup op2_ixT (pd_orE (pd_ix ix_list op2_ixL (pd_var (pv 5)) (pd_const pe_int (fun _ => .int _)) (fun _ _ => rfl)) (pd_ix ix_tup op2_ixT (pd_var (pv 5)) (pd_const pe_int (fun _ => .int _)) (fun _ _ => rfl))) (pd_const pe_int (fun _ => .int _)) (fun _ _ => rfl))) (pd_const pe_int (fun _ => .int _)) (fun _ _ => rfl)) (pd_ix ix_tup op2_ixT (pd_orE (pd_ix ix_list op2_ixL (pd_orE (pd_ix ix_list op2_ixL (pd_var (pv 5)) (pd_const pe_int (fun _ => .int _)) (fun _ _ => rfl)) (pd_ix ix_tup op2_ixT (pd_var (pv 5)) (pd_const pe_int (fun _ => .int _)) (fun _ _ => rfl))) (pd_const pe_int (fun _ => .int _)) (fun _ _ => rfl)) (pd_ix ix_tup op2_ixT (pd_orE (pd_ix ix_list op2_ixL (pd_var (pv 5)) (pd_const pe_int (fun _ => .int _)) (fun _ _ => rfl)) (pd_ix ix_tup op2_ixT (pd_var (pv 5)) (pd_const pe_int (fun _ => .int _)) (fun _ _ => rfl))) (pd_const pe_int (fun _ => .int _)) (fun _ _ => rfl))) (pd_const pe_int (fun _ => .int _)) (fun _ _ => rfl))) (pda_cons (pd_call D_law_negative.ok (hr.mono (by decide)) (by rfl) D_law_negative.mg D_law_negative.kp D_law_negative.b (takes_of rfl rfl rfl rfl) (pda_cons (pd_orE (pd_ix ix_list op2_ixL (pd_orE (pd_ix ix_list op2_ixL (pd_orE (pd_ix ix_list op2_ixL (pd_var (pv 5)) (pd_const pe_int (fun _ => .int _)) (fun _ _ => rfl)) (pd_ix ix_tup op2_ixT (pd_var (pv 5)) (pd_const pe_int (fun _ => .int _)) (fun _ _ => rfl))) (pd_const pe_int (fun _ => .int _)) (fun _ _ => rfl)) (pd_ix ix_tup op2_ixT (pd_orE (pd_ix ix_list op2_ixL (pd_var (pv 5)) (pd_const pe_int (fun _ => .int _)) (fun _ _ => rfl)) (pd_ix ix_tup op2_ixT (pd_var (pv 5)) (pd_const pe_int (fun _ => .int _)) (fun _ _ => rfl))) (pd_const pe_int (fun _ => .int _)) (fun _ _ => rfl))) (pd_const pe_int (fun _ => .int _)) (fun _ _ => rfl)) (pd_ix ix_tup op2_ixT (pd_orE (pd_ix ix_list op2_ixL (pd_orE (pd_ix ix_list op2_ixL (pd_var (pv 5)) (pd_const pe_int (fun _ => .int _)) (fun _ _ => rfl)) (pd_ix ix_tup op2_ixT (pd_var (pv 5)) (pd_const pe_int (fun _ => .int _)) (fun _ _ => rfl))) (pd_const pe_int (fun _ => .int _)) (fun _ _ => rfl)) (pd_ix ix_tup op2_ixT (pd_orE (pd_ix ix_list op2_ixL (pd_var (pv 5)) (pd_const pe_int (fun _ => .int _)) (fun _ _ => rfl)) (pd_ix ix_tup op2_ixT (pd_var (pv 5)) (pd_const pe_int (fun _ => .int _)) (fun _ _ => rfl))) (pd_const pe_int (fun _ => .int _)) (fun _ _ => rfl))) (pd_const pe_int (fun _ => .int _)) (fun _ _ => rfl))) pda_nil)) pda_nil))) pda_nil))) pda_nil)))) pds_nil)))
      (pds_one (psd_ret (pd_ifExp (ptd_cmp (op_neX hr.units) op2_neX.op (pd_fvar (i := 4) (pv 4) (by show ¬ (4 ∈ ([0] : List Nat)); decide)) (pd_lst (fun h => pe_lst h) pda_nil) (nomark _)) (pd_call D_law_of.ok (hr.mono (by decide)) (by rfl) D_law_of.mg D_law_of.kp D_law_of.b (takes_of rfl rfl rfl rfl) (pda_own (i := 0) (pv 0) (pda_cons (pd_fvar (i := 4) (pv 4) (by show ¬ (4 ∈ ([0] : List Nat)); decide)) pda_nil))) (pd_var (pv 3))))))), ?_⟩
  rintro as Qd Ed ⟨ys, rs, gs, x, rfl, hb, hl, hrs, hx, k⟩
  refine DR.start (δ' := [some (.own (.lst ys)), some (.d (.lst (gs.map .str))), some (.d (.lst rs)), some (.d x), none, none]) rfl ?_
  walk_at "dd"
  refine DR.for_inv (fun i δ => ∃ (zs : List D) (p5 : Option DV), δ = [some (.own (.lst ys)), some (.d (.lst (gs.map .str))), some (.d (.lst rs)), some (.d x), some (.own (.lst zs)), p5] ∧ zs.length ≤ i ∧ ∀ z ∈ zs, Cq z) ⟨[], _, rfl, Nat.zero_le _, fun z hz => nomatch hz⟩ ?step ?fin
  case step =>
    rintro i e δ N he ⟨zs, p5, rfl, hi, hz⟩ kN
    have hem : e ∈ rs := List.mem_of_getElem? he
    have hq := hrs e hem
    obtain ⟨n, hn⟩ := hq.pl
    have skip_ : N [some (.own (.lst ys)), some (.d (.lst (gs.map .str))), some (.d (.lst rs)), some (.d x), some (.own (.lst zs)), some (.d e)] := kN _ ⟨zs, _, rfl, by omega, hz⟩
    walk_at "dd"
    refine ⟨e, n, 2, 2, rfl, hn, Nat.le_trans hq.len (by decide), ?_⟩
    cases q1 : isL 2 2 e with
    | false => walk_at "dd"; exact skip_
    | true =>
      obtain ⟨a, b, se, re⟩ := isL_two q1
      obtain ⟨ha, hbq⟩ := hq.two se
      obtain ⟨m, hm⟩ := Cq.pl hbq
      walk_at "dd"
      refine alt_any (fun _ h => DR.var rfl h) re rfl ?_
      walk_at "dd"
      refine ⟨b, m, 1, 1, rfl, hm, Nat.le_trans (Cq.len hbq) (by decide), ?_⟩
      cases q2 : isL 1 1 b with
      | false => walk_at "dd"; exact skip_
      | true =>
        obtain ⟨c, sc, rc⟩ := isL_one q2
        have hc := Cq.mem hbq c (by rw [sc]; exact List.mem_cons_self)
        obtain ⟨m2, hm2⟩ := Ey.pl hc
        walk_at "dd"
        refine alt_any (fun _ h => alt_any (fun _ h => DR.var rfl h) re rfl h) rc rfl ?_
        walk_at "dd"
        refine ⟨c, m2, 2, 2, rfl, hm2, Nat.le_trans (Ey.len hc) (by decide), ?_⟩
        cases q3 : isL 2 2 c with
        | false => walk_at "dd"; exact skip_
        | true =>
          obtain ⟨p, q, sp, rp⟩ := isL_two q3
          have hpp := Ey.mem hc p (by rw [sp]; exact List.mem_cons_self)
          have hqq := Ey.mem hc q (by rw [sp]; exact List.mem_cons_of_mem _ List.mem_cons_self)
          obtain ⟨m3, hm3⟩ := Bx.pl hqq
          walk_at "dd"
          refine alt_any (fun _ h => DR.var rfl h) re rfl ?_
          walk_at "dd"
          refine alt_any (fun _ h => alt_any (fun _ h => alt_any (fun _ h => DR.var rfl h) re rfl h) rc rfl h) rp rfl ?_
          walk_at "dd"
          refine alt_any (fun _ h => alt_any (fun _ h => alt_any (fun _ h => DR.var rfl h) re rfl h) rc rfl h) rp rfl ?_
          walk_at "dd"
          refine ⟨q, m3, rfl, hm3, ?_⟩
          walk_at "dd"
          have hil : i < rs.length := (List.getElem?_eq_some_iff.mp he).1
          refine ⟨[_], _, rfl, rfl, _, rfl, Nat.lt_of_le_of_lt (show zs.length ≤ 8 by omega) (by decide), ?_⟩
          refine kN _ ⟨zs ++ [.lst [.tup [a, .int 1], .tup [p, .int (negV q)]]], _, rfl, by rw [List.length_append, List.length_singleton]; omega, fun z hm => ?_⟩
          rcases List.mem_append.mp hm with hm | hm
          · exact hz z hm
          · rw [List.mem_singleton.mp hm]
            refine cq_lst (show 2 ≤ 20 by decide) fun e he => ?_
            simp only [List.mem_cons, List.not_mem_nil, or_false] at he
            rcases he with rfl | rfl
            · exact ey_two ha (.inl (.int _ (by decide)))
            · exact ey_two hpp (.inl (Bx.neg hqq))
  case fin =>
    rintro δ ⟨zs, p5, rfl, hi, hz⟩
    walk_at "dd"
    rcases zs with _ | ⟨z0, zs⟩
    · refine .inl (eqd_f (b := true) cmp_e.2 cmp_e.2 rfl ?_)
      walk_at "dd"
      exact k _ _ hx hb
    · refine .inr ⟨_, _, .inl rfl, .inl rfl, (by simp), ?_⟩
      walk_at "dd"
      refine ⟨ys, _, _, rfl, rfl, hb, Nat.zero_lt_succ _, Nat.lt_of_le_of_lt (show (z0 :: zs).length ≤ 8 by omega) (by decide), fun c ys hc hb => ?_⟩
      walk_at "dd"
      exact k _ _ (hz c hc) hb
end
end KT

set_option Elab.async false
set_option linter.all false
set_option maxRecDepth 100000
set_option maxHeartbeats 0
set_option pp.deepTerms false
set_option pp.deepTerms.threshold 8


namespace KT
open PySem PySem.Spec PyProof.Rows L2 DL
/-! ### a row that is spoilt -/
theorem cut_mem {xs : List D} {lo hi : Option Int} {d : D} (h : d ∈ DL.cutD xs lo hi) : d ∈ xs := List.mem_of_mem_drop (List.mem_of_mem_take h)
theorem cut_len {xs : List D} {lo hi : Option Int} : (DL.cutD xs lo hi).length ≤ xs.length := by
  unfold DL.cutD
  rw [List.length_take, List.length_drop]
  omega
theorem atI_id {xs : List D} {i : Nat} {x : D} (h : xs[i]? = some x) : atI xs (i : Int) = some x := by
  have := atI_map (f := id) h
  rwa [List.map_id] at this
theorem bx_good {gs : List Str} (hg : Goods gs) : ∀ d ∈ gs.map D.str, Bx d := fun d hd => by
  obtain ⟨g, h, rfl⟩ := List.mem_map.mp hd
  exact .inl (.str _ (Nat.le_trans (hg.2.2.2 g h).2.2.1 (by decide)))
theorem put_l1 {cs : List D} (h : cs.length ≤ 4) {a b : Option Int} {v : D} : (DL.cutD cs a b).length + [v].length ≤ sizeLine := Nat.le_trans (show (DL.cutD cs a b).length + 1 ≤ 20 by have := @cut_len cs a b; omega) (by decide)
theorem put_l2 {cs : List D} (h : cs.length ≤ 4) {a b a2 b2 : Option Int} {v : D} : (DL.cutD cs a b ++ [v]).length + (DL.cutD cs a2 b2).length ≤ sizeLine := Nat.le_trans (show (DL.cutD cs a b ++ [v]).length + (DL.cutD cs a2 b2).length ≤ 20 by have := @cut_len cs a b; have := @cut_len cs a2 b2; rw [List.length_append, List.length_singleton]; omega) (by decide)
theorem cq_put {cs : List D} (h : cs.length ≤ 4) (hes : ∀ e ∈ cs, Ey e) {a b a2 b2 : Option Int} {v : D} (hv : Ey v) : Cq (.lst (DL.cutD cs a b ++ [v] ++ DL.cutD cs a2 b2)) := by
  refine cq_lst (by have := @cut_len cs a b; have := @cut_len cs a2 b2; rw [List.length_append, List.length_append, List.length_singleton]; omega) fun d hd => ?_
  rcases List.mem_append.mp hd with hd | hd
  · rcases List.mem_append.mp hd with hd | hd
    · exact hes d (cut_mem hd)
    · rw [List.mem_singleton.mp hd]; exact hv
  · exact hes d (cut_mem hd)
theorem its_row {x : D} {ds : List D} (h : RowOf x ds) : D.its x = some ds := by rcases h with rfl | rfl <;> rfl
abbrev stP (ys : List D) (gs : List Str) (rs : List D) (p : Nat) (r : List (Option DV)) : DSt := [some (.own (.lst ys)), some (.d (.lst (gs.map .str))), some (.own (.lst rs)), some (.d (.int p))] ++ r
section
variable {P : Program} {w : World} {K : PySem.W.Frag} {mg : Str → Option Value} {base : Heap} {C OG BG BP BR PC NT BA ME : Addr}
def sdSpoilt : SpD := fun as Q _ => ∃ (ys rs : List D) (gs : List Str) (p : Nat), as = [.own (.lst ys), .d (.lst (gs.map .str)), .own (.lst rs), .d (.int p)] ∧ Bg ys ∧ Goods gs ∧ rs.length ≤ 8 ∧ p < rs.length ∧ (∀ r ∈ rs, Rq r) ∧ ∀ (c : D) (ys : List D), Rq c → Bg ys → Q (.d c) [.lst ys, .lst rs]
abbrev s_law_spoilt : Stmt := top 48
theorem sc_law_spoilt : FnScope ["_law_bag_here", "_law_goods", "_law_rows", "_law_place", "_law_row", "_law_name", "_law_contents", "_law_spot", "_law_way", "_law_entry", "_law_odd", "_law_later", "_law_count", "_law_one"] ["_law_bag_here", "_law_goods", "_law_rows", "_law_place"] (defScope s_law_spoilt) := ⟨rfl, rfl, rfl, by decide +kernel, rfl, by decide +kernel, by decide +kernel⟩
theorem ok_lspoilt (D_law_is_list : DefD P w K mg base "_law_is_list" 1 ["_law_thing", "_law_least", "_law_most"] sdList) (D_law_is_name : DefD P w K mg base "_law_is_name" 1 ["_law_thing"] sdNameX) (D_law_take : DefD P w K mg base "_law_take" 1 ["_law_bag_here", "_law_many"] sdTake) (D_law_of : DefD P w K mg base "_law_of" 3 ["_law_bag_here", "_law_some"] sdOf) (D_law_flat : DefD P w K mg base "_law_flat" 5 ["_law_bag_here", "_law_goods", "_law_ahead", "_law_contents"] sdFlat) {f : Addr} {fd : FuncData} (G : Fun K "_law_spoilt" "_law_spoilt" s_law_spoilt f fd) (T : TxtN mg) : FnOk P w K mg base (L2.CX P w) 7 f fd ["_law_bag_here", "_law_goods", "_law_rows", "_law_place"] (spOf K sdSpoilt) := by
  refine okD G sc_law_spoilt [0, 2] (fun as Q E ⟨ys, rs, gs, p, e, _⟩ => by subst e; exact ⟨rfl, rfl⟩) ⟨_, fun cdv A outer s H E ad F0 H0 hr => (pds_cons (psd_set (i := 4) (pd_ixO (i := 2) (pv 2) (pd_var (pv 3)) (fun _ _ => rfl)) (by show ¬ (4 ∈ ([0, 2] : List Nat)); decide) sc_law_spoilt.nd rfl (.inl rfl))
      (pds_cons (psd_if (PW.pt (pwd_or (ptd_not (ptd_val (pd_call D_law_is_list.ok (hr.mono (by decide)) (by rfl) D_law_is_list.mg D_law_is_list.kp D_law_is_list.b (takes_of rfl rfl rfl rfl) (pda_cons (pd_var (pv 4)) (pda_cons (pd_const pe_int (fun _ => .int _)) (pda_cons (pd_const pe_int (fun _ => .int _)) pda_nil)))) (fun h => pt_val h))) (pwd_or1 (ptd_not (ptd_val (pd_call D_law_is_list.ok (hr.mono (by decide)) (by rfl) D_law_is_list.mg D_law_is_list.kp D_law_is_list.b (takes_of rfl rfl rfl rfl) (pda_cons (pd_orE (pd_ix ix_list op2_ixL (pd_var (pv 4)) (pd_const pe_int (fun _ => .int _)) (fun _ _ => rfl)) (pd_ix ix_tup op2_ixT (pd_var (pv 4)) (pd_const pe_int (fun _ => .int _)) (fun _ _ => rfl))) (pda_cons (pd_const pe_int (fun _ => .int _)) (pda_cons (pd_const pe_int (fun _ => .int _)) pda_nil)))) (fun h => pt_val h)))))) (pds_one (psd_ret (pd_var (pv 4)))) pds_nil)
      (pds_cons (psd_par3 (i := 5) (j := 6) (l := 7) (oi := false) (oj := false) (ol := false) (pka_cons (pd_orE (pd_ix ix_list op2_ixL (pd_var (pv 4)) (pd_const pe_int (fun _ => .int _)) (fun _ _ => rfl)) (pd_ix ix_tup op2_ixT (pd_var (pv 4)) (pd_const pe_int (fun _ => .int _)) (fun _ _ => rfl))) (pka_cons (pd_builtB (fun h => pe_callTy call_list_of (by rfl) T.b_list (by decide +kernel) h) cn_list (pda_cons (pd_orE (pd_ix ix_list op2_ixL (pd_var (pv 4)) (pd_const pe_int (fun _ => .int _)) (fun _ _ => rfl)) (pd_ix ix_tup op2_ixT (pd_var (pv 4)) (pd_const pe_int (fun _ => .int _)) (fun _ _ => rfl))) pda_nil)) (pka_cons (pd_call D_law_take.ok (hr.mono (by decide)) (by rfl) D_law_take.mg D_law_take.kp D_law_take.b (takes_of rfl rfl rfl rfl) (pda_own (i := 0) (pv 0) (pda_cons (pd_builtB (fun h => pe_callB call_len_seq (by rfl) T.b_len (by decide +kernel) h) cn_len.op (pda_cons (pd_orE (pd_ix ix_list op2_ixL (pd_var (pv 4)) (pd_const pe_int (fun _ => .int _)) (fun _ _ => rfl)) (pd_ix ix_tup op2_ixT (pd_var (pv 4)) (pd_const pe_int (fun _ => .int _)) (fun _ _ => rfl))) pda_nil)) pda_nil))) pka_nil))) (by show ¬ (5 ∈ ([0, 2] : List Nat)); decide) (by show ¬ (6 ∈ ([0, 2] : List Nat)); decide) (by show ¬ (7 ∈ ([0, 2] : List Nat)); decide) (fun h => ps_par3 (i := 5) (j := 6) (l := 7) (by rfl) sc_law_spoilt.nd rfl rfl rfl (by decide) (by decide) (by decide) rfl rfl rfl h (by rfl)) (by decide) (by decide) (by decide))
      (pds_cons (psd_set (i := 8) (pd_call D_law_take.ok (hr.mono (by decide)) (by rfl) D_law_take.mg D_law_take.kp D_law_take.b (takes_of rfl rfl rfl rfl) (pda_own (i := 0) (pv 0) (pda_cons (pd_const pe_int (fun _ => .int _)) pda_nil))) (by show ¬ (8 ∈ ([0, 2] : List Nat)); decide) sc_law_spoilt.nd rfl (.inl rfl))
      (pds_cons (psd_if (ptd_cmp op_eq op2_eq.op (pd_var (pv 8)) (pd_const pe_int (fun _ => .int _)) (nomark _)) (pds_one (psd_ret (pd_call D_law_of.ok (hr.mono (by decide)) (by rfl) D_law_of.mg D_law_of.kp D_law_of.b (takes_of rfl rfl rfl rfl) (pda_own (i := 0) (pv 0) (pda_cons (pd_lst (fun h => pe_lst h) (pda_cons (pd_const pe_non (fun _ => .non)) (pda_cons (pd_tup (fun h => pe_tup h) pda_nil) (pda_cons (pd_tup (fun h => pe_tup h) (pda_cons (pd_var (pv 5)) pda_nil)) (pda_cons (pd_tup (fun h => pe_tup h) (pda_cons (pd_var (pv 5)) (pda_cons (pd_var (pv 6)) (pda_cons (pd_const pe_int (fun _ => .int _)) pda_nil)))) (pda_cons (pd_const pe_str (fun _ => .str (by decide +kernel))) (pda_cons (pd_const pe_int (fun _ => .int _)) (pda_cons (pd_const pe_bl (fun _ => .bl _)) pda_nil)))))))) pda_nil))))) pds_nil)
      (pds_cons (psd_if (ptd_cmp op_eq op2_eq.op (pd_var (pv 8)) (pd_const pe_int (fun _ => .int _)) (nomark _)) (pds_one (psd_ret (pd_tup (fun h => pe_tup h) (pda_cons (pd_call D_law_of.ok (hr.mono (by decide)) (by rfl) D_law_of.mg D_law_of.kp D_law_of.b (takes_of rfl rfl rfl rfl) (pda_own (i := 0) (pv 0) (pda_cons (pd_lst (fun h => pe_lst h) (pda_cons (pd_const pe_str (fun _ => .str (by decide +kernel))) (pda_cons (pd_const pe_str (fun _ => .str (by decide +kernel))) (pda_cons (pd_const pe_non (fun _ => .non)) (pda_cons (pd_const pe_int (fun _ => .int _)) (pda_cons (pd_const pe_str (fun _ => .str (by decide +kernel))) (pda_cons (pd_op op_mulT op2_mulT (pd_const pe_str (fun _ => .str (by decide +kernel))) (pd_const pe_int (fun _ => .int _))) (pda_cons (pd_lst (fun h => pe_lst h) (pda_cons (pd_const pe_str (fun _ => .str (by decide +kernel))) pda_nil)) (pda_cons (pd_tup (fun h => pe_tup h) (pda_cons (pd_const pe_str (fun _ => .str (by decide +kernel))) (pda_cons (pd_const pe_str (fun _ => .str (by decide +kernel))) pda_nil))) pda_nil))))))))) pda_nil))) (pda_cons (pd_var (pv 6)) pda_nil))))) pds_nil)
      (pds_cons (psd_if (ptd_cmp op_eq op2_eq.op (pd_var (pv 8)) (pd_const pe_int (fun _ => .int _)) (nomark _)) (pds_one (psd_ret (pd_tup (fun h => pe_tup h) (pda_cons (pd_call D_law_of.ok (hr.mono (by decide)) (by rfl) D_law_of.mg D_law_of.kp D_law_of.b (takes_of rfl rfl rfl rfl) (pda_own (i := 0) (pv 0) (pda_cons (pd_op op_cat op2_cat (pd_var (pv 1)) (pd_lc (own := [("_law_one", 13)]) (by rfl) sc_law_spoilt.nd (pid_list (pd_sliceO (i := 2) (pv 2) pod_none (pod_some (pd_var (pv 3))))) (blkOk_by (own := [("_law_one", 13)]) (N := ["_law_bag_here", "_law_goods", "_law_rows", "_law_place", "_law_row", "_law_name", "_law_contents", "_law_spot", "_law_way", "_law_entry", "_law_odd", "_law_later", "_law_count", "_law_one"]) (sc := defScope s_law_spoilt) (by decide +kernel)) (fun _ _ _ _ _ => (pgd_name (i := 13) (vs := [13]) (pg_name (i := 13) sc_law_spoilt.nd rfl (.inl rfl)) (by show ¬ (13 ∈ ([0, 2] : List Nat)); decide) (by decide))) (fun _ _ _ _ _ => (ptsd_one (ptd_val (pd_call D_law_is_list.ok (hr.mono (by decide)) (by rfl) D_law_is_list.mg D_law_is_list.kp D_law_is_list.b takes0 (pda_cons (pd_var (pv 13)) (pda_cons (pd_const pe_int (fun _ => .int _)) (pda_cons (pd_const pe_int (fun _ => .int _)) pda_nil)))) (fun h => pt_val h)))) (fun _ _ _ _ _ => (pd_orE (pd_ix ix_list op2_ixL (pd_var (pv 13)) (pd_const pe_int (fun _ => .int _)) (fun _ _ => rfl)) (pd_ix ix_tup op2_ixT (pd_var (pv 13)) (pd_const pe_int (fun _ => .int _)) (fun _ _ => rfl)))) (by show ∀ i ∈ ([13] : List Nat), ¬ (i ∈ ([0, 2] : List Nat)); decide))) pda_nil))) (pda_cons (pd_var (pv 6)) pda_nil))))) pds_nil)
      (pds_cons (psd_if (ptd_cmp op_eq op2_eq.op (pd_var (pv 8)) (pd_const pe_int (fun _ => .int _)) (nomark _)) (pds_one (psd_ret (pd_tup (fun h => pe_tup h) (pda_cons (pd_var (pv 5)) (pda_cons (pd_call D_law_of.ok (hr.mono (by decide)) (by rfl) D_law_of.mg D_law_of.kp D_law_of.b (takes_of rfl rfl rfl rfl) (pda_own (i := 0) (pv 0) (pda_cons (pd_lst (fun h => pe_lst h) (pda_cons (pd_const pe_non (fun _ => .non)) (pda_cons (pd_tup (fun h => pe_tup h) pda_nil) (pda_cons (pd_lst (fun h => pe_lst h) pda_nil) (pda_cons (pd_const pe_int (fun _ => .int _)) (pda_cons (pd_const pe_str (fun _ => .str (by decide +kernel))) (pda_cons (pd_op op_cat op2_cat (pd_op op_cat op2_cat (pd_op op_cat op2_cat (pd_op op_cat op2_cat (pd_var (pv 6)) (pd_var (pv 6))) (pd_var (pv 6))) (pd_var (pv 6))) (pd_var (pv 6))) pda_nil))))))) pda_nil))) pda_nil))))) pds_nil)
      (pds_cons (psd_set (i := 9) (pd_ix ix_list op2_ixL (pd_var (pv 6)) (pd_var (pv 7)) (fun _ _ => rfl)) (by show ¬ (9 ∈ ([0, 2] : List Nat)); decide) sc_law_spoilt.nd rfl (.inl rfl))
      (pds_cons (psd_if (ptd_not (ptd_val (pd_call D_law_is_list.ok (hr.mono (by decide)) (by rfl) D_law_is_list.mg D_law_is_list.kp D_law_is_list.b (takes_of rfl rfl rfl rfl) (pda_cons (pd_var (pv 9)) (pda_cons (pd_const pe_int (fun _ => .int _)) (pda_cons (pd_const pe_int (fun _ => .int _)) pda_nil)))) (fun h => pt_val h))) (pds_one (psd_ret (pd_var (pv 4)))) pds_nil)
      (pds_cons (psd_if (ptd_cmp op_lt (op2_I0 fun _ _ _ => .bl _) (pd_var (pv 8)) (pd_const pe_int (fun _ => .int _)) (nomark _)) (pds_cons (psd_set (i := 10) (pd_lst (fun h => pe_lst h) (pda_cons (pd_const pe_non (fun _ => .non)) (pda_cons (pd_tup (fun h => pe_tup h) pda_nil) (pda_cons (pd_tup (fun h => pe_tup h) (pda_cons (pd_orE (pd_ix ix_list op2_ixL (pd_var (pv 9)) (pd_const pe_int (fun _ => .int _)) (fun _ _ => rfl)) (pd_ix ix_tup op2_ixT (pd_var (pv 9)) (pd_const pe_int (fun _ => .int _)) (fun _ _ => rfl))) pda_nil)) (pda_cons (pd_tup (fun h => pe_tup h) (pda_cons (pd_orE (pd_ix ix_list op2_ixL (pd_var (pv 9)) (pd_const pe_int (fun _ => .int _)) (fun _ _ => rfl)) (pd_ix ix_tup op2_ixT (pd_var (pv 9)) (pd_const pe_int (fun _ => .int _)) (fun _ _ => rfl))) (pda_cons (pd_const pe_int (fun _ => .int _)) (pda_cons (pd_const pe_int (fun _ => .int _)) pda_nil)))) (pda_cons (pd_const pe_int (fun _ => .int _)) (pda_cons (pd_const pe_str (fun _ => .str (by decide +kernel))) (pda_cons (pd_tup (fun h => pe_tup h) (pda_cons (pd_const pe_str (fun _ => .str (by decide +kernel))) (pda_cons (pd_const pe_int (fun _ => .int _)) pda_nil))) (pda_cons (pd_tup (fun h => pe_tup h) (pda_cons (pd_const pe_str (fun _ => .str (by decide +kernel))) (pda_cons (pd_const pe_int (fun _ => .int _)) pda_nil))) (pda_cons (pd_tup (fun h => pe_tup h) (pda_cons (pd_var (pv 5)) (pda_cons (pd_const pe_int (fun _ => .int _)) pda_nil))) (pda_cons (pd_tup (fun h => pe_tup h) (pda_cons (pd_lst (fun h => pe_lst h) pda_nil) (pda_cons (pd_const pe_int (fun _ => .int _)) pda_nil))) (pda_cons (pd_tup (fun h => pe_tup h) (pda_cons (pd_const pe_non (fun _ => .non)) (pda_cons (pd_const pe_int (fun _ => .int _)) pda_nil))) pda_nil)))))))))))) (by show ¬ (10 ∈ ([0, 2] : List Nat)); decide) sc_law_spoilt.nd rfl (.inl rfl))
      (pds_cons (psd_setLc (i := 11) (o := false) (own := [("_law_one", 13)]) (by show ¬ (11 ∈ ([0, 2] : List Nat)); decide) (by rfl) sc_law_spoilt.nd rfl rfl (sw_true rfl rfl rfl (by decide +kernel)) (pid_list (pd_sliceO (i := 2) (pv 2) (pod_some (pd_var (pv 3))) pod_none)) (blkOk_by (own := [("_law_one", 13)]) (N := ["_law_bag_here", "_law_goods", "_law_rows", "_law_place", "_law_row", "_law_name", "_law_contents", "_law_spot", "_law_way", "_law_entry", "_law_odd", "_law_later", "_law_count", "_law_one"]) (sc := defScope s_law_spoilt) (by decide +kernel)) (fun _ _ _ _ _ => (pgd_name (i := 13) (vs := [13]) (pg_name (i := 13) sc_law_spoilt.nd rfl (.inl rfl)) (by show ¬ (13 ∈ ([0, 2] : List Nat)); decide) (by decide))) (fun _ _ _ _ _ => (ptsd_one (PW.pt (pwd_and (ptd_val (pd_call D_law_is_list.ok (hr.mono (by decide)) (by rfl) D_law_is_list.mg D_law_is_list.kp D_law_is_list.b takes0 (pda_cons (pd_var (pv 13)) (pda_cons (pd_const pe_int (fun _ => .int _)) (pda_cons (pd_const pe_int (fun _ => .int _)) pda_nil)))) (fun h => pt_val h)) (pwd_and1 (ptd_val (pd_call D_law_is_name.ok (hr.mono (by decide)) (by rfl) D_law_is_name.mg D_law_is_name.kp D_law_is_name.b takes0 (pda_cons (pd_orE (pd_ix ix_list op2_ixL (pd_var (pv 13)) (pd_const pe_int (fun _ => .int _)) (fun _ _ => rfl)) (pd_ix ix_tup op2_ixT (pd_var (pv 13)) (pd_const pe_int (fun _ => .int _)) (fun _ _ => rfl))) pda_nil)) (fun h => pt_val h))))))) (fun _ _ _ _ _ => (pd_tup (fun h => pe_tup h) (pda_cons (pd_orE (pd_ix ix_list op2_ixL (pd_var (pv 13)) (pd_const pe_int (fun _ => .int _)) (fun _ _ => rfl)) (pd_ix ix_tup op2_ixT (pd_var (pv 13)) (pd_const pe_int (fun _ => .int _)) (fun _ _ => rfl))) (pda_cons (pd_const pe_int (fun _ => .int _)) pda_nil)))) (by show ∀ i ∈ ([13] : List Nat), ¬ (i ∈ ([0, 2] : List Nat)); decide))
      (pds_one (psd_ret (pd_tup (fun h => pe_tup h) (pda_cons (pd_var (pv 5)) (pda_cons (pd_op op_cat op2_cat (pd_op op_cat op2_cat (pd_slice (pd_var (pv 6)) pod_none (pod_some (pd_var (pv 7)))) (pd_lst (fun h => pe_lst h) (pda_cons (pd_call D_law_of.ok (hr.mono (by decide)) (by rfl) D_law_of.mg D_law_of.kp D_law_of.b (takes_of rfl rfl rfl rfl) (pda_own (i := 0) (pv 0) (pda_cons (pd_op op_cat op2_cat (pd_var (pv 10)) (pd_var (pv 11))) pda_nil))) pda_nil))) (pd_slice (pd_var (pv 6)) (pod_some (pd_op op_add (op2_I0 fun _ _ _ => .int _) (pd_var (pv 7)) (pd_const pe_int (fun _ => .int _)))) pod_none)) pda_nil))))))) pds_nil)
      (pds_cons (psd_if (ptd_cmp op_lt (op2_I0 fun _ _ _ => .bl _) (pd_var (pv 8)) (pd_const pe_int (fun _ => .int _)) (nomark _)) (pds_one (psd_ret (pd_tup (fun h => pe_tup h) (pda_cons (pd_var (pv 5)) (pda_cons (pd_ifExp (ptd_cmp op_lt (op2_I0 fun _ _ _ => .bl _) (pd_builtB (fun h => pe_callB call_len_seq (by rfl) T.b_len (by decide +kernel) h) cn_len.op (pda_cons (pd_var (pv 6)) pda_nil)) (pd_const pe_int (fun _ => .int _)) (nomark _)) (pd_slice (pd_op op_cat op2_cat (pd_var (pv 6)) (pd_lst (fun h => pe_lst h) (pda_cons (pd_var (pv 9)) pda_nil))) (pod_some (pd_neg (pd_const pe_int (fun _ => .int _)))) pod_none) (pd_op op_cat op2_cat (pd_lst (fun h => pe_lst h) (pda_cons (pd_var (pv 9)) pda_nil)) (pd_slice (pd_var (pv 6)) pod_none (pod_some (pd_const pe_int (fun _ => .int _)))))) pda_nil))))) pds_nil)
      (pds_cons (psd_if (ptd_cmp op_lt (op2_I0 fun _ _ _ => .bl _) (pd_var (pv 8)) (pd_const pe_int (fun _ => .int _)) (nomark _)) (pds_cons (psd_set (i := 12) (pd_call D_law_of.ok (hr.mono (by decide)) (by rfl) D_law_of.mg D_law_of.kp D_law_of.b (takes_of rfl rfl rfl rfl) (pda_own (i := 0) (pv 0) (pda_cons (pd_lst (fun h => pe_lst h) (pda_cons (pd_const pe_int (fun _ => .int _)) (pda_cons (pd_const pe_int (fun _ => .int _)) (pda_cons (pd_neg (pd_const pe_int (fun _ => .int _))) (pda_cons (pd_op op_pow (op2_I fun _ _ _ => .int _) (pd_const pe_int (fun _ => .int _)) (pd_const pe_int (fun _ => .int _))) (pda_cons (pd_const pe_non (fun _ => .non)) (pda_cons (pd_const pe_bl (fun _ => .bl _)) (pda_cons (pd_const pe_bl (fun _ => .bl _)) (pda_cons (pd_const pe_str (fun _ => .str (by decide +kernel))) (pda_cons (pd_tup (fun h => pe_tup h) (pda_cons (pd_const pe_int (fun _ => .int _)) pda_nil)) (pda_cons (pd_lst (fun h => pe_lst h) (pda_cons (pd_const pe_int (fun _ => .int _)) pda_nil)) pda_nil))))))))))) pda_nil))) (by show ¬ (12 ∈ ([0, 2] : List Nat)); decide) sc_law_spoilt.nd rfl (.inl rfl))
      (pds_one (psd_ret (pd_tup (fun h => pe_tup h) (pda_cons (pd_var (pv 5)) (pda_cons (pd_op op_cat op2_cat (pd_op op_cat op2_cat (pd_slice (pd_var (pv 6)) pod_none (pod_some (pd_var (pv 7)))) (pd_lst (fun h => pe_lst h) (pda_cons (pd_tup (fun h => pe_tup h) (pda_cons (pd_orE (pd_ix ix_list op2_ixL (pd_var (pv 9)) (pd_const pe_int (fun _ => .int _)) (fun _ _ => rfl)) (pd_ix ix_tup op2_ixT (pd_var (pv 9)) (pd_const pe_int (fun _ => .int _)) (fun _ _ => rfl))) (pda_cons (pd_var (pv 12)) pda_nil))) pda_nil))) (pd_slice (pd_var (pv 6)) (pod_some (pd_op op_add (op2_I0 fun _ _ _ => .int _) (pd_var (pv 7)) (pd_const pe_int (fun _ => .int _)))) pod_none)) pda_nil)))))) pds_nil)
      (pds_one (psd_ret (pd_tup (fun h => pe_tup h) (pda_cons (pd_var (pv 5)) (pda_cons (pd_call D_law_flat.ok (hr.mono (by decide)) (by rfl) D_law_flat.mg D_law_flat.kp D_law_flat.b (takes_of rfl rfl rfl rfl) (pda_own (i := 0) (pv 0) (pda_cons (pd_var (pv 1)) (pda_cons (pd_sliceO (i := 2) (pv 2) pod_none (pod_some (pd_var (pv 3)))) (pda_cons (pd_var (pv 6)) pda_nil))))) pda_nil)))))))))))))))))), ?_⟩
  rintro as Qd Ed ⟨ys, rs, gs, p, rfl, hb, hg, hl, hp, hrs, k⟩
  have hr : rs[p]? = some rs[p] := List.getElem?_eq_getElem hp
  generalize rs[p] = r at hr
  have hq := hrs r (List.mem_of_getElem? hr)
  obtain ⟨n, hn⟩ := hq.pl
  refine DR.start (δ' := stP ys gs rs p [none, none, none, none, none, none, none, none, none, none]) rfl ?_
  with_reducible refine DR.cut (fun δ => δ = stP ys gs rs p [some (.d r), none, none, none, none, none, none, none, none, none]) (fun N kN => ?_) ?_
  · walk_at "dd"
    exact ⟨rs, p, r, rfl, rfl, atI_id hr, kN _ rfl⟩
  rintro δ rfl
  with_reducible refine DR.cut (fun δ => δ = stP ys gs rs p [some (.d r), none, none, none, none, none, none, none, none, none] ∧ ∃ a b, RowOf r [a, b] ∧ Bx a ∧ Cq b ∧ isL 1 4 b = true) (fun N kN => ?_) ?_
  · walk_at "dd"
    refine ⟨r, n, 2, 2, rfl, hn, Nat.le_trans hq.len (by decide), ?_⟩
    cases q1 : isL 2 2 r with
    | false => walk_at "dd"; exact k _ _ hq hb
    | true =>
      obtain ⟨a, b, se, re⟩ := isL_two q1
      obtain ⟨ha, hbq⟩ := hq.two se
      obtain ⟨m, hm⟩ := Cq.pl hbq
      walk_at "dd"
      refine alt_any (fun _ h => DR.var rfl h) re rfl ?_
      walk_at "dd"
      refine ⟨b, m, 1, 4, rfl, hm, Nat.le_trans (Cq.len hbq) (by decide), ?_⟩
      cases q2 : isL 1 4 b with
      | false => walk_at "dd"; exact k _ _ hq hb
      | true => walk_at "dd"; exact kN _ ⟨rfl, a, b, re, ha, hbq, q2⟩
  rintro δ ⟨rfl, a, b, re, ha, hbq, q2⟩
  obtain ⟨rb, l1, l4⟩ := isL_row q2
  have hes := Cq.mem hbq
  generalize seqOf b = cs at rb l1 l4 hes
  have l1 : 1 ≤ cs.length := by omega
  have l4 : cs.length ≤ 4 := by omega
  have hcq : Cq (.lst cs) := cq_lst (by omega) hes
  with_reducible refine DR.cut (fun δ => ∃ (ys : List D) (q : Nat), Bg ys ∧ q < cs.length ∧ δ = stP ys gs rs p [some (.d r), some (.d a), some (.d (.lst cs)), some (.d (.int q)), none, none, none, none, none, none]) (fun N kN => ?_) ?_
  · walk_at "dd"
    refine alt_any (fun _ h => DR.var rfl h) re rfl ?_
    walk_at "dd"
    refine alt_any (fun _ h => DR.var rfl h) re rfl ?_
    walk_at "dd"
    refine ⟨b, cs, rfl, its_row rb, ?_⟩
    walk_at "dd"
    refine alt_any (fun _ h => DR.var rfl h) re rfl ?_
    walk_at "dd"
    refine ⟨b, cs, rfl, its_row rb, ?_⟩
    walk_at "dd"
    refine take hb (by omega) (by omega) fun q ys q0 q1 hb => ?_
    walk_at "dd"
    obtain ⟨q, rfl⟩ := Int.eq_ofNat_of_zero_le q0
    exact ⟨_, _, _, rfl, kN _ ⟨ys, q, hb, by omega, rfl⟩⟩
  rintro δ ⟨ys, q, hb, hql, rfl⟩
  have he : cs[q]? = some cs[q] := List.getElem?_eq_getElem hql
  generalize cs[q] = e at he
  have hee := hes e (List.mem_of_getElem? he)
  with_reducible refine DR.cut (fun δ => ∃ (ys : List D) (m : Int), Bg ys ∧ δ = stP ys gs rs p [some (.d r), some (.d a), some (.d (.lst cs)), some (.d (.int q)), some (.d (.int m)), none, none, none, none, none]) (fun N kN => ?_) ?_
  · walk_at "dd"
    refine take hb (by decide) (by decide) fun m ys q0 q1 hb => ?_
    walk_at "dd"
    exact kN _ ⟨ys, m, hb, rfl⟩
  rintro δ ⟨ys, m, hb, rfl⟩
  with_reducible refine DR.cut (fun δ => δ = stP ys gs rs p [some (.d r), some (.d a), some (.d (.lst cs)), some (.d (.int q)), some (.d (.int m)), none, none, none, none, none]) (fun N kN => ?_) ?_
  · walk_at "dd"
    refine DR.split (fun c => ?_) (fun c => ?_)
    case refine_2 => walk_at "dd"; exact kN _ rfl
    walk_at "dd"
    refine ⟨[_, _, _, _, _, _, _], rfl, Nat.le_trans (show 7 ≤ 20 by decide) (by decide), ?_⟩
    walk_at "dd"
    refine ⟨ys, _, _, rfl, rfl, hb, Nat.zero_lt_succ _, (show 7 < 1000 by decide), fun c ys hc hb => ?_⟩
    walk_at "dd"
    refine k _ _ ?_ hb
    simp only [List.mem_cons, List.not_mem_nil, or_false] at hc
    rcases hc with rfl | rfl | rfl | rfl | rfl | rfl | rfl
    · exact .lf .non
    · exact .r0 (.inr rfl)
    · exact .r1 (.inr rfl) ha
    · exact .r3 (.inr rfl) ha hcq (.int _ (by decide))
    · exact .lf (.str _ (by decide))
    · exact .lf (.int _ (by decide))
    · exact .lf (.bl _)
  rintro δ rfl
  with_reducible refine DR.cut (fun δ => δ = stP ys gs rs p [some (.d r), some (.d a), some (.d (.lst cs)), some (.d (.int q)), some (.d (.int m)), none, none, none, none, none]) (fun N kN => ?_) ?_
  · walk_at "dd"
    refine DR.split (fun c => ?_) (fun c => ?_)
    case refine_2 => walk_at "dd"; exact kN _ rfl
    walk_at "dd"
    refine ⟨by decide, by decide, by decide, fun u hu => ?_⟩
    have hu : u.length = 13 := hu
    walk_at "dd"
    refine ⟨[_, _, _, _, _, _, _, _], rfl, Nat.le_trans (show 8 ≤ 20 by decide) (by decide), ?_⟩
    walk_at "dd"
    refine ⟨ys, _, _, rfl, rfl, hb, Nat.zero_lt_succ _, (show 8 < 1000 by decide), fun c ys hc hb => ?_⟩
    walk_at "dd"
    refine k _ _ (rq_two ?_ hcq) hb
    simp only [List.mem_cons, List.not_mem_nil, or_false] at hc
    rcases hc with rfl | rfl | rfl | rfl | rfl | rfl | rfl | rfl
    · exact .inl (.str _ (by decide))
    · exact .inl (.str _ (by decide))
    · exact .inl .non
    · exact .inl (.int _ (by decide))
    · exact .inl (.str _ (by decide))
    · exact .inl (.str _ (by omega))
    · exact .inr ⟨_, .inl rfl, (show 1 ≤ 3 by decide), fun d hd => by rw [List.mem_singleton.mp hd]; exact .str _ (by decide)⟩
    · exact .inr ⟨_, .inr rfl, (show 2 ≤ 3 by decide), fun d hd => by simp only [List.mem_cons, List.not_mem_nil, or_false] at hd; rcases hd with rfl | rfl <;> exact .str _ (by decide)⟩
  rintro δ rfl
  with_reducible refine DR.cut (fun δ => δ = stP ys gs rs p [some (.d r), some (.d a), some (.d (.lst cs)), some (.d (.int q)), some (.d (.int m)), none, none, none, none, none]) (fun N kN => ?_) ?_
  · walk_at "dd"
    refine DR.split (fun c => ?_) (fun c => ?_)
    case refine_2 => walk_at "dd"; exact kN _ rfl
    walk_at "dd"
    refine DR.slcO rfl ?_
    walk_at "dd"
    have hcl : (DL.cutD rs none (some (p : Int))).length ≤ 8 := Nat.le_trans cut_len hl
    refine DR.lc_inv (fun i acc δ => acc.length ≤ i ∧ (∀ z ∈ acc, Bx z) ∧ δ = stP ys gs rs p [some (.d r), some (.d a), some (.d (.lst cs)), some (.d (.int q)), some (.d (.int m)), none, none, none, none, none]) ⟨Nat.zero_le _, (fun z hz => nomatch hz), rfl⟩ ?_ ?_
    · rintro i x acc δ N2 hx ⟨hal, hac, rfl⟩ kN2
      have hxq := hrs x (cut_mem (List.mem_of_getElem? hx))
      have hil : i < 8 := Nat.lt_of_lt_of_le (List.getElem?_eq_some_iff.mp hx).1 hcl
      obtain ⟨n2, hn2⟩ := hxq.pl
      walk_at "dd"
      refine ⟨x, n2, 2, 2, rfl, hn2, Nat.le_trans hxq.len (by decide), ?_⟩
      cases q3 : isL 2 2 x with
      | false => walk_at "dd"; exact kN2 _ _ ⟨by omega, hac, rfl⟩
      | true =>
        obtain ⟨x1, x2, sx, rx⟩ := isL_two q3
        walk_at "dd"
        refine alt_any (fun _ h => DR.var rfl h) rx rfl ?_
        refine ⟨Nat.lt_of_le_of_lt (show acc.length ≤ 8 by omega) (by decide), kN2 _ _ ⟨by rw [List.length_append, List.length_singleton]; omega, fun z hz => ?_, rfl⟩⟩
        rcases List.mem_append.mp hz with hz | hz
        · exact hac z hz
        · rw [List.mem_singleton.mp hz]; exact (hxq.two sx).1
    rintro acc δ ⟨hal, hac, rfl⟩
    have hg5 := hg.2.2.1
    have hg1 := hg.2.1
    walk_at "dd"
    refine ⟨Nat.le_trans (show (gs.map D.str).length + acc.length ≤ 13 by rw [List.length_map]; omega) (by decide), ?_⟩
    walk_at "dd"
    refine ⟨ys, _, _, rfl, rfl, hb, by rw [List.length_append, List.length_map]; omega, by rw [List.length_append, List.length_map]; omega, fun c ys hc hb => ?_⟩
    walk_at "dd"
    refine k _ _ (rq_two ?_ hcq) hb
    rcases List.mem_append.mp hc with hc | hc
    · exact bx_good hg c hc
    · exact hac c hc
  rintro δ rfl
  with_reducible refine DR.cut (fun δ => δ = stP ys gs rs p [some (.d r), some (.d a), some (.d (.lst cs)), some (.d (.int q)), some (.d (.int m)), none, none, none, none, none]) (fun N kN => ?_) ?_
  · walk_at "dd"
    refine DR.split (fun c => ?_) (fun c => ?_)
    case refine_2 => walk_at "dd"; exact kN _ rfl
    walk_at "dd"
    refine ⟨Nat.le_trans (show cs.length + cs.length ≤ 20 by omega) (by decide), ?_⟩
    walk_at "dd"
    refine ⟨Nat.le_trans (show (cs ++ cs).length + cs.length ≤ 20 by rw [List.length_append]; omega) (by decide), ?_⟩
    walk_at "dd"
    refine ⟨Nat.le_trans (show (cs ++ cs ++ cs).length + cs.length ≤ 20 by rw [List.length_append, List.length_append]; omega) (by decide), ?_⟩
    walk_at "dd"
    refine ⟨Nat.le_trans (show (cs ++ cs ++ cs ++ cs).length + cs.length ≤ 20 by rw [List.length_append, List.length_append, List.length_append]; omega) (by decide), ?_⟩
    walk_at "dd"
    refine ⟨Nat.le_trans (show 6 ≤ 20 by decide) (by decide), ?_⟩
    walk_at "dd"
    refine ⟨ys, _, _, rfl, rfl, hb, Nat.zero_lt_succ _, (show 6 < 1000 by decide), fun c ys hc hb => ?_⟩
    walk_at "dd"
    refine k _ _ (rq_two ha ?_) hb
    simp only [List.mem_cons, List.not_mem_nil, or_false] at hc
    rcases hc with rfl | rfl | rfl | rfl | rfl | rfl
    · exact .inl .non
    · exact .inr ⟨[], .inr rfl, Nat.zero_le _, fun d hd => nomatch hd⟩
    · exact .inr ⟨[], .inl rfl, Nat.zero_le _, fun d hd => nomatch hd⟩
    · exact .inl (.int _ (by decide))
    · exact .inl (.str _ (by decide))
    · refine cq_lst (by simp only [List.length_append]; omega) fun d hd => ?_
      simp only [List.mem_append] at hd
      rcases hd with (((hd | hd) | hd) | hd) | hd <;> exact hes d hd
  rintro δ rfl
  with_reducible refine DR.cut (fun δ => δ = stP ys gs rs p [some (.d r), some (.d a), some (.d (.lst cs)), some (.d (.int q)), some (.d (.int m)), some (.d e), none, none, none, none]) (fun N kN => ?_) ?_
  · walk_at "dd"
    exact ⟨cs, e, .inl rfl, atI_id he, kN _ rfl⟩
  rintro δ rfl
  with_reducible refine DR.cut (fun δ => δ = stP ys gs rs p [some (.d r), some (.d a), some (.d (.lst cs)), some (.d (.int q)), some (.d (.int m)), some (.d e), none, none, none, none] ∧ ∃ x y, Bx x ∧ Bx y ∧ RowOf e [x, y]) (fun N kN => ?_) ?_
  · walk_at "dd"
    obtain ⟨n2, hn2⟩ := Ey.pl hee
    refine ⟨e, n2, 2, 2, rfl, hn2, Nat.le_trans (Ey.len hee) (by decide), ?_⟩
    cases q3 : isL 2 2 e with
    | false => walk_at "dd"; exact k _ _ hq hb
    | true =>
      obtain ⟨x, y, sx, rx⟩ := isL_two q3
      walk_at "dd"
      exact kN _ ⟨rfl, x, y, Ey.mem hee x (by rw [sx]; exact List.mem_cons_self), Ey.mem hee y (by rw [sx]; exact List.mem_cons_of_mem _ List.mem_cons_self), rx⟩
  rintro δ ⟨rfl, x, y, hx, hy, rx⟩
  with_reducible refine DR.cut (fun δ => δ = stP ys gs rs p [some (.d r), some (.d a), some (.d (.lst cs)), some (.d (.int q)), some (.d (.int m)), some (.d e), none, none, none, none]) (fun N kN => ?_) ?_
  · walk_at "dd"
    refine DR.split (fun c => ?_) (fun c => ?_)
    case refine_2 => walk_at "dd"; exact kN _ rfl
    with_reducible refine DR.cut (fun δ => ∃ od : List D, od.length = 11 ∧ (∀ d ∈ od, Ey d) ∧ δ = stP ys gs rs p [some (.d r), some (.d a), some (.d (.lst cs)), some (.d (.int q)), some (.d (.int m)), some (.d e), some (.d (.lst od)), none, none, none]) (fun N kN => ?_) ?_
    · walk_at "dd"
      refine alt_any (fun _ h => DR.var rfl h) rx rfl ?_
      walk_at "dd"
      refine alt_any (fun _ h => DR.var rfl h) rx rfl ?_
      walk_at "dd"
      refine ⟨[_, _, _, _, _, _, _, _, _, _, _], rfl, Nat.le_trans (show 11 ≤ 20 by decide) (by decide), ?_⟩
      walk_at "dd"
      have hodd : ∀ d ∈ [D.non, .tup [], .tup [x], .tup [x, .int 1, .int 1], .int 4, .str "ab", .tup [.str "cash", .int 1], .tup [.str "other", .int 1], .tup [a, .int 1], .tup [.lst [], .int 1], .tup [.non, .int 1]], Ey d := fun d hd => by
        simp only [List.mem_cons, List.not_mem_nil, or_false] at hd
        have i1 : Bx (.int 1) := .inl (.int _ (by decide))
        rcases hd with rfl | rfl | rfl | rfl | rfl | rfl | rfl | rfl | rfl | rfl | rfl
        · exact .inl (.inl .non)
        · exact .inr ⟨[], .inr rfl, Nat.zero_le _, fun d hd => nomatch hd⟩
        · exact .inr ⟨[x], .inr rfl, (show 1 ≤ 3 by decide), fun d hd => by rw [List.mem_singleton.mp hd]; exact hx⟩
        · exact .inr ⟨[x, .int 1, .int 1], .inr rfl, (show 3 ≤ 3 by decide), fun d hd => by
            simp only [List.mem_cons, List.not_mem_nil, or_false] at hd
            rcases hd with rfl | rfl | rfl
            · exact hx
            · exact i1
            · exact i1⟩
        · exact .inl (.inl (.int _ (by decide)))
        · exact .inl (.inl (.str _ (by decide)))
        · exact ey_two (.inl (.str _ (by decide))) i1
        · exact ey_two (.inl (.str _ (by decide))) i1
        · exact ey_two ha i1
        · exact ey_two (.inr ⟨[], .inl rfl, Nat.zero_le _, fun d hd => nomatch hd⟩) i1
        · exact ey_two (.inl .non) i1
      exact kN _ ⟨_, rfl, hodd, rfl⟩
    rintro δ ⟨od, hol, hod, rfl⟩
    with_reducible refine DR.cut (fun δ => ∃ lt : List D, lt.length ≤ 8 ∧ (∀ d ∈ lt, Ey d) ∧ δ = stP ys gs rs p [some (.d r), some (.d a), some (.d (.lst cs)), some (.d (.int q)), some (.d (.int m)), some (.d e), some (.d (.lst od)), some (.d (.lst lt)), none, none]) (fun N kN => ?_) ?_
    · walk_at "dd"
      refine DR.slcO rfl ?_
      walk_at "dd"
      have hcl : (DL.cutD rs (some (p : Int)) none).length ≤ 8 := Nat.le_trans cut_len hl
      refine DR.lc_inv (fun i acc δ => acc.length ≤ i ∧ (∀ z ∈ acc, Ey z) ∧ δ = stP ys gs rs p [some (.d r), some (.d a), some (.d (.lst cs)), some (.d (.int q)), some (.d (.int m)), some (.d e), some (.d (.lst od)), none, none, none]) ⟨Nat.zero_le _, (fun z hz => nomatch hz), rfl⟩ ?_ ?_
      · rintro i z acc δ N2 hz ⟨hal, hac, rfl⟩ kN2
        have hzq := hrs z (cut_mem (List.mem_of_getElem? hz))
        have hil : i < 8 := Nat.lt_of_lt_of_le (List.getElem?_eq_some_iff.mp hz).1 hcl
        obtain ⟨n2, hn2⟩ := hzq.pl
        walk_at "dd"
        refine ⟨z, n2, 2, 2, rfl, hn2, Nat.le_trans hzq.len (by decide), ?_⟩
        cases q3 : isL 2 2 z with
        | false => walk_at "dd"; exact kN2 _ _ ⟨by omega, hac, rfl⟩
        | true =>
          obtain ⟨x1, x2, sx, rz⟩ := isL_two q3
          have hx1 := (hzq.two sx).1
          obtain ⟨n3, hn3⟩ := Bx.pl hx1
          walk_at "dd"
          refine alt_any (fun _ h => DR.var rfl h) rz rfl ?_
          walk_at "dd"
          refine ⟨x1, n3, rfl, hn3, (fun y hy => Nat.le_trans (Bx.few hx1 y hy) (by decide)), ?_⟩
          cases nmD x1 with
          | false => walk_at "dd"; exact kN2 _ _ ⟨by omega, hac, rfl⟩
          | true =>
            walk_at "dd"
            refine alt_any (fun _ h => DR.var rfl h) rz rfl ?_
            walk_at "dd"
            refine ⟨Nat.lt_of_le_of_lt (show acc.length ≤ 8 by omega) (by decide), kN2 _ _ ⟨by rw [List.length_append, List.length_singleton]; omega, fun z hz => ?_, rfl⟩⟩
            rcases List.mem_append.mp hz with hz | hz
            · exact hac z hz
            · rw [List.mem_singleton.mp hz]; exact ey_two hx1 (.inl (.int _ (by decide)))
      rintro acc δ ⟨hal, hac, rfl⟩
      exact kN _ ⟨acc, Nat.le_trans hal hcl, hac, rfl⟩
    rintro δ ⟨lt, hll, hlt, rfl⟩
    walk_at "dd"
    refine ⟨Nat.le_trans (show od.length + lt.length ≤ 20 by omega) (by decide), ?_⟩
    walk_at "dd"
    refine ⟨ys, _, _, rfl, rfl, hb, by rw [List.length_append]; omega, by rw [List.length_append]; omega, fun c ys hc hb => ?_⟩
    have hcb : Ey c := by
      rcases List.mem_append.mp hc with hc | hc
      · exact hod c hc
      · exact hlt c hc
    walk_at "dd"
    refine ⟨put_l1 l4, ?_⟩
    walk_at "dd"
    refine ⟨put_l2 l4, ?_⟩
    walk_at "dd"
    exact k _ _ (rq_two ha (cq_put l4 hes hcb)) hb
  rintro δ rfl
  with_reducible refine DR.cut (fun δ => δ = stP ys gs rs p [some (.d r), some (.d a), some (.d (.lst cs)), some (.d (.int q)), some (.d (.int m)), some (.d e), none, none, none, none]) (fun N kN => ?_) ?_
  · walk_at "dd"
    refine DR.split (fun c => ?_) (fun c => ?_)
    case refine_2 => walk_at "dd"; exact kN _ rfl
    walk_at "dd"
    refine DR.split (fun c2 => ?_) (fun c2 => ?_)
    · walk_at "dd"
      refine ⟨Nat.le_trans (show cs.length + 1 ≤ 20 by omega) (by decide), ?_⟩
      walk_at "dd"
      refine k _ _ (rq_two ha (cq_lst (Nat.le_trans cut_len (by rw [List.length_append, List.length_singleton]; omega)) fun d hd => ?_)) hb
      rcases List.mem_append.mp (cut_mem hd) with hd | hd
      · exact hes d hd
      · rw [List.mem_singleton.mp hd]; exact hee
    · walk_at "dd"
      refine ⟨Nat.le_trans (show 1 + (DL.cutD cs none (some 3)).length ≤ 20 by have := @cut_len cs none (some 3); omega) (by decide), ?_⟩
      walk_at "dd"
      refine k _ _ (rq_two ha (cq_lst (by rw [List.length_append, List.length_singleton]; have := @cut_len cs none (some 3); omega) fun d hd => ?_)) hb
      rcases List.mem_append.mp hd with hd | hd
      · rw [List.mem_singleton.mp hd]; exact hee
      · exact hes d (cut_mem hd)
  rintro δ rfl
  with_reducible refine DR.cut (fun δ => δ = stP ys gs rs p [some (.d r), some (.d a), some (.d (.lst cs)), some (.d (.int q)), some (.d (.int m)), some (.d e), none, none, none, none]) (fun N kN => ?_) ?_
  · walk_at "dd"
    refine DR.split (fun c => ?_) (fun c => ?_)
    case refine_2 => walk_at "dd"; exact kN _ rfl
    walk_at "dd"
    refine ⟨⟨by decide, by decide, by decide⟩, ?_⟩
    walk_at "dd"
    refine ⟨[_, _, _, _, _, _, _, _, _, _], rfl, Nat.le_trans (show 10 ≤ 20 by decide) (by decide), ?_⟩
    walk_at "dd"
    refine ⟨ys, _, _, rfl, rfl, hb, Nat.zero_lt_succ _, (show 10 < 1000 by decide), fun c ys hc hb => ?_⟩
    walk_at "dd"
    refine alt_any (fun _ h => DR.var rfl h) rx rfl ?_
    walk_at "dd"
    have hcb : Bx c := by
      simp only [List.mem_cons, List.not_mem_nil, or_false] at hc
      rcases hc with rfl | rfl | rfl | rfl | rfl | rfl | rfl | rfl | rfl | rfl
      · exact .inl (.int _ (by decide))
      · exact .inl (.int _ (by decide))
      · exact .inl (.int _ (by decide))
      · exact .inl (.int _ (by decide))
      · exact .inl .non
      · exact .inl (.bl _)
      · exact .inl (.bl _)
      · exact .inl (.str _ (by decide))
      · exact .inr ⟨_, .inr rfl, (show 1 ≤ 3 by decide), fun d hd => by rw [List.mem_singleton.mp hd]; exact .int _ (by decide)⟩
      · exact .inr ⟨_, .inl rfl, (show 1 ≤ 3 by decide), fun d hd => by rw [List.mem_singleton.mp hd]; exact .int _ (by decide)⟩
    refine ⟨put_l1 l4, ?_⟩
    walk_at "dd"
    refine ⟨put_l2 l4, ?_⟩
    walk_at "dd"
    exact k _ _ (rq_two ha (cq_put l4 hes (ey_two hx hcb))) hb
  rintro δ rfl
  walk_at "dd"
  refine DR.slcO rfl ?_
  walk_at "dd"
  refine ⟨ys, DL.cutD rs none (some (p : Int)), gs, .lst cs, rfl, hb, Nat.le_trans cut_len hl, (fun r hr => hrs r (cut_mem hr)), hcq, fun c ys hc hb => ?_⟩
  walk_at "dd"
  exact k _ _ (rq_two ha hc) hb
end
end KT

set_option Elab.async false
set_option linter.all false
set_option maxRecDepth 100000
set_option maxHeartbeats 0
set_option pp.deepTerms false
set_option pp.deepTerms.threshold 8


namespace KT
open PySem PySem.Spec PyProof.Rows L2 DL
/-- goods and rows as parcels hold them -/
structure Pok (gs : List Str) (rs : List Row) : Prop where
  goods : Goods gs
  few : rs.length ≤ 6
  rows : RowsOk gs.length (tab0 gs gs.length) rs
theorem tabOf_ext {n : Nat} : ∀ {rs : List Row} {tb : Tb}, ∃ l, tabOf n tb rs = tb ++ l
  | [], tb => ⟨[], (List.append_nil _).symm⟩
  | r :: rs, tb => by
    obtain ⟨l, e⟩ := tabOf_ext (rs := rs) (tb := tb ++ [(r.1, sumV n tb r.2)])
    exact ⟨(r.1, sumV n tb r.2) :: l, by show tabOf n (tb ++ _) rs = _; rw [e, List.append_assoc]; rfl⟩
theorem RowsOk_mem {n : Nat} : ∀ {rs : List Row} {tb : Tb}, RowsOk n tb rs → ∀ {r : Row}, r ∈ rs → Cont ((tabOf n tb rs).map (·.1)) r.2
  | r :: rs, tb, h, r', hr => by
    obtain ⟨l, e⟩ := tabOf_ext (n := n) (rs := rs) (tb := tb ++ [(r.1, sumV n tb r.2)])
    rcases List.mem_cons.mp hr with rfl | hr
    · obtain ⟨c1, c2, c3, c4⟩ := h.1.2.2.1
      refine ⟨c1, c2, c3, fun c hc => ⟨?_, (c4 c hc).2⟩⟩
      show c.1 ∈ (tabOf n (tb ++ _) rs).map (·.1)
      rw [e, List.append_assoc, List.map_append]
      exact List.mem_append_left _ (c4 c hc).1
    · exact RowsOk_mem h.2 hr
theorem Pok.nm {gs : List Str} {rs : List Row} (h : Pok gs rs) : ∀ x ∈ gs ++ rs.map (·.1), x ≠ "cash" ∧ 1 ≤ x.length ∧ x.length ≤ 12 ∧ Low x := fun x hx => by
  rcases List.mem_append.mp hx with hx | hx
  · exact h.goods.2.2.2 x hx
  · obtain ⟨r, hr, rfl⟩ := List.mem_map.mp hx
    exact rowsOk_nm h.rows r hr
/-! ### rows as they are passed, whatever they are made of -/
def RowAs (r : Row) (d : D) : Prop := ∃ (b : Bool) (x : D) (qs : List (Bool × (Str × Int))), d = (if b = true then .tup [.str r.1, x] else .lst [.str r.1, x]) ∧ RowOf x (qs.map entD) ∧ qs.map (·.2) = r.2
inductive All2 {α β : Type} (R : α → β → Prop) : List α → List β → Prop
  | nil : All2 R [] []
  | cons {a : α} {b : β} {l : List α} {k : List β} (h : R a b) (t : All2 R l k) : All2 R (a :: l) (b :: k)
theorem All2.imp {α β : Type} {R S : α → β → Prop} (h : ∀ a b, R a b → S a b) : ∀ {l : List α} {k : List β}, All2 R l k → All2 S l k
  | _, _, .nil => .nil
  | _, _, .cons a t => .cons (h _ _ a) (t.imp h)
theorem All2.len {α β : Type} {R : α → β → Prop} : ∀ {l : List α} {k : List β}, All2 R l k → l.length = k.length
  | _, _, .nil => rfl
  | _, _, .cons _ t => congrArg (· + 1) t.len
theorem rowAs_seq {r : Row} {d : D} (h : RowAs r d) : ∃ (x : D) (qs : List (Bool × (Str × Int))), seqOf d = [.str r.1, x] ∧ isR 2 d = true ∧ RowOf x (qs.map entD) ∧ qs.map (·.2) = r.2 ∧ ∃ n, Pl d n := by
  obtain ⟨b, x, qs, rfl, hx, e⟩ := h
  cases b
  · exact ⟨x, qs, rfl, rfl, hx, e, _, .lst _⟩
  · exact ⟨x, qs, rfl, rfl, hx, e, _, .tup _⟩
theorem rowAs_ok {n : Nat} {tb : Tb} {r : Row} {d : D} (h : RowAs r d) (hr : RowOk n tb r) : rowW n tb d = none ∧ nmOf d = r.1 ∧ ctOf d = r.2 := by
  obtain ⟨x, qs, e1, e2, hx, e3, _⟩ := rowAs_seq h
  obtain ⟨hn, hk, hc, hs⟩ := hr
  refine ⟨?_, by unfold nmOf; rw [e1], ?_⟩
  · unfold rowW
    rw [if_neg (by rw [e2]; exact Bool.noConfusion), e1]
    have t : thB (.str r.1) = true := by
      show (nmB r.1 && !decide (r.1 = cash)) = true
      rw [nm_nmB ⟨hn.1, hn.2.1, hn.2.2.1, hn.2.2.2⟩, decide_eq_false (show ¬ r.1 = cash from hn.1)]
      rfl
    have k : keyD (tb.map (·.1)) (.str r.1) = none := by unfold keyD; dsimp only; exact if_neg hk
    dsimp only
    rw [if_neg (by rw [t]; exact Bool.noConfusion), if_neg (by rw [k]; exact fun h => h rfl)]
    exact contW_ok hx (by rw [e3]; exact hc) (by rw [e3]; exact hs)
  · unfold ctOf
    rw [e1]
    have : seqOf x = qs.map entD := by rcases hx with rfl | rfl <;> rfl
    show (seqOf x).map pairOf = _
    rw [this, List.map_map, ← e3]
    exact List.map_congr_left fun q _ => pair_ent
theorem rowsE_ok {n : Nat} : ∀ {ds : List D} {rs : List Row} {tb : Tb} {i : Nat}, All2 (fun d r => RowAs r d) ds rs → RowsOk n tb rs → rowsE n tb i ds = .inr rs
  | _, _, _, _, .nil, _ => rfl
  | _, _, tb, i, .cons h t, hr => by
    obtain ⟨a, b, c⟩ := rowAs_ok h hr.1
    unfold rowsE
    rw [a]
    dsimp only
    rw [b, c, rowsE_ok t hr.2]
/-- rows that may be passed -/
def RowsAs (y : D) (rs : List Row) : Prop := ((y = .ktp [] ∧ rs = []) ∨ ∃ ds, RowOf y ds ∧ All2 (fun d r => RowAs r d) ds rs)
theorem rowsAs_P {gs : List Str} {y : D} {rs : List Row} (h : RowsAs y rs) (hp : RowsOk gs.length (tab0 gs gs.length) rs) (hl : rs.length ≤ 6) : rowsP gs y = .inr rs := by
  rcases h with ⟨rfl, rfl⟩ | ⟨ds, hy, ha⟩
  · rfl
  · have e : seqOf y = ds := by rcases hy with rfl | rfl <;> rfl
    have s : isY y = true := by rcases hy with rfl | rfl <;> rfl
    unfold rowsP
    rw [if_neg (by rw [e, ha.len]; rintro (h | h); (rw [s] at h; cases h); omega), e, rowsE_ok ha hp]
end KT

set_option Elab.async false
set_option linter.all false
set_option maxRecDepth 100000
set_option maxHeartbeats 0
set_option pp.deepTerms false
set_option pp.deepTerms.threshold 8


namespace KT
open PySem PySem.Spec PyProof.Rows L2 DL
theorem at30 {a b c : D} : atI [a, b, c] 0 = some a := rfl
theorem at31 {a b c : D} : atI [a, b, c] 1 = some b := rfl
theorem all2_map {α β : Type} {R : β → α → Prop} {f : α → β} : ∀ {l : List α}, (∀ a ∈ l, R (f a) a) → All2 R (l.map f) l
  | [], _ => .nil
  | a :: l, h => .cons (h a List.mem_cons_self) (all2_map fun b hb => h b (List.mem_cons_of_mem _ hb))
theorem ent_map {b : Bool} {cs : List (Str × Int)} {f : Str × Int → D} (h : ∀ c, f c = entD (b, c)) : cs.map f = (cs.map fun c => (b, c)).map entD := by
  rw [List.map_map]
  exact List.map_congr_left fun c _ => h c
theorem rowAs_D (r : Row) : RowAs r (rowD r) := ⟨true, .lst (r.2.map ctD), r.2.map fun c => (true, c), rfl, .inl (congrArg _ (ent_map fun _ => rfl)), by rw [List.map_map]; exact List.map_id _⟩
theorem rowsAs_map {f : Row → D} {y : D} {rs : List Row} (h : ∀ r, RowAs r (f r)) (hy : RowOf y (rs.map f)) : RowsAs y rs := .inr ⟨_, hy, all2_map fun r _ => h r⟩
theorem rq_rows {gs : List Str} {rs : List Row} (hm : Mkt gs rs) : ∀ d ∈ rs.map rowD, Rq d := fun d hd => by
  obtain ⟨r, hr, rfl⟩ := List.mem_map.mp hd
  have nm := rowsOk_nm hm.rows r hr
  have ct := RowsOk_mem hm.rows hr
  refine rq_two (.inl (.str _ (Nat.le_trans nm.2.2.1 (by decide)))) (cq_lst (by rw [List.length_map]; exact Nat.le_trans ct.2.1 (by decide)) fun e he => ?_)
  obtain ⟨c, hc, rfl⟩ := List.mem_map.mp he
  have hcc := ct.2.2.2 c hc
  have hk := hcc.1
  rw [show (tabOf gs.length (tab0 gs gs.length) rs).map (·.1) = gs ++ rs.map (·.1) from keysM] at hk
  have hp : Pok gs rs := ⟨hm.goods, hm.few, hm.rows⟩
  refine ey_two (.inl (.str _ (Nat.le_trans (hp.nm c.1 hk).2.2.1 (by decide)))) (.inl (.int _ ?_))
  exact Nat.lt_of_le_of_lt (show c.2.natAbs ≤ 1000 by have := hcc.2.2; omega) (by decide)
theorem cut_top {xs : List D} {n : Nat} : (DL.cutD xs none (some (n : Int))).length ≤ n := by
  unfold DL.cutD
  rw [HT.sIx_nat, List.length_take]
  omega
theorem ixN_id {n p : Nat} (h : p < n) : ixN n (p : Int) = some p := by
  unfold ixN
  simp
  omega
theorem at_0 {a : D} {l : List D} : atI (a :: l) 0 = some a := by
  have := atI_map (f := id) (xs := a :: l) (i := 0) (x := a) rfl
  rwa [List.map_id] at this
theorem cut_cons {a : D} {t : List D} : ∃ l, DL.cutD (a :: t) none (some 4) = a :: l ∧ ∀ d ∈ l, d ∈ t := by
  refine ⟨t.take (min 3 t.length), ?_, fun d hd => List.mem_of_mem_take hd⟩
  unfold DL.cutD
  rw [show (some (4 : Int)) = some ((4 : Nat) : Int) from rfl, HT.sIx_nat]
  show (a :: t).take (min 4 (t.length + 1) - 0) = _
  rw [show min 4 (t.length + 1) - 0 = min 3 t.length + 1 by omega]
  rfl
theorem bad_of {xs : List D} (hs : ∀ d ∈ xs, ∃ z : Str, d = .str z ∧ z.length ≤ 1000) (hl : xs.length ≤ 1000) (hn : ∀ hs : List Str, xs = hs.map .str → ¬ Goods hs) : GA (.lst xs) ∧ ∃ v, goodsW (.lst xs) = some v := by
  refine ⟨⟨⟨_, .lst _⟩, fun d hd => ?_, fun d hd z e => ?_, hl⟩, ?_⟩
  · obtain ⟨z, rfl, _⟩ := hs d hd
    exact ⟨_, .str _⟩
  · obtain ⟨z2, e2, h2⟩ := hs d hd
    rw [e] at e2
    cases e2
    exact h2
  · cases h : goodsW (.lst xs) with
    | some v => exact ⟨v, rfl⟩
    | none =>
      obtain ⟨gs, h1, h2⟩ := goodsW_none h
      rcases h1 with h1 | h1
      · exact absurd h2 (hn gs (D.lst.inj h1))
      · cases h1
theorem bad_e : GA (.lst []) ∧ ∃ v, goodsW (.lst []) = some v := bad_of (fun d hd => nomatch hd) (Nat.zero_le _) fun hs e h => by
  have := h.2.1
  cases hs with
  | nil => exact absurd this (by decide)
  | cons _ _ => cases e
theorem bad_n : GA .non ∧ ∃ v, goodsW .non = some v := ⟨⟨⟨_, .non⟩, (fun d hd => nomatch hd), (fun d hd => nomatch hd), Nat.zero_le _⟩, _, rfl⟩
theorem bad_l : GA (.lst [.non]) ∧ ∃ v, goodsW (.lst [.non]) = some v := ⟨⟨⟨_, .lst _⟩, (fun d hd => by rw [List.mem_singleton.mp hd]; exact ⟨_, .non⟩), (fun d hd z e => by rw [List.mem_singleton.mp hd] at e; cases e), (show 1 ≤ 1000 by decide)⟩, _, rfl⟩
theorem strs_few {gs : List Str} (hg : Goods gs) : ∀ d ∈ gs.map D.str, ∃ z : Str, d = .str z ∧ z.length ≤ 1000 := fun d hd => by
  obtain ⟨g, h, rfl⟩ := List.mem_map.mp hd
  exact ⟨g, rfl, Nat.le_trans (hg.2.2.2 g h).2.2.1 (by decide)⟩
theorem bad_cash {gs : List Str} (hg : Goods gs) : GA (.lst (gs.map D.str ++ [.str "cash"])) ∧ ∃ v, goodsW (.lst (gs.map D.str ++ [.str "cash"])) = some v := by
  refine bad_of (fun d hd => ?_) (by rw [List.length_append, List.length_map, List.length_singleton]; have := hg.2.2.1; omega) fun hs e h => ?_
  · rcases List.mem_append.mp hd with hd | hd
    · exact strs_few hg d hd
    · exact ⟨_, List.mem_singleton.mp hd, by decide⟩
  · have : D.str "cash" ∈ hs.map D.str := by rw [← e]; exact List.mem_append_right _ List.mem_cons_self
    obtain ⟨z, hz, ez⟩ := List.mem_map.mp this
    cases ez
    exact (h.2.2.2 _ hz).1 rfl
theorem bad_dbl {gs : List Str} {g0 : Str} (hg : Goods gs) (h0 : atI (gs.map D.str) 0 = some (.str g0)) : GA (.lst (DL.cutD (gs.map D.str) none (some 4) ++ [.str g0])) ∧ ∃ v, goodsW (.lst (DL.cutD (gs.map D.str) none (some 4) ++ [.str g0])) = some v := by
  have hl := @cut_len (gs.map D.str) none (some 4)
  rw [List.length_map] at hl
  rcases gs with _ | ⟨g, gs⟩
  · exact absurd hg.2.1 (by decide)
  have e0 : g = g0 := by
    rw [List.map_cons, at_0] at h0
    cases h0
    rfl
  subst e0
  obtain ⟨l, el, hlt⟩ := @cut_cons (.str g) (gs.map D.str)
  refine bad_of (fun d hd => ?_) (by rw [List.length_append, List.length_singleton]; have := hg.2.2.1; omega) fun hs e h => ?_
  · rcases List.mem_append.mp hd with hd | hd
    · exact strs_few hg d (cut_mem hd)
    · exact ⟨_, List.mem_singleton.mp hd, Nat.le_trans (hg.2.2.2 _ List.mem_cons_self).2.2.1 (by decide)⟩
  · rw [List.map_cons, el] at e
    cases hs with
    | nil => cases e
    | cons h1 hs =>
      rw [List.map_cons, List.cons_append] at e
      have e1 := (List.cons.inj e).1
      have e2 := (List.cons.inj e).2
      cases e1
      have : D.str g ∈ hs.map D.str := by rw [← e2]; exact List.mem_append_right _ List.mem_cons_self
      obtain ⟨z, hz, ez⟩ := List.mem_map.mp this
      cases ez
      exact (List.nodup_cons.mp h.1).1 hz
abbrev stM (zs : List Int) (i : Nat) (ys : List D) (t : Option DV) (gs : List Str) (rs : List Row) (r : List (Option DV)) : DSt := [some (.d (.ro (zs.map .int))), some (.d (.int (i : Int))), some (.own (.lst ys)), t, some (.d (.lst [.lst (gs.map .str), .lst (rs.map rowD), .dK (tbK (tabM gs rs))])), some (.d (.lst (gs.map .str))), some (.d (.lst (rs.map rowD)))] ++ r
section
variable {P : Program} {w : World} {K : PySem.W.Frag} {mg : Str → Option Value} {base : Heap} {C OG BG BP BR PC NT BA ME : Addr}
def sdLaw : SpD := fun as Q _ => ∃ zs : List Int, as = [.d (.ro (zs.map .int))] ∧ Q (.d (.bl true)) []
abbrev s_law : Stmt := top 52
theorem sc_law : FnScope ["_law_script", "_law_at", "_law_bag_here", "_law_turn", "_law_market_here", "_law_goods", "_law_rows", "_law_wrong", "_law_again", "_law_place", "_law_more", "_law_some", "_law_bad", "_law_told_here", "_law_sign"] ["_law_script"] (defScope s_law) := ⟨rfl, rfl, rfl, by decide +kernel, rfl, by decide +kernel, by decide +kernel⟩
theorem ok_law (D_law_bag : DefD P w K mg base "_law_bag" 1 ["_law_script", "_law_at"] sdBag) (D_law_take : DefD P w K mg base "_law_take" 1 ["_law_bag_here", "_law_many"] sdTake) (D_law_of : DefD P w K mg base "_law_of" 3 ["_law_bag_here", "_law_some"] sdOf) (D_law_market : DefD P w K mg base "_law_market" 7 ["_law_bag_here", "_law_most"] sdMarket) (D_law_due : DefD P w K mg base "_law_due" 7 ["_law_goods", "_law_rows"] sdDue) (D_law_told : DefD P w K mg base "_law_told" 19 ["_law_goods", "_law_rows"] sdTold) (D_law_held : DefDG P w K mg base "_law_held" 21 ["_law_goods", "_law_rows"] sdHeld) (D_law_held_L : DefDG P w K mg base "_law_held" 21 ["_law_goods", "_law_rows"] (lent sdHeld)) (D_law_spoilt : DefD P w K mg base "_law_spoilt" 7 ["_law_bag_here", "_law_goods", "_law_rows", "_law_place"] sdSpoilt)
    {f : Addr} {fd : FuncData} (G : Fun K "law" "law" s_law f fd) (T : TxtL K mg C BR OG PC NT BA ME BG) : FnOkG P w K mg base (L2.CX P w) 23 f fd ["_law_script"] (spOf K sdLaw) := by
  refine okDG G sc_law [] (fun as Q E ⟨zs, e, _⟩ => by subst e; exact ⟨rfl, rfl⟩) ⟨_, fun cdv A hgs outer s H E ad F0 H0 hr => (pds_cons (psd_for (passes_of rfl) rfl (pid_range1 (by rfl) T.b_range (pda_cons (pd_builtB (fun h => pe_callB (call_max2 rfl) (by rfl) T.b_max (by decide +kernel) h) cn_two.op (pda_cons (pd_const pe_int (fun _ => .int _)) (pda_cons (pd_builtB (fun h => pe_callB (call_min2 rfl) (by rfl) T.b_min (by decide +kernel) h) cn_two.op (pda_cons (pd_const pe_int (fun _ => .int _)) (pda_cons (pd_builtB (fun h => pe_callB call_len_seq (by rfl) T.b_len (by decide +kernel) h) cn_len.op (pda_cons (pd_var (pv 0)) pda_nil)) pda_nil))) pda_nil))) pda_nil)) (pgd_name (i := 1) (vs := [1]) (pg_name (i := 1) sc_law.nd rfl (.inl rfl)) (by show ¬ (1 ∈ ([] : List Nat)); decide) (by decide))
      (pds_cons (psd_setO (i := 2) (pd_call D_law_bag.ok (hr.mono (by decide)) (by rfl) D_law_bag.mg D_law_bag.kp D_law_bag.b (takes_of rfl rfl rfl rfl) (pda_cons (pd_var (pv 0)) (pda_cons (pd_var (pv 1)) pda_nil))) (by show ¬ (2 ∈ ([] : List Nat)); decide) sc_law.nd rfl (.inl rfl))
      (pds_one (psd_for (passes_of rfl) rfl (pid_range1 (by rfl) T.b_range (pda_cons (pd_ifExp (ptd_cmp (op_neX hr.units) op2_neX.op (pd_var (pv 0)) (pd_lst (fun h => pe_lst h) pda_nil) (nomark _)) (pd_const pe_int (fun _ => .int _)) (pd_const pe_int (fun _ => .int _))) pda_nil)) (pgd_name (i := 3) (vs := [3]) (pg_name (i := 3) sc_law.nd rfl (.inl rfl)) (by show ¬ (3 ∈ ([] : List Nat)); decide) (by decide))
      (pds_cons (psd_set (i := 4) (pd_call D_law_market.ok (hr.mono (by decide)) (by rfl) D_law_market.mg D_law_market.kp D_law_market.b (takes_of rfl rfl rfl rfl) (pda_own (i := 2) (pv 2) (pda_cons (pd_const pe_int (fun _ => .int _)) pda_nil))) (by show ¬ (4 ∈ ([] : List Nat)); decide) sc_law.nd rfl (.inl rfl))
      (pds_cons (psd_parC (i := 5) (j := 6) (oi := false) (oj := false) (pka_cons (pd_ix ix_list op2_ixL (pd_var (pv 4)) (pd_const pe_int (fun _ => .int _)) (fun _ _ => rfl)) (pka_cons (pd_ix ix_list op2_ixL (pd_var (pv 4)) (pd_const pe_int (fun _ => .int _)) (fun _ _ => rfl)) pka_nil)) (by show ¬ (5 ∈ ([] : List Nat)); decide) (by show ¬ (6 ∈ ([] : List Nat)); decide) (fun h => ps_asg (pe_tup h) (pg_tup rfl (pgs_cons (pg_name (i := 5) sc_law.nd rfl (.inr rfl)) (pgs_cons (pg_name (i := 6) sc_law.nd rfl (.inl rfl)) pgs_nil)))) (by decide))
      (pds_cons (psd_if (PW.pt (pwd_or (ptd_cmp op_notN op2_notN.op (pd_call D_law_due.ok (hr.mono (by decide)) (by rfl) D_law_due.mg D_law_due.kp D_law_due.b (takes_of rfl rfl rfl rfl) (pda_cons (pd_var (pv 5)) (pda_cons (pd_var (pv 6)) pda_nil))) (pd_const pe_non (fun _ => .non)) (nomark _)) (pwd_or1 (ptd_not (ptd_val (pd_callG D_law_held.ok hgs (hr.mono (by decide)) (by rfl) D_law_held.mg D_law_held.kp D_law_held.b (takes_of rfl rfl rfl rfl) (pda_cons (pd_var (pv 5)) (pda_cons (pd_var (pv 6)) pda_nil))) (fun h => pt_val h)))))) (pds_one (psd_ret (pd_const pe_bl (fun _ => .bl _)))) pds_nil)
      (pds_cons (psd_setO (i := 7) (pd_builtB (fun h => pe_callTy call_list_of (by rfl) T.b_list (by decide +kernel) h) cn_list (pda_cons (pd_var (pv 6)) pda_nil)) (by show ¬ (7 ∈ ([] : List Nat)); decide) sc_law.nd rfl (.inl rfl))
      (pds_cons (psd_for (passes_of rfl) rfl (pid_range1 (by rfl) T.b_range (pda_cons (pd_op op_add (op2_I0 fun _ _ _ => .int _) (pd_const pe_int (fun _ => .int _)) (pd_call D_law_take.ok (hr.mono (by decide)) (by rfl) D_law_take.mg D_law_take.kp D_law_take.b (takes_of rfl rfl rfl rfl) (pda_own (i := 2) (pv 2) (pda_cons (pd_const pe_int (fun _ => .int _)) pda_nil)))) pda_nil)) (pgd_name (i := 8) (vs := [8]) (pg_name (i := 8) sc_law.nd rfl (.inl rfl)) (by show ¬ (8 ∈ ([] : List Nat)); decide) (by decide))
      (pds_one (psd_if (ptd_neO (i := 7) hr.units (pv 7) (pd_lst (fun h => pe_lst h) pda_nil)) (pds_cons (psd_set (i := 9) (pd_call D_law_take.ok (hr.mono (by decide)) (by rfl) D_law_take.mg D_law_take.kp D_law_take.b (takes_of rfl rfl rfl rfl) (pda_own (i := 2) (pv 2) (pda_cons (pd_builtO (i := 7) (fun h => pe_callB call_len_seq (by rfl) T.b_len (by decide +kernel) h) cn_len (pv 7)) pda_nil))) (by show ¬ (9 ∈ ([] : List Nat)); decide) sc_law.nd rfl (.inl rfl))
      (pds_cons (psd_setItem (j := 7) (fun h g => ps_asg h g) (fun ho hi hs => pg_sub ho hi hs) (pv 7) (pd_call D_law_spoilt.ok (hr.mono (by decide)) (by rfl) D_law_spoilt.mg D_law_spoilt.kp D_law_spoilt.b (takes_of rfl rfl rfl rfl) (pda_own (i := 2) (pv 2) (pda_cons (pd_var (pv 5)) (pda_own (i := 7) (pv 7) (pda_cons (pd_var (pv 9)) pda_nil))))) (pd_var (pv 9)))
      (pds_one (psd_if (ptd_not (ptd_val (pd_callG D_law_held_L.ok hgs (hr.mono (by decide)) (by rfl) D_law_held_L.mg D_law_held_L.kp D_law_held_L.b (takes_of rfl rfl rfl rfl) (pda_cons (pd_var (pv 5)) (pda_own (i := 7) (pv 7) pda_nil))) (fun h => pt_val h))) (pds_one (psd_ret (pd_const pe_bl (fun _ => .bl _)))) pds_nil)))) pds_nil)))
      (pds_cons (psd_set (i := 10) (pd_op op_cat op2_cat (pd_var (pv 6)) (pd_lc (own := [("_law_sign", 14)]) (by rfl) sc_law.nd (pid_list (pd_builtB (fun h => pe_callTy (call_listS (by rfl)) (by rfl) T.b_list (by decide +kernel) h) cn_listS (pda_cons (pd_const pe_str (fun _ => .str (by decide +kernel))) pda_nil))) (blkOk_by (own := [("_law_sign", 14)]) (N := ["_law_script", "_law_at", "_law_bag_here", "_law_turn", "_law_market_here", "_law_goods", "_law_rows", "_law_wrong", "_law_again", "_law_place", "_law_more", "_law_some", "_law_bad", "_law_told_here", "_law_sign"]) (sc := defScope s_law) (by decide +kernel)) (fun _ _ _ _ _ => (pgd_name (i := 14) (vs := [14]) (pg_name (i := 14) sc_law.nd rfl (.inl rfl)) (by show ¬ (14 ∈ ([] : List Nat)); decide) (by decide))) (fun _ _ _ _ _ => ptsd_nil) (fun _ _ _ _ _ => (pd_tup (fun h => pe_tup h) (pda_cons (pd_op op_add_str op2_addS (pd_const pe_str (fun _ => .str (by decide +kernel))) (pd_var (pv 14))) (pda_cons (pd_lst (fun h => pe_lst h) (pda_cons (pd_tup (fun h => pe_tup h) (pda_cons (pd_ix ix_list op2_ixL (pd_var (pv 5)) (pd_const pe_int (fun _ => .int _)) (fun _ _ => rfl)) (pda_cons (pd_const pe_int (fun _ => .int _)) pda_nil))) pda_nil)) pda_nil)))) (by show ∀ i ∈ ([14] : List Nat), ¬ (i ∈ ([] : List Nat)); decide))) (by show ¬ (10 ∈ ([] : List Nat)); decide) sc_law.nd rfl (.inl rfl))
      (pds_cons (psd_for (passes_of rfl) rfl (pid_list (pd_lst (fun h => pe_lst h) (pda_cons (pd_const pe_non (fun _ => .non)) (pda_cons (pd_const pe_int (fun _ => .int _)) (pda_cons (pd_const pe_str (fun _ => .str (by decide +kernel))) (pda_cons (pd_const pe_bl (fun _ => .bl _)) (pda_cons (pd_slice (pd_var (pv 10)) pod_none (pod_some (pd_const pe_int (fun _ => .int _)))) (pda_cons (pd_slice (pd_var (pv 10)) pod_none (pod_some (pd_const pe_int (fun _ => .int _)))) (pda_cons (pd_op op_rep op2_rep (pd_lst (fun h => pe_lst h) (pda_cons (pd_const pe_non (fun _ => .non)) pda_nil)) (pd_const pe_int (fun _ => .int _))) (pda_cons (pd_slice (pd_var (pv 10)) pod_none (pod_some (pd_const pe_int (fun _ => .int _)))) (pda_cons (pd_lst (fun h => pe_lst h) pda_nil) pda_nil))))))))))) (pgd_name (i := 11) (vs := [11]) (pg_name (i := 11) sc_law.nd rfl (.inl rfl)) (by show ¬ (11 ∈ ([] : List Nat)); decide) (by decide))
      (pds_one (psd_if (ptd_not (ptd_val (pd_callG D_law_held.ok hgs (hr.mono (by decide)) (by rfl) D_law_held.mg D_law_held.kp D_law_held.b (takes_of rfl rfl rfl rfl) (pda_cons (pd_var (pv 5)) (pda_cons (pd_var (pv 11)) pda_nil))) (fun h => pt_val h))) (pds_one (psd_ret (pd_const pe_bl (fun _ => .bl _)))) pds_nil)))
      (pds_cons (psd_set (i := 12) (pd_call D_law_of.ok (hr.mono (by decide)) (by rfl) D_law_of.mg D_law_of.kp D_law_of.b (takes_of rfl rfl rfl rfl) (pda_own (i := 2) (pv 2) (pda_cons (pd_lst (fun h => pe_lst h) (pda_cons (pd_lst (fun h => pe_lst h) pda_nil) (pda_cons (pd_ifExp (ptd_cmp op_lt (op2_I0 fun _ _ _ => .bl _) (pd_builtB (fun h => pe_callB call_len_seq (by rfl) T.b_len (by decide +kernel) h) cn_len.op (pda_cons (pd_var (pv 5)) pda_nil)) (pd_const pe_int (fun _ => .int _)) (nomark _)) (pd_op op_cat op2_cat (pd_var (pv 5)) (pd_lst (fun h => pe_lst h) (pda_cons (pd_const pe_str (fun _ => .str (by decide +kernel))) pda_nil))) (pd_lst (fun h => pe_lst h) (pda_cons (pd_const pe_non (fun _ => .non)) pda_nil))) (pda_cons (pd_op op_cat op2_cat (pd_slice (pd_var (pv 5)) pod_none (pod_some (pd_const pe_int (fun _ => .int _)))) (pd_lst (fun h => pe_lst h) (pda_cons (pd_ix ix_list op2_ixL (pd_var (pv 5)) (pd_const pe_int (fun _ => .int _)) (fun _ _ => rfl)) pda_nil))) (pda_cons (pd_const pe_non (fun _ => .non)) pda_nil))))) pda_nil))) (by show ¬ (12 ∈ ([] : List Nat)); decide) sc_law.nd rfl (.inl rfl))
      (pds_cons (psd_set (i := 13) (pd_call D_law_told.ok (hr.mono (by decide)) (by rfl) D_law_told.mg D_law_told.kp D_law_told.b (takes_of rfl rfl rfl rfl) (pda_cons (pd_var (pv 12)) (pda_cons (pd_call D_law_of.ok (hr.mono (by decide)) (by rfl) D_law_of.mg D_law_of.kp D_law_of.b (takes_of rfl rfl rfl rfl) (pda_own (i := 2) (pv 2) (pda_cons (pd_lst (fun h => pe_lst h) (pda_cons (pd_fvar (i := 7) (pv 7) (by show ¬ (7 ∈ ([] : List Nat)); decide)) (pda_cons (pd_const pe_non (fun _ => .non)) (pda_cons (pd_var (pv 6)) pda_nil)))) pda_nil))) pda_nil))) (by show ¬ (13 ∈ ([] : List Nat)); decide) sc_law.nd rfl (.inl rfl))
      (pds_one (psd_if (PW.pt (pwd_or (ptd_cmp op_isN op2_isN.op (pd_var (pv 13)) (pd_const pe_non (fun _ => .non)) (nomark _)) (pwd_or1 (ptd_cmp op_ne op2_ne.op (pd_ix ix_tup op2_ixT (pd_var (pv 13)) (pd_const pe_int (fun _ => .int _)) (fun _ _ => rfl)) (pd_const pe_str (fun _ => .str (by decide +kernel))) (nomark _))))) (pds_one (psd_ret (pd_const pe_bl (fun _ => .bl _)))) pds_nil)))))))))))))))
      (pds_one (psd_ret (pd_const pe_bl (fun _ => .bl _))))), ?_⟩
  rintro as Qd Ed ⟨zs, rfl, k⟩
  refine DR.start (δ' := [some (.d (.ro (zs.map .int))), none, none, none, none, none, none, none, none, none, none, none, none, none, none]) rfl ?_
  with_reducible refine DR.cut (fun δ => True) (fun N kN => ?_) ?_
  · walk_at "dd"
    refine ⟨by dsimp only; split <;> (try split) <;> omega, by dsimp only; split <;> (try split) <;> omega, ?_⟩
    refine DR.for_inv (fun i δ => ∃ p1 p2 p3 p4 p5 p6 p7 p8 p9 p10 p11 p12 p13 : Option DV, δ = [some (.d (.ro (zs.map .int))), p1, p2, p3, p4, p5, p6, p7, p8, p9, p10, p11, p12, p13, none]) ⟨_, _, _, _, _, _, _, _, _, _, _, _, _, rfl⟩ ?step ?fin
    case fin => exact fun δ _ => kN _ True.intro
    case step =>
    rintro i x δ N hx ⟨p1, p2, p3, p4, p5, p6, p7, p8, p9, p10, p11, p12, p13, rfl⟩ kN
    obtain ⟨rfl, hi⟩ := upto_at hx
    have hi4 : i < 4 := by
      refine Nat.lt_of_lt_of_le hi ?_
      dsimp only
      split <;> (try split) <;> omega
    refine DR.nameg ?_
    with_reducible refine DR.cut (fun δ => ∃ ys, Bg ys ∧ δ = [some (.d (.ro (zs.map .int))), some (.d (.int (i : Int))), some (.own (.lst ys)), p3, p4, p5, p6, p7, p8, p9, p10, p11, p12, p13, none]) (fun N kN => ?_) ?_
    · walk_at "dd"
      refine ⟨zs, i, rfl, by omega, fun ys hb => ?_⟩
      walk_at "dd"
      exact kN _ ⟨ys, hb, rfl⟩
    rintro δ ⟨ys, hb, rfl⟩
    refine DR.for_ ?_
    with_reducible refine DR.icut (fun xs δ => ∃ n : Nat, xs = upto 0 n ∧ δ = [some (.d (.ro (zs.map .int))), some (.d (.int (i : Int))), some (.own (.lst ys)), p3, p4, p5, p6, p7, p8, p9, p10, p11, p12, p13, none]) (fun N kN => ?_) ?_
    · walk_at "dd"
      rcases zs with _ | ⟨z0, zs⟩
      · refine .inl (eqd_f (b := true) cmp_e.1 cmp_e.2 rfl ?_)
        walk_at "dd"
        refine ⟨by decide, by decide, ?_⟩
        exact kN _ _ ⟨2, rfl, rfl⟩
      · refine .inr ⟨_, _, .inr rfl, .inl rfl, (by simp), ?_⟩
        walk_at "dd"
        refine ⟨by decide, by decide, ?_⟩
        exact kN _ _ ⟨4, rfl, rfl⟩
    rintro xs δ ⟨n, rfl, rfl⟩
    refine DR.for_inv (fun _ δ => ∃ (ys : List D) (p3 p4 p5 p6 p7 p8 p9 p10 p11 p12 p13 : Option DV), Bg ys ∧ δ = [some (.d (.ro (zs.map .int))), some (.d (.int (i : Int))), some (.own (.lst ys)), p3, p4, p5, p6, p7, p8, p9, p10, p11, p12, p13, none]) ⟨ys, _, _, _, _, _, _, _, _, _, _, _, hb, rfl⟩ ?st2 ?fn2
    case fn2 =>
      rintro δ ⟨ys, q3, q4, q5, q6, q7, q8, q9, q10, q11, q12, q13, hb, rfl⟩
      exact kN _ ⟨_, _, _, _, _, _, _, _, _, _, _, _, _, rfl⟩
    case st2 =>
    rintro j x δ N2 hx ⟨ys, q3, q4, q5, q6, q7, q8, q9, q10, q11, q12, q13, hb, rfl⟩ kN2
    obtain ⟨rfl, hj⟩ := upto_at hx
    refine DR.nameg ?_
    with_reducible refine DR.cut (fun δ => ∃ ys gs rs, Bg ys ∧ Mkt gs rs ∧ δ = [some (.d (.ro (zs.map .int))), some (.d (.int (i : Int))), some (.own (.lst ys)), some (.d (.int (j : Int))), some (.d (.lst [.lst (gs.map .str), .lst (rs.map rowD), .dK (tbK (tabM gs rs))])), q5, q6, q7, q8, q9, q10, q11, q12, q13, none]) (fun N kN => ?_) ?_
    · walk_at "dd"
      refine ⟨ys, 6, rfl, hb, by decide, fun gs rs ys hm hb => ?_⟩
      walk_at "dd"
      exact kN _ ⟨ys, gs, rs, hb, hm, rfl⟩
    rintro δ ⟨ys, gs, rs, hb, hm, rfl⟩
    have hg := hm.goods
    have hrq := rq_rows hm
    have eP : rowsP gs (.lst (rs.map rowD)) = .inr rs := rowsAs_P (rowsAs_map rowAs_D (.inl rfl)) hm.rows hm.few
    have hl6 : (rs.map rowD).length ≤ 6 := by rw [List.length_map]; exact hm.few
    obtain ⟨hrw, hsh⟩ := rwp_of (y := .lst (rs.map rowD)) (.inl rfl) (Nat.le_trans hl6 (by decide)) hrq
    with_reducible refine DR.cut (fun δ => δ = stM zs i ys (some (.d (.int (j : Int)))) gs rs [q7, q8, q9, q10, q11, q12, q13, none]) (fun N kN => ?_) ?_
    · walk_at "dd"
      refine ⟨_, _, .inl rfl, at30, ?_⟩
      walk_at "dd"
      refine ⟨_, _, .inl rfl, at31, ?_⟩
      walk_at "dd"
      exact kN _ rfl
    rintro δ rfl
    with_reducible refine DR.cut (fun δ => δ = stM zs i ys (some (.d (.int (j : Int)))) gs rs [q7, q8, q9, q10, q11, q12, q13, none]) (fun N kN => ?_) ?_
    · walk_at "dd"
      refine ⟨gs, .lst (rs.map rowD), rfl, hg, hrw, ?_⟩
      rw [eP]
      walk_at "dd"
      refine ⟨true, rfl, ⟨(fun _ => rfl), (fun _ => rfl)⟩, DR.nost_b, ?_⟩
      walk_at "dd"
      refine ⟨gs, _, rfl, hg, hrw, hsh, ?_⟩
      walk_at "dd"
      exact kN _ rfl
    rintro δ rfl
    with_reducible refine DR.cut (fun δ => δ = stM zs i ys (some (.d (.int (j : Int)))) gs rs [some (.own (.lst (rs.map rowD))), q8, q9, q10, q11, q12, q13, none]) (fun N kN => ?_) ?_
    · walk_at "dd"
      exact kN _ rfl
    rintro δ rfl
    with_reducible refine DR.cut (fun δ => ∃ (ys ws : List D) (q8 q9 : Option DV), Bg ys ∧ ws.length ≤ 6 ∧ (∀ w ∈ ws, Rq w) ∧ δ = stM zs i ys (some (.d (.int (j : Int)))) gs rs [some (.own (.lst ws)), q8, q9, q10, q11, q12, q13, none]) (fun N kN => ?_) ?_
    · walk_at "dd"
      refine take hb (by decide) (by decide) fun r ys r0 r1 hb => ?_
      walk_at "dd"
      refine ⟨by omega, by omega, ?_⟩
      refine DR.for_inv (fun _ δ => ∃ (ys ws : List D) (q8 q9 : Option DV), Bg ys ∧ ws.length ≤ 6 ∧ (∀ w ∈ ws, Rq w) ∧ δ = stM zs i ys (some (.d (.int (j : Int)))) gs rs [some (.own (.lst ws)), q8, q9, q10, q11, q12, q13, none]) ⟨ys, _, q8, q9, hb, hl6, hrq, rfl⟩ ?st3 ?fn3
      case fn3 => exact fun δ h => kN _ h
      case st3 =>
      rintro m x δ N3 hx ⟨ys, ws, q8, q9, hb, hwl, hws, rfl⟩ kN3
      obtain ⟨rfl, hm2⟩ := upto_at hx
      refine DR.nameg ?_
      walk_at "dd"
      refine DR.neO rfl ?_
      rcases ws with _ | ⟨w0, ws⟩
      · refine .inl (eqd_f (b := true) cmp_e.2 cmp_e.2 rfl ?_)
        walk_at "dd"
        exact kN3 _ ⟨ys, _, _, _, hb, hwl, hws, rfl⟩
      · refine .inr ⟨_, _, .inl rfl, .inl rfl, (by simp), ?_⟩
        have wpos : 0 < (w0 :: ws).length := Nat.zero_lt_succ _
        generalize w0 :: ws = ws at hwl hws wpos
        walk_at "dd"
        refine take hb (by omega) (by omega) fun r ys r0 r1 hb => ?_
        obtain ⟨p, rfl⟩ := Int.eq_ofNat_of_zero_le r0
        walk_at "dd"
        refine ⟨ys, ws, gs, p, rfl, hb, hg, by omega, by omega, hws, fun c ys hc hb => ?_⟩
        walk_at "dd"
        refine ⟨ws, (p : Int), p, rfl, rfl, ixN_id (by omega), ?_⟩
        have hws2 : ∀ w ∈ ws.set p c, Rq w := fun w hw => by
          rcases List.mem_or_eq_of_mem_set hw with hw | hw
          · exact hws w hw
          · rw [hw]; exact hc
        have hwl2 : (ws.set p c).length ≤ 6 := by rw [List.length_set]; exact hwl
        obtain ⟨hrw2, hsh2⟩ := rwp_of (y := .lst (ws.set p c)) (.inl rfl) (Nat.le_trans hwl2 (by decide)) hws2
        walk_at "dd"
        refine ⟨gs, .lst (ws.set p c), rfl, hg, hrw2, hsh2, rfl, ?_, ?_⟩
        · exact True.intro
        walk_at "dd"
        exact kN3 _ ⟨ys, ws.set p c, _, _, hb, hwl2, hws2, rfl⟩
    rintro δ ⟨ys, ws, q8, q9, hb, hwl, hws, rfl⟩
    obtain ⟨g0, hg0, hgm⟩ : ∃ g0 : Str, atI (gs.map D.str) 0 = some (.str g0) ∧ g0 ∈ gs := by
      rcases gs with _ | ⟨g0, gs⟩
      · exact absurd hg.2.1 (by decide)
      · exact ⟨g0, at_0, List.mem_cons_self⟩
    with_reducible refine DR.cut (fun δ => ∃ ms : List D, (∀ w ∈ ms, Rq w) ∧ δ = stM zs i ys (some (.d (.int (j : Int)))) gs rs [some (.own (.lst ws)), q8, q9, some (.d (.lst ms)), q11, q12, q13, none]) (fun N kN => ?_) ?_
    · walk_at "dd"
      refine ⟨by decide, ?_⟩
      walk_at "dd"
      refine DR.lc_inv (fun k acc δ => acc.length ≤ k ∧ (∀ z ∈ acc, Rq z) ∧ δ = stM zs i ys (some (.d (.int (j : Int)))) gs rs [some (.own (.lst ws)), q8, q9, q10, q11, q12, q13, none]) ⟨Nat.zero_le _, (fun z hz => nomatch hz), rfl⟩ ?_ ?_
      · rintro n x acc δ N3 hx ⟨hal, hac, rfl⟩ kN3
        have hn7 : n < 7 := (List.getElem?_eq_some_iff.mp hx).1
        obtain ⟨ch, hch, rfl⟩ := DR.map_at hx
        walk_at "dd"
        refine ⟨Nat.le_trans (show 5 ≤ 20 by decide) (by decide), ?_⟩
        walk_at "dd"
        refine ⟨_, _, .inl rfl, hg0, ?_⟩
        walk_at "dd"
        refine ⟨Nat.lt_of_le_of_lt (show acc.length ≤ 8 by omega) (by decide), kN3 _ _ ⟨by rw [List.length_append, List.length_singleton]; omega, fun z hz => ?_, rfl⟩⟩
        rcases List.mem_append.mp hz with hz | hz
        · exact hac z hz
        · rw [List.mem_singleton.mp hz]
          refine rq_two (.inl (.str _ (show 5 ≤ 20 by decide))) (cq_lst (show 1 ≤ 20 by decide) fun e he => ?_)
          rw [List.mem_singleton.mp he]
          exact ey_two (.inl (.str _ (Nat.le_trans (hg.2.2.2 _ hgm).2.2.1 (by decide)))) (.inl (.int _ (by decide)))
      rintro acc δ ⟨hal, hac, rfl⟩
      have hal : acc.length ≤ 7 := hal
      walk_at "dd"
      refine ⟨Nat.le_trans (show (rs.map rowD).length + acc.length ≤ 20 by omega) (by decide), ?_⟩
      refine kN _ ⟨rs.map rowD ++ acc, fun d hd => ?_, rfl⟩
      rcases List.mem_append.mp hd with hd | hd
      · exact hrq d hd
      · exact hac d hd
    rintro δ ⟨ms, hms, rfl⟩
    with_reducible refine DR.cut (fun δ => ∃ q11 : Option DV, δ = stM zs i ys (some (.d (.int (j : Int)))) gs rs [some (.own (.lst ws)), q8, q9, some (.d (.lst ms)), q11, q12, q13, none]) (fun N kN => ?_) ?_
    · walk_at "dd"
      refine ⟨by decide, by decide, by decide, ?_⟩
      walk_at "dd"
      refine ⟨[_, _, _, _, _, _, _, _, _], rfl, Nat.le_trans (show 9 ≤ 20 by decide) (by decide), ?_⟩
      walk_at "dd"
      refine DR.for_inv (fun _ δ => ∃ q11 : Option DV, δ = stM zs i ys (some (.d (.int (j : Int)))) gs rs [some (.own (.lst ws)), q8, q9, some (.d (.lst ms)), q11, q12, q13, none]) ⟨_, rfl⟩ ?st4 ?fn4
      case fn4 => exact fun δ h => kN _ h
      case st4 =>
      rintro n x δ N3 hx ⟨q11, rfl⟩ kN3
      have hx2 : Rwp x ∧ Show x := by
        have hx := List.mem_of_getElem? hx
        simp only [List.mem_cons, List.not_mem_nil, or_false] at hx
        rcases hx with rfl | rfl | rfl | rfl | rfl | rfl | rfl | rfl | rfl
        · exact rwp_lf .non
        · exact rwp_lf (.int _ (by decide))
        · exact rwp_lf (.str _ (by decide))
        · exact rwp_lf (.bl _)
        · exact rwp_of (.inl rfl) (Nat.le_trans cut_top (by decide : 7 ≤ 8)) fun d hd => hms d (cut_mem hd)
        · exact rwp_of (.inl rfl) (Nat.le_trans cut_top (by decide : 8 ≤ 8)) fun d hd => hms d (cut_mem hd)
        · exact rwp_of (.inl rfl) (by decide) fun d hd => by
            have : d = .non := by simpa [DV.toD] using hd
            rw [this]; exact .lf .non
        · exact rwp_of (.inl rfl) (Nat.le_trans cut_top (by decide : 6 ≤ 8)) fun d hd => hms d (cut_mem hd)
        · exact rwp_of (.inl rfl) (Nat.zero_le _) fun d hd => nomatch hd
      walk_at "dd"
      refine ⟨gs, x, rfl, hg, hx2.1, hx2.2, ?_⟩
      walk_at "dd"
      exact kN3 _ ⟨_, rfl⟩
    rintro δ ⟨q11, rfl⟩
    with_reducible refine DR.cut (fun δ => ∃ (ys : List D) (x : D) (v : Str), Bg ys ∧ GA x ∧ goodsW x = some v ∧ δ = stM zs i ys (some (.d (.int (j : Int)))) gs rs [some (.own (.lst ws)), q8, q9, some (.d (.lst ms)), q11, some (.d x), q13, none]) (fun N kN => ?_) ?_
    · walk_at "dd"
      refine DR.split (fun c5 => ?_) (fun c5 => ?_)
      · walk_at "dd"
        refine ⟨Nat.le_trans (show (gs.map D.str).length + 1 ≤ 20 by rw [List.length_map]; have := hg.2.2.1; omega) (by decide), ?_⟩
        walk_at "dd"
        refine ⟨_, _, .inl rfl, hg0, ?_⟩
        walk_at "dd"
        refine ⟨Nat.le_trans (show (DL.cutD (gs.map D.str) none (some 4)).length + 1 ≤ 20 by have := @cut_len (gs.map D.str) none (some 4); rw [List.length_map] at this; have := hg.2.2.1; omega) (by decide), ?_⟩
        walk_at "dd"
        refine ⟨ys, _, _, rfl, rfl, hb, Nat.zero_lt_succ _, (show 4 < 1000 by decide), fun c ys hc hb => ?_⟩
        obtain ⟨hgc, v, hvc⟩ : GA c ∧ ∃ v, goodsW c = some v := by
          simp only [List.mem_cons, List.not_mem_nil, or_false] at hc
          rcases hc with rfl | rfl | rfl | rfl
          · exact bad_e
          · exact bad_cash hg
          · exact bad_dbl hg hg0
          · exact bad_n
        walk_at "dd"
        exact kN _ ⟨ys, c, v, hb, hgc, hvc, rfl⟩
      · walk_at "dd"
        refine ⟨_, _, .inl rfl, hg0, ?_⟩
        walk_at "dd"
        refine ⟨Nat.le_trans (show (DL.cutD (gs.map D.str) none (some 4)).length + 1 ≤ 20 by have := @cut_len (gs.map D.str) none (some 4); rw [List.length_map] at this; have := hg.2.2.1; omega) (by decide), ?_⟩
        walk_at "dd"
        refine ⟨ys, _, _, rfl, rfl, hb, Nat.zero_lt_succ _, (show 4 < 1000 by decide), fun c ys hc hb => ?_⟩
        obtain ⟨hgc, v, hvc⟩ : GA c ∧ ∃ v, goodsW c = some v := by
          simp only [List.mem_cons, List.not_mem_nil, or_false] at hc
          rcases hc with rfl | rfl | rfl | rfl
          · exact bad_e
          · exact bad_l
          · exact bad_dbl hg hg0
          · exact bad_n
        walk_at "dd"
        exact kN _ ⟨ys, c, v, hb, hgc, hvc, rfl⟩
    rintro δ ⟨ys, x, v, hb, hx, hv, rfl⟩
    with_reducible refine DR.cut (fun δ => ∃ ys : List D, Bg ys ∧ δ = stM zs i ys (some (.d (.int (j : Int)))) gs rs [some (.d (.lst ws)), q8, q9, some (.d (.lst ms)), q11, some (.d x), some (.d (.tup [.str "goods", .str v])), none]) (fun N kN => ?_) ?_
    · walk_at "dd"
      refine ⟨ys, _, _, rfl, rfl, hb, Nat.zero_lt_succ _, (show 3 < 1000 by decide), fun c ys hc hb => ?_⟩
      have hcr : Rwp c := by
        simp only [List.mem_cons, List.not_mem_nil, or_false] at hc
        rcases hc with rfl | rfl | rfl
        · exact (rwp_of (.inl rfl) (Nat.le_trans hwl (by decide)) hws).1
        · exact (rwp_lf .non).1
        · exact hrw
      walk_at "dd"
      refine ⟨x, c, rfl, hx, hcr, fun v2 hv2 => ?_, fun gs2 h1 h2 => by rw [goodsW_ok h1 h2] at hv; cases hv⟩
      rw [hv] at hv2
      cases hv2
      walk_at "dd"
      exact kN _ ⟨ys, hb, rfl⟩
    rintro δ ⟨ys, hb, rfl⟩
    walk_at "dd"
    refine ⟨false, rfl, ⟨(fun h => nomatch h), (fun h => nomatch h)⟩, DR.nost_b, ?_⟩
    walk_at "dd"
    rw [decide_eq_true rfl]
    walk_at "dd"
    exact kN2 _ ⟨ys, _, _, _, _, _, _, _, _, _, _, _, hb, rfl⟩
  rintro δ -
  walk_at "dd"
  exact k
end
end KT

set_option Elab.async false
set_option linter.all false
set_option maxRecDepth 100000
set_option maxHeartbeats 0
set_option pp.deepTerms false
set_option pp.deepTerms.threshold 8

namespace KT
open PySem PySem.Spec PyProof.Rows L2 DL
theorem reps_ints {K : PySem.W.Frag} {F : Hp} : ∀ {ns : List Int}, RepL K F (ns.map V.int) (ns.map D.int)
  | [] => .nil
  | _ :: _ => .cons (.int _) reps_ints
theorem law_in {K : PySem.W.Frag} {H : Hp} {a : Addr} {ns : List Int} (h : SqL K H a (ns.map V.int)) : spOf K sdLaw [.ref a] H (fun v _ => v = .bl true) fun _ _ _ => False := by
  refine ⟨H, [.d (.ro (ns.map .int))], [], fun x _ => x = .d (.bl true), fun _ _ => False, fun p u e => e, .d (.ro h reps_ints) .nil, ⟨ns, rfl, rfl⟩, fun v x os F' H' q P r => ?_, fun _ _ _ _ _ _ z => z.elim⟩
  subst q
  replace r : Rep K F' v (.bl true) := r
  cases r
  rfl
theorem cx_none {P : Program} {w : World} {H : Hp} {s s' : Shared} {e : Value} (h : L2.CX P w [] H s (fun _ _ _ => False) e s') : False := by
  obtain ⟨_, _, _, _, _, _, _, _, _, _, _, _, z⟩ := h
  exact z
theorem kit_ref2 {K : PySem.W.Frag} {B M : Addr} {r : Bool} (ne : B ≠ M) (ic : PySem.W.isClsIn K M = true) (ty : PySem.W.typeIn K (.ref M) = some (.type "type")) (s : PySem.W.subIn K (.ref B) (.ref M) = some r) : PySem.W.kitOne K (.ref B) (.ref M) = some r := by
  have ic' : (PySem.W.clsIn K M).isSome = true := ic
  unfold PySem.W.kitOne
  rw [if_neg (by simp [ne])]
  show (if ((PySem.W.clsIn K M).isSome && PySem.W.typeIn K (.ref M) == some (.type "type")) = true then PySem.W.subIn K (.ref B) (.ref M) else none) = _
  rw [if_pos (by rw [ic', ty]; simp)]
  exact s
theorem exm_ref {K : PySem.W.Frag} {B M : Addr} {r : Bool} (ex : PySem.W.subIn K (.ref M) (.type "BaseException") = some true) (ic : PySem.W.isClsIn K M = true) (ty : PySem.W.typeIn K (.ref M) = some (.type "type")) (s : PySem.W.subIn K (.ref B) (.ref M) = some r) : PySem.W.exmOne K (.ref B) (.ref M) = some r := by
  have ic' : (PySem.W.clsIn K M).isSome = true := ic
  unfold PySem.W.exmOne
  rw [if_pos (by rw [ex]; rfl)]
  show (if ((PySem.W.clsIn K M).isSome && PySem.W.typeIn K (.ref M) == some (.type "type")) = true then PySem.W.subIn K (.ref B) (.ref M) else none) = _
  rw [if_pos (by rw [ic', ty]; simp)]
  exact s
theorem fundI {K : PySem.W.Frag} {x qual : Str} {st : Stmt} {f T : Addr} {oc c2 : Value} {od an d2 : Option Addr} {osl s2 : Array (Option Value)} {kV doc pm cdv ct : Value} {i : Int} {t : Tok} {n : Nat} (l : K.lookup f = some ⟨oc, od, .func (PySem.W.fnOf x qual (defArgs st) (defBody st) (defScope st) (.ref T) kV doc pm an cdv ct), osl⟩)
    (c : PySem.W.codeIn K cdv qual = true) (k : PySem.W.keepIn K (.ref f) = true) (d : K.lookup T = some ⟨c2, d2, .seq #[.int i t] n, s2⟩) : FunD K x qual (defArgs st) (defBody st) (defScope st) [.int i] [] f (PySem.W.fnOf x qual (defArgs st) (defBody st) (defScope st) (.ref T) kV doc pm an cdv ct) :=
  ⟨⟨oc, od, _, _, doc, pm, an, cdv, ct, osl, rfl, l, c, .inr ⟨by simp, T, _, [.int i t], n, rfl, d, rfl, .cons ⟨_, rfl⟩ .nil⟩, .inl rfl⟩, k⟩
theorem kit_ty {K : PySem.W.Frag} {B : Addr} {n : String} {r : Bool} (km : PySem.W.kitMeta n = true) (s : PySem.W.subIn K (.ref B) (.type n) = some r) : PySem.W.kitOne K (.ref B) (.type n) = some r := by
  unfold PySem.W.kitOne
  rw [if_neg (by simp)]
  show (if PySem.W.kitMeta n = true then PySem.W.subIn K (.ref B) (.type n) else none) = _
  rw [if_pos km]
  exact s
theorem vals_app {vs ws : List V} {us xs : List Value} (h : Vals vs us) (g : Vals ws xs) : Vals (vs ++ ws) (us ++ xs) := by
  induction h with
  | nil => exact g
  | cons r _ ih => exact .cons r ih
theorem kb_of {K : PySem.W.Frag} {fd : FuncData} {ps : List Str} {n : Nat} (b : Binds K fd ps []) (hn : n = ps.length) : KBn K fd ps n [] (fun us ws => us ++ ws ++ []) (fun vs zs => vs ++ zs ++ []) where
  to := fun s us ws X l1 l2 => by
    cases ws with
    | cons w ws => cases l2
    | nil =>
      have := b s us X (by rw [List.append_nil, l1, hn])
      simpa using this
  rel := fun r1 r2 => vals_app (vals_app r1 r2) .nil
theorem bindsS1 {K : PySem.W.Frag} {f : Addr} {fd : FuncData} (F : FunD K "single" "Position.single" (defArgs s_Position_single) (defBody s_Position_single) (defScope s_Position_single) [.int 1] [] f fd) : ∃ ds, Vals [.int 1] ds ∧ Binds K fd ["cls", "goods", "good", "count"] ds :=
  F.binds1 (ps := ["cls", "goods", "good", "count"]) 3 0 (by simp) rfl (fun T kV doc pm an cdv ct us its l1 l2 => match us, its, l1, l2 with
    | [_, _, _], [_], _, _ => ⟨_, rfl, rfl⟩)
theorem kit_cl {K : PySem.W.Frag} {n : String} {M : Addr} {r : Bool} (ic : PySem.W.isClsIn K M = true) (ty : PySem.W.typeIn K (.ref M) = some (.type "type")) (s : PySem.W.subIn K (.type n) (.ref M) = some r) : PySem.W.kitOne K (.type n) (.ref M) = some r := by
  have ic' : (PySem.W.clsIn K M).isSome = true := ic
  unfold PySem.W.kitOne
  rw [if_neg (by simp)]
  show (if ((PySem.W.clsIn K M).isSome && PySem.W.typeIn K (.ref M) == some (.type "type")) = true then PySem.W.subIn K (.type n) (.ref M) else none) = _
  rw [if_pos (by rw [ic', ty]; simp)]
  exact s
theorem bindsP0 {K : PySem.W.Frag} {f TU : Addr} {fd : FuncData} (F : FunD K "__init__" "Parcels.__init__" (defArgs s_Parcels___init) (defBody s_Parcels___init) (defScope s_Parcels___init) [.ref TU] [] f fd) : Binds K fd ["self", "goods", "rows"] [] := by
  obtain ⟨ds, h, b⟩ := F.binds1 (ps := ["self", "goods", "rows"]) 3 1 (by simp) rfl (fun T kV doc pm an cdv ct us its l1 l2 => match us, its, l1, l2 with
    | [_, _, _], [_], _, _ => ⟨_, rfl, rfl⟩)
  cases h
  exact b
theorem fundT {K : PySem.W.Frag} {x qual : Str} {st : Stmt} {f T TU : Addr} {oc c2 : Value} {od an d2 : Option Addr} {osl s2 : Array (Option Value)} {kV doc pm cdv ct : Value} {n : Nat} (l : K.lookup f = some ⟨oc, od, .func (PySem.W.fnOf x qual (defArgs st) (defBody st) (defScope st) (.ref T) kV doc pm an cdv ct), osl⟩)
    (c : PySem.W.codeIn K cdv qual = true) (k : PySem.W.keepIn K (.ref f) = true) (d : K.lookup T = some ⟨c2, d2, .seq #[.ref TU] n, s2⟩) : FunD K x qual (defArgs st) (defBody st) (defScope st) [.ref TU] [] f (PySem.W.fnOf x qual (defArgs st) (defBody st) (defScope st) (.ref T) kV doc pm an cdv ct) :=
  ⟨⟨oc, od, _, _, doc, pm, an, cdv, ct, osl, rfl, l, c, .inr ⟨by simp, T, _, [.ref TU], n, rfl, d, rfl, .cons rfl .nil⟩, .inl rfl⟩, k⟩
theorem kit_ne {K : PySem.W.Frag} {A D : Addr} (h1 : PySem.W.subIn K (.ref A) (.ref A) = some true) (h2 : PySem.W.subIn K (.ref A) (.ref D) = some false) : A ≠ D := fun e => by rw [← e, h1] at h2; cases h2
abbrev s_BadParcels___init : Stmt := inClass (top 8) 0
theorem sc_BadParcels___init : FnScope ["self", "index", "what"] ["self", "index", "what"] (defScope s_BadParcels___init) := ⟨rfl, rfl, rfl, by decide +kernel, rfl, by decide +kernel, by decide +kernel⟩
theorem ok_BadParcels {P : Program} {w : World} {K : PySem.W.Frag} {mg : Str → Option Value} {base : Heap} {B : Addr} {f : Addr} {fd : FuncData} (F : Fun K "__init__" "BadParcels.__init__" s_BadParcels___init f fd) (ox : OexC K B) (nw0 : PySem.W.findIn K (.ref B) "index" = some none) (nw1 : PySem.W.findIn K (.ref B) "what" = some none) : FnOk P w K mg base CX0 1 f fd ["self", "index", "what"] (ErrR K B ["index", "what"]) :=
  ok_err2 F sc_BadParcels___init ox nw0 nw1 fun cdv A outer s H E => pss_cons (ps_ost (pv 0) (pv 1)) (pss_one (ps_ost (pv 0) (pv 2)))
end KT

set_option Elab.async false
set_option linter.all false
set_option maxRecDepth 100000
set_option maxHeartbeats 0
set_option pp.deepTerms false
set_option pp.deepTerms.threshold 8

namespace KT
open PySem PySem.Spec PyProof.Rows L2 DL
theorem ns_ok {K : PySem.W.Frag} {N : Addr} {c : Value} {d : Option Addr} {es : Array DictEntry} {n : Nat} {sl : Array (Option Value)} (l : K.lookup N = some ⟨c, d, .dict es n, sl⟩) (q : (es.toList.all fun e => match e.key with | .str _ _ => true | _ => false) = true) : PySem.W.nsOkIn K N = true := by
  unfold PySem.W.nsOkIn
  rw [l]
  show (es.all fun e => match e.key with | .str _ _ => true | _ => false) = true
  rw [← Array.all_toList]
  exact q
theorem fn_of_ty {K : PySem.W.Frag} {f : Addr} (t : PySem.W.typeIn K (.ref f) = some (.type "function")) : ∃ of, K.lookup f = some of ∧ of.cls = .type "function" := by
  obtain ⟨o, ho, e⟩ := Option.map_eq_some_iff.mp (show (K.lookup f).map (·.cls) = some (.type "function") from t)
  exact ⟨o, ho, e⟩
theorem all_mk {l : PySem.W.OpenLaw} {w : World} {K : PySem.W.Frag} {h : Heap} {mg : Str → Option Value} {fa : Addr} (X : K.In h) (G : h.Ns mainGlobals mg) (hfa : mg "law" = some (.ref fa))
    {C f_init p_single f_single dT_single p_is_flat f_is_flat f_add f_mul PC f_pinit dT_pinit p_things f_things OG ME TU NT BA NBA BG NBG BP NBP NA NNA f_xiBA f_xiBG f_xiBP f_xiNA f_is_name f_is_sequence f_is_integer f_is_whole f_is_thing_name f_is_row f_is_number_row f_checked_goods f_check_same_goods f_contents_fault f_row_fault f_sum_apart f_law_bag f_law_take f_law_of f_law_names f_law_content_rows f_law_sum f_law_market f_law_is_name f_law_is_list f_law_are_things f_law_word f_law_due f_law_told f_law_held f_law_negative f_law_flat f_law_spoilt f_law : Addr} {r_single : List Value} {r_is_flat : List Value} {r_things : List Value} {oc_init : Value} {od_init : Option Addr} {an_init : Option Addr} {sl_init : Array (Option Value)} {kV_init : Value} {dc_init : Value} {pm_init : Value} {cd_init : Value} {ct_init : Value} {oc_single : Value} {od_single : Option Addr} {an_single : Option Addr} {sl_single : Array (Option Value)} {kV_single : Value} {dc_single : Value} {pm_single : Value} {cd_single : Value} {ct_single : Value} {c2_single : Value} {d2_single : Option Addr} {s2_single : Array (Option Value)} {tk_single : Tok} {n2_single : Nat} {oc_is_flat : Value} {od_is_flat : Option Addr} {an_is_flat : Option Addr} {sl_is_flat : Array (Option Value)} {kV_is_flat : Value} {dc_is_flat : Value} {pm_is_flat : Value} {cd_is_flat : Value} {ct_is_flat : Value} {oc_add : Value} {od_add : Option Addr} {an_add : Option Addr} {sl_add : Array (Option Value)} {kV_add : Value} {dc_add : Value} {pm_add : Value} {cd_add : Value} {ct_add : Value} {oc_mul : Value} {od_mul : Option Addr} {an_mul : Option Addr} {sl_mul : Array (Option Value)} {kV_mul : Value} {dc_mul : Value} {pm_mul : Value} {cd_mul : Value} {ct_mul : Value} {oc_pinit : Value} {od_pinit : Option Addr} {an_pinit : Option Addr} {sl_pinit : Array (Option Value)} {kV_pinit : Value} {dc_pinit : Value} {pm_pinit : Value} {cd_pinit : Value} {ct_pinit : Value} {c2_pinit : Value} {d2_pinit : Option Addr} {s2_pinit : Array (Option Value)}  {n2_pinit : Nat} {oc_things : Value} {od_things : Option Addr} {an_things : Option Addr} {sl_things : Array (Option Value)} {kV_things : Value} {dc_things : Value} {pm_things : Value} {cd_things : Value} {ct_things : Value} {fo : Option Value} {ro : Option Value} {oTU : Option Addr} {nTU : Nat} {sTU : Array (Option Value)} {nmBA : Str} {qnBA : Str} {bsBA : List Value} {bmBA : List Value} {snBA : List Str} {subBA : List Value} {abBA : Bool} {colBA : Option Bool} {ddBA : Option Addr} {i0BA : Option Value} {i1BA : Option Value} {i2BA : Option Value} {i3BA : Option Value} {i5BA : Option Value} {nmBG : Str} {qnBG : Str} {bsBG : List Value} {bmBG : List Value} {snBG : List Str} {subBG : List Value} {abBG : Bool} {colBG : Option Bool} {ddBG : Option Addr} {i0BG : Option Value} {i1BG : Option Value} {i2BG : Option Value} {i3BG : Option Value} {i5BG : Option Value} {nmBP : Str} {qnBP : Str} {bsBP : List Value} {bmBP : List Value} {snBP : List Str} {subBP : List Value} {abBP : Bool} {colBP : Option Bool} {ddBP : Option Addr} {i0BP : Option Value} {i1BP : Option Value} {i2BP : Option Value} {i3BP : Option Value} {i5BP : Option Value} {nmNA : Str} {qnNA : Str} {bsNA : List Value} {bmNA : List Value} {snNA : List Str} {subNA : List Value} {abNA : Bool} {colNA : Option Bool} {ddNA : Option Addr} {i0NA : Option Value} {i1NA : Option Value} {i2NA : Option Value} {i3NA : Option Value} {i5NA : Option Value} {oc_xiBA : Value} {od_xiBA : Option Addr} {an_xiBA : Option Addr} {sl_xiBA : Array (Option Value)} {kV_xiBA : Value} {dc_xiBA : Value} {pm_xiBA : Value} {cd_xiBA : Value} {ct_xiBA : Value} {oc_xiBG : Value} {od_xiBG : Option Addr} {an_xiBG : Option Addr} {sl_xiBG : Array (Option Value)} {kV_xiBG : Value} {dc_xiBG : Value} {pm_xiBG : Value} {cd_xiBG : Value} {ct_xiBG : Value} {oc_xiBP : Value} {od_xiBP : Option Addr} {an_xiBP : Option Addr} {sl_xiBP : Array (Option Value)} {kV_xiBP : Value} {dc_xiBP : Value} {pm_xiBP : Value} {cd_xiBP : Value} {ct_xiBP : Value} {oc_xiNA : Value} {od_xiNA : Option Addr} {an_xiNA : Option Addr} {sl_xiNA : Array (Option Value)} {kV_xiNA : Value} {dc_xiNA : Value} {pm_xiNA : Value} {cd_xiNA : Value} {ct_xiNA : Value} {oc_is_name : Value} {od_is_name : Option Addr} {an_is_name : Option Addr} {sl_is_name : Array (Option Value)} {kV_is_name : Value} {dc_is_name : Value} {pm_is_name : Value} {cd_is_name : Value} {ct_is_name : Value} {oc_is_sequence : Value} {od_is_sequence : Option Addr} {an_is_sequence : Option Addr} {sl_is_sequence : Array (Option Value)} {kV_is_sequence : Value} {dc_is_sequence : Value} {pm_is_sequence : Value} {cd_is_sequence : Value} {ct_is_sequence : Value} {oc_is_integer : Value} {od_is_integer : Option Addr} {an_is_integer : Option Addr} {sl_is_integer : Array (Option Value)} {kV_is_integer : Value} {dc_is_integer : Value} {pm_is_integer : Value} {cd_is_integer : Value} {ct_is_integer : Value} {oc_is_whole : Value} {od_is_whole : Option Addr} {an_is_whole : Option Addr} {sl_is_whole : Array (Option Value)} {kV_is_whole : Value} {dc_is_whole : Value} {pm_is_whole : Value} {cd_is_whole : Value} {ct_is_whole : Value} {oc_is_thing_name : Value} {od_is_thing_name : Option Addr} {an_is_thing_name : Option Addr} {sl_is_thing_name : Array (Option Value)} {kV_is_thing_name : Value} {dc_is_thing_name : Value} {pm_is_thing_name : Value} {cd_is_thing_name : Value} {ct_is_thing_name : Value} {oc_is_row : Value} {od_is_row : Option Addr} {an_is_row : Option Addr} {sl_is_row : Array (Option Value)} {kV_is_row : Value} {dc_is_row : Value} {pm_is_row : Value} {cd_is_row : Value} {ct_is_row : Value} {oc_is_number_row : Value} {od_is_number_row : Option Addr} {an_is_number_row : Option Addr} {sl_is_number_row : Array (Option Value)} {kV_is_number_row : Value} {dc_is_number_row : Value} {pm_is_number_row : Value} {cd_is_number_row : Value} {ct_is_number_row : Value} {oc_checked_goods : Value} {od_checked_goods : Option Addr} {an_checked_goods : Option Addr} {sl_checked_goods : Array (Option Value)} {kV_checked_goods : Value} {dc_checked_goods : Value} {pm_checked_goods : Value} {cd_checked_goods : Value} {ct_checked_goods : Value} {oc_check_same_goods : Value} {od_check_same_goods : Option Addr} {an_check_same_goods : Option Addr} {sl_check_same_goods : Array (Option Value)} {kV_check_same_goods : Value} {dc_check_same_goods : Value} {pm_check_same_goods : Value} {cd_check_same_goods : Value} {ct_check_same_goods : Value} {oc_contents_fault : Value} {od_contents_fault : Option Addr} {an_contents_fault : Option Addr} {sl_contents_fault : Array (Option Value)} {kV_contents_fault : Value} {dc_contents_fault : Value} {pm_contents_fault : Value} {cd_contents_fault : Value} {ct_contents_fault : Value} {oc_row_fault : Value} {od_row_fault : Option Addr} {an_row_fault : Option Addr} {sl_row_fault : Array (Option Value)} {kV_row_fault : Value} {dc_row_fault : Value} {pm_row_fault : Value} {cd_row_fault : Value} {ct_row_fault : Value} {oc_sum_apart : Value} {od_sum_apart : Option Addr} {an_sum_apart : Option Addr} {sl_sum_apart : Array (Option Value)} {kV_sum_apart : Value} {dc_sum_apart : Value} {pm_sum_apart : Value} {cd_sum_apart : Value} {ct_sum_apart : Value} {oc_law_bag : Value} {od_law_bag : Option Addr} {an_law_bag : Option Addr} {sl_law_bag : Array (Option Value)} {kV_law_bag : Value} {dc_law_bag : Value} {pm_law_bag : Value} {cd_law_bag : Value} {ct_law_bag : Value} {oc_law_take : Value} {od_law_take : Option Addr} {an_law_take : Option Addr} {sl_law_take : Array (Option Value)} {kV_law_take : Value} {dc_law_take : Value} {pm_law_take : Value} {cd_law_take : Value} {ct_law_take : Value} {oc_law_of : Value} {od_law_of : Option Addr} {an_law_of : Option Addr} {sl_law_of : Array (Option Value)} {kV_law_of : Value} {dc_law_of : Value} {pm_law_of : Value} {cd_law_of : Value} {ct_law_of : Value} {oc_law_names : Value} {od_law_names : Option Addr} {an_law_names : Option Addr} {sl_law_names : Array (Option Value)} {kV_law_names : Value} {dc_law_names : Value} {pm_law_names : Value} {cd_law_names : Value} {ct_law_names : Value} {oc_law_content_rows : Value} {od_law_content_rows : Option Addr} {an_law_content_rows : Option Addr} {sl_law_content_rows : Array (Option Value)} {kV_law_content_rows : Value} {dc_law_content_rows : Value} {pm_law_content_rows : Value} {cd_law_content_rows : Value} {ct_law_content_rows : Value} {oc_law_sum : Value} {od_law_sum : Option Addr} {an_law_sum : Option Addr} {sl_law_sum : Array (Option Value)} {kV_law_sum : Value} {dc_law_sum : Value} {pm_law_sum : Value} {cd_law_sum : Value} {ct_law_sum : Value} {oc_law_market : Value} {od_law_market : Option Addr} {an_law_market : Option Addr} {sl_law_market : Array (Option Value)} {kV_law_market : Value} {dc_law_market : Value} {pm_law_market : Value} {cd_law_market : Value} {ct_law_market : Value} {oc_law_is_name : Value} {od_law_is_name : Option Addr} {an_law_is_name : Option Addr} {sl_law_is_name : Array (Option Value)} {kV_law_is_name : Value} {dc_law_is_name : Value} {pm_law_is_name : Value} {cd_law_is_name : Value} {ct_law_is_name : Value} {oc_law_is_list : Value} {od_law_is_list : Option Addr} {an_law_is_list : Option Addr} {sl_law_is_list : Array (Option Value)} {kV_law_is_list : Value} {dc_law_is_list : Value} {pm_law_is_list : Value} {cd_law_is_list : Value} {ct_law_is_list : Value} {oc_law_are_things : Value} {od_law_are_things : Option Addr} {an_law_are_things : Option Addr} {sl_law_are_things : Array (Option Value)} {kV_law_are_things : Value} {dc_law_are_things : Value} {pm_law_are_things : Value} {cd_law_are_things : Value} {ct_law_are_things : Value} {oc_law_word : Value} {od_law_word : Option Addr} {an_law_word : Option Addr} {sl_law_word : Array (Option Value)} {kV_law_word : Value} {dc_law_word : Value} {pm_law_word : Value} {cd_law_word : Value} {ct_law_word : Value} {oc_law_due : Value} {od_law_due : Option Addr} {an_law_due : Option Addr} {sl_law_due : Array (Option Value)} {kV_law_due : Value} {dc_law_due : Value} {pm_law_due : Value} {cd_law_due : Value} {ct_law_due : Value} {oc_law_told : Value} {od_law_told : Option Addr} {an_law_told : Option Addr} {sl_law_told : Array (Option Value)} {kV_law_told : Value} {dc_law_told : Value} {pm_law_told : Value} {cd_law_told : Value} {ct_law_told : Value} {oc_law_held : Value} {od_law_held : Option Addr} {an_law_held : Option Addr} {sl_law_held : Array (Option Value)} {kV_law_held : Value} {dc_law_held : Value} {pm_law_held : Value} {cd_law_held : Value} {ct_law_held : Value} {oc_law_negative : Value} {od_law_negative : Option Addr} {an_law_negative : Option Addr} {sl_law_negative : Array (Option Value)} {kV_law_negative : Value} {dc_law_negative : Value} {pm_law_negative : Value} {cd_law_negative : Value} {ct_law_negative : Value} {oc_law_flat : Value} {od_law_flat : Option Addr} {an_law_flat : Option Addr} {sl_law_flat : Array (Option Value)} {kV_law_flat : Value} {dc_law_flat : Value} {pm_law_flat : Value} {cd_law_flat : Value} {ct_law_flat : Value} {oc_law_spoilt : Value} {od_law_spoilt : Option Addr} {an_law_spoilt : Option Addr} {sl_law_spoilt : Array (Option Value)} {kV_law_spoilt : Value} {dc_law_spoilt : Value} {pm_law_spoilt : Value} {cd_law_spoilt : Value} {ct_law_spoilt : Value} {oc_law : Value} {od_law : Option Addr} {an_law : Option Addr} {sl_law : Array (Option Value)} {kV_law : Value} {dc_law : Value} {pm_law : Value} {cd_law : Value} {ct_law : Value} {t__CASH : Nat} {t__LETTERS : Nat} {t__LONGEST_NAME : Nat} {t__MOST_GOODS : Nat} {t__MOST_ROWS : Nat} {t__MOST_CONTENTS : Nat} {t__MOST_PIECES : Nat}
    (c_Position : PySem.W.nsIn K mainGlobals "Position" = some (some (.ref C)))
    (pg_Position : PySem.W.plainGet K C Str.empty = true)
    (hd_Position : PySem.W.hasDictIn K C = true)
    (po_Position : PySem.W.plainOver K C = true)
    (sa_Position : PySem.W.findIn K (.ref C) "__setattr__" = some (some (.builtin "object.__setattr__")))
    (mk_Position : PySem.W.makesIn K C = true)
    (kp_Position : PySem.W.keepIn K (.ref C) = true)
    (n_Position_goods : PySem.W.findIn K (.ref C) "goods" = some none)
    (n_Position_counts : PySem.W.findIn K (.ref C) "counts" = some none)
    (n_Position__rows : PySem.W.findIn K (.ref C) "_rows" = some none)
    (a_init : PySem.W.findIn K (.ref C) "__init__" = some (some (.ref f_init)))
    (l_init : K.lookup f_init = some ⟨oc_init, od_init, .func (PySem.W.fnOf "__init__" "Position.__init__" (defArgs s_Position___init) (defBody s_Position___init) (defScope s_Position___init) .none kV_init dc_init pm_init an_init cd_init ct_init), sl_init⟩)
    (c_init : PySem.W.codeIn K cd_init "Position.__init__" = true)
    (k_init : PySem.W.keepIn K (.ref f_init) = true)
    (i_init : PySem.W.isFn K (.ref f_init) = true)
    (at_single : PySem.W.findCls K (.ref C) (.type "type") "single" = some (.get (.builtin "classmethod.__get__") (.ref p_single) .none (.ref C)))
    (a_single : PySem.W.recIn K p_single "classmethod" = some (.ref f_single :: r_single))
    (l_single : K.lookup f_single = some ⟨oc_single, od_single, .func (PySem.W.fnOf "single" "Position.single" (defArgs s_Position_single) (defBody s_Position_single) (defScope s_Position_single) (.ref dT_single) kV_single dc_single pm_single an_single cd_single ct_single), sl_single⟩)
    (q_single : K.lookup dT_single = some ⟨c2_single, d2_single, .seq #[.int 1 tk_single] n2_single, s2_single⟩)
    (c_single : PySem.W.codeIn K cd_single "Position.single" = true)
    (k_single : PySem.W.keepIn K (.ref f_single) = true)
    (pa_is_flat : PySem.W.findIn K (.ref C) "is_flat" = some (some (.ref p_is_flat)))
    (pt_is_flat : PySem.W.specialIn K (.ref p_is_flat) "__get__" = some (some (.builtin "property.__get__")))
    (pk_is_flat : PySem.W.takesIn K (.ref p_is_flat) = some true)
    (a_is_flat : PySem.W.recIn K p_is_flat "property" = some (.ref f_is_flat :: r_is_flat))
    (l_is_flat : K.lookup f_is_flat = some ⟨oc_is_flat, od_is_flat, .func (PySem.W.fnOf "is_flat" "Position.is_flat" (defArgs s_Position_is_flat) (defBody s_Position_is_flat) (defScope s_Position_is_flat) .none kV_is_flat dc_is_flat pm_is_flat an_is_flat cd_is_flat ct_is_flat), sl_is_flat⟩)
    (c_is_flat : PySem.W.codeIn K cd_is_flat "Position.is_flat" = true)
    (k_is_flat : PySem.W.keepIn K (.ref f_is_flat) = true)
    (a_add : PySem.W.findIn K (.ref C) "__add__" = some (some (.ref f_add)))
    (l_add : K.lookup f_add = some ⟨oc_add, od_add, .func (PySem.W.fnOf "__add__" "Position.__add__" (defArgs s_Position___add) (defBody s_Position___add) (defScope s_Position___add) .none kV_add dc_add pm_add an_add cd_add ct_add), sl_add⟩)
    (c_add : PySem.W.codeIn K cd_add "Position.__add__" = true)
    (k_add : PySem.W.keepIn K (.ref f_add) = true)
    (i_add : PySem.W.isFn K (.ref f_add) = true)
    (a_mul : PySem.W.findIn K (.ref C) "__mul__" = some (some (.ref f_mul)))
    (l_mul : K.lookup f_mul = some ⟨oc_mul, od_mul, .func (PySem.W.fnOf "__mul__" "Position.__mul__" (defArgs s_Position___mul) (defBody s_Position___mul) (defScope s_Position___mul) .none kV_mul dc_mul pm_mul an_mul cd_mul ct_mul), sl_mul⟩)
    (c_mul : PySem.W.codeIn K cd_mul "Position.__mul__" = true)
    (k_mul : PySem.W.keepIn K (.ref f_mul) = true)
    (i_mul : PySem.W.isFn K (.ref f_mul) = true)
    (c_Parcels : PySem.W.nsIn K mainGlobals "Parcels" = some (some (.ref PC)))
    (pg_Parcels : PySem.W.plainGet K PC Str.empty = true)
    (hd_Parcels : PySem.W.hasDictIn K PC = true)
    (po_Parcels : PySem.W.plainOver K PC = true)
    (sa_Parcels : PySem.W.findIn K (.ref PC) "__setattr__" = some (some (.builtin "object.__setattr__")))
    (mk_Parcels : PySem.W.makesIn K PC = true)
    (kp_Parcels : PySem.W.keepIn K (.ref PC) = true)
    (n_Parcels_goods : PySem.W.findIn K (.ref PC) "goods" = some none)
    (n_Parcels__aparts : PySem.W.findIn K (.ref PC) "_aparts" = some none)
    (n_Parcels_rows : PySem.W.findIn K (.ref PC) "rows" = some none)
    (a_pinit : PySem.W.findIn K (.ref PC) "__init__" = some (some (.ref f_pinit)))
    (l_pinit : K.lookup f_pinit = some ⟨oc_pinit, od_pinit, .func (PySem.W.fnOf "__init__" "Parcels.__init__" (defArgs s_Parcels___init) (defBody s_Parcels___init) (defScope s_Parcels___init) (.ref dT_pinit) kV_pinit dc_pinit pm_pinit an_pinit cd_pinit ct_pinit), sl_pinit⟩)
    (q_pinit : K.lookup dT_pinit = some ⟨c2_pinit, d2_pinit, .seq #[.ref TU] n2_pinit, s2_pinit⟩)
    (c_pinit : PySem.W.codeIn K cd_pinit "Parcels.__init__" = true)
    (k_pinit : PySem.W.keepIn K (.ref f_pinit) = true)
    (i_pinit : PySem.W.isFn K (.ref f_pinit) = true)
    (pa_things : PySem.W.findIn K (.ref PC) "things" = some (some (.ref p_things)))
    (pt_things : PySem.W.specialIn K (.ref p_things) "__get__" = some (some (.builtin "property.__get__")))
    (pk_things : PySem.W.takesIn K (.ref p_things) = some true)
    (a_things : PySem.W.recIn K p_things "property" = some (.ref f_things :: r_things))
    (l_things : K.lookup f_things = some ⟨oc_things, od_things, .func (PySem.W.fnOf "things" "Parcels.things" (defArgs s_Parcels_things) (defBody s_Parcels_things) (defScope s_Parcels_things) .none kV_things dc_things pm_things an_things cd_things ct_things), sl_things⟩)
    (c_things : PySem.W.codeIn K cd_things "Parcels.things" = true)
    (k_things : PySem.W.keepIn K (.ref f_things) = true)
    (rd_C : PySem.W.readsIn K C (.type "type") = true)
    (gb_C : PySem.W.specialIn K (.ref C) "__getattribute__" = some (some (.builtin "type.__getattribute__")))
    (sf_C : PySem.W.selfFirst K C = true)
    (ca_C : PySem.W.findIn K (.ref C) "__class__" = some (some (.builtin "object.__class__")))
    (cn_C : PySem.W.specialIn K (.builtin "object.__class__") "__get__" = some (some (.builtin "getset_descriptor.__get__")))
    (ct_C : PySem.W.takesIn K (.builtin "object.__class__") = some true)
    (cm_C : PySem.W.mroIn K C (.type "object") = some true)
    (c_OtherGoods : PySem.W.nsIn K mainGlobals "OtherGoods" = some (some (.ref OG)))
    (c_MarketError : PySem.W.nsIn K mainGlobals "MarketError" = some (some (.ref ME)))
    (xn_B : PySem.W.excIn K OG [.type "ValueError", .type "Exception", .type "BaseException", .type "object"] "ValueError.__new__" = true)
    (ex_B : PySem.W.subIn K (.ref OG) (.type "BaseException") = some true)
    (ty_B : PySem.W.typeIn K (.ref OG) = some (.type "type"))
    (kp_B : PySem.W.keepIn K (.ref OG) = true)
    (fi_single : PySem.W.fnIn K f_single = true)
    (ic_C : PySem.W.isClsIn K C = true)
    (ty_C : PySem.W.typeIn K (.ref C) = some (.type "type"))
    (sl_C : PySem.W.subIn K (.type "list") (.ref C) = some false)
    (st_C : PySem.W.subIn K (.type "tuple") (.ref C) = some false)
    (si_C : PySem.W.subIn K (.type "int") (.ref C) = some false)
    (sn_C : PySem.W.subIn K (.type "NoneType") (.ref C) = some false)
    (rm_C : PySem.W.findIn K (.ref C) "__rmul__" = some none)
    (fo_i : PySem.W.findIn K (.type "int") "__mul__" = some fo)
    (ro_i : PySem.W.findIn K (.type "int") "__rmul__" = some ro)
    (c_NoThing : PySem.W.nsIn K mainGlobals "NoThing" = some (some (.ref NT)))
    (qq_pinit : K.lookup TU = some ⟨.type "tuple", oTU, .seq #[] nTU, sTU⟩)
    (ex_ME : PySem.W.subIn K (.ref ME) (.type "BaseException") = some true)
    (ic_ME : PySem.W.isClsIn K ME = true)
    (ty_ME : PySem.W.typeIn K (.ref ME) = some (.type "type"))
    (c_BadParcels : PySem.W.nsIn K mainGlobals "BadParcels" = some (some (.ref BA)))
    (l_BA : K.lookup BA = some (excClassObj nmBA qnBA BA NBA bsBA bmBA true snBA subBA abBA colBA ddBA i0BA i1BA i2BA i3BA i5BA "ValueError.__new__"))
    (h_BA : PySem.HandSPX.refsVE bmBA = true)
    (sa_BA : PySem.W.findIn K (.ref BA) "__setattr__" = some (some (.builtin "object.__setattr__")))
    (ex_BA : PySem.W.subIn K (.ref BA) (.type "BaseException") = some true)
    (ty_BA : PySem.W.typeIn K (.ref BA) = some (.type "type"))
    (kp_BA : PySem.W.keepIn K (.ref BA) = true)
    (ga_BA : PySem.W.findIn K (.ref BA) "__getattribute__" = some (some (.builtin "BaseException.__getattribute__")))
    (gg_BA : PySem.W.findIn K (.ref BA) "__getattr__" = some none)
    (hd_BA : PySem.W.hasDictIn K BA = true)
    (ic_BA : PySem.W.isClsIn K BA = true)
    (sb_BA : PySem.W.subIn K (.ref BA) (.ref BA) = some true)
    (nw_BA_index : PySem.W.findIn K (.ref BA) "index" = some none)
    (nw_BA_what : PySem.W.findIn K (.ref BA) "what" = some none)
    (a_xiBA : PySem.W.findIn K (.ref BA) "__init__" = some (some (.ref f_xiBA)))
    (l_xiBA : K.lookup f_xiBA = some ⟨oc_xiBA, od_xiBA, .func (PySem.W.fnOf "__init__" "BadParcels.__init__" (defArgs s_BadParcels___init) (defBody s_BadParcels___init) (defScope s_BadParcels___init) .none kV_xiBA dc_xiBA pm_xiBA an_xiBA cd_xiBA ct_xiBA), sl_xiBA⟩)
    (c_xiBA : PySem.W.codeIn K cd_xiBA "BadParcels.__init__" = true)
    (k_xiBA : PySem.W.keepIn K (.ref f_xiBA) = true)
    (ty_xiBA : PySem.W.typeIn K (.ref f_xiBA) = some (.type "function"))
    (c_BadGoods : PySem.W.nsIn K mainGlobals "BadGoods" = some (some (.ref BG)))
    (l_BG : K.lookup BG = some (excClassObj nmBG qnBG BG NBG bsBG bmBG true snBG subBG abBG colBG ddBG i0BG i1BG i2BG i3BG i5BG "ValueError.__new__"))
    (h_BG : PySem.HandSPX.refsVE bmBG = true)
    (sa_BG : PySem.W.findIn K (.ref BG) "__setattr__" = some (some (.builtin "object.__setattr__")))
    (ex_BG : PySem.W.subIn K (.ref BG) (.type "BaseException") = some true)
    (ty_BG : PySem.W.typeIn K (.ref BG) = some (.type "type"))
    (kp_BG : PySem.W.keepIn K (.ref BG) = true)
    (ga_BG : PySem.W.findIn K (.ref BG) "__getattribute__" = some (some (.builtin "BaseException.__getattribute__")))
    (gg_BG : PySem.W.findIn K (.ref BG) "__getattr__" = some none)
    (hd_BG : PySem.W.hasDictIn K BG = true)
    (ic_BG : PySem.W.isClsIn K BG = true)
    (sb_BG : PySem.W.subIn K (.ref BG) (.ref BG) = some true)
    (nw_BG_what : PySem.W.findIn K (.ref BG) "what" = some none)
    (a_xiBG : PySem.W.findIn K (.ref BG) "__init__" = some (some (.ref f_xiBG)))
    (l_xiBG : K.lookup f_xiBG = some ⟨oc_xiBG, od_xiBG, .func (PySem.W.fnOf "__init__" "BadGoods.__init__" (defArgs s_BadGoods___init) (defBody s_BadGoods___init) (defScope s_BadGoods___init) .none kV_xiBG dc_xiBG pm_xiBG an_xiBG cd_xiBG ct_xiBG), sl_xiBG⟩)
    (c_xiBG : PySem.W.codeIn K cd_xiBG "BadGoods.__init__" = true)
    (k_xiBG : PySem.W.keepIn K (.ref f_xiBG) = true)
    (ty_xiBG : PySem.W.typeIn K (.ref f_xiBG) = some (.type "function"))
    (c_BadPosition : PySem.W.nsIn K mainGlobals "BadPosition" = some (some (.ref BP)))
    (l_BP : K.lookup BP = some (excClassObj nmBP qnBP BP NBP bsBP bmBP true snBP subBP abBP colBP ddBP i0BP i1BP i2BP i3BP i5BP "ValueError.__new__"))
    (h_BP : PySem.HandSPX.refsVE bmBP = true)
    (sa_BP : PySem.W.findIn K (.ref BP) "__setattr__" = some (some (.builtin "object.__setattr__")))
    (ex_BP : PySem.W.subIn K (.ref BP) (.type "BaseException") = some true)
    (ty_BP : PySem.W.typeIn K (.ref BP) = some (.type "type"))
    (kp_BP : PySem.W.keepIn K (.ref BP) = true)
    (ga_BP : PySem.W.findIn K (.ref BP) "__getattribute__" = some (some (.builtin "BaseException.__getattribute__")))
    (gg_BP : PySem.W.findIn K (.ref BP) "__getattr__" = some none)
    (hd_BP : PySem.W.hasDictIn K BP = true)
    (ic_BP : PySem.W.isClsIn K BP = true)
    (sb_BP : PySem.W.subIn K (.ref BP) (.ref BP) = some true)
    (nw_BP_what : PySem.W.findIn K (.ref BP) "what" = some none)
    (a_xiBP : PySem.W.findIn K (.ref BP) "__init__" = some (some (.ref f_xiBP)))
    (l_xiBP : K.lookup f_xiBP = some ⟨oc_xiBP, od_xiBP, .func (PySem.W.fnOf "__init__" "BadPosition.__init__" (defArgs s_BadPosition___init) (defBody s_BadPosition___init) (defScope s_BadPosition___init) .none kV_xiBP dc_xiBP pm_xiBP an_xiBP cd_xiBP ct_xiBP), sl_xiBP⟩)
    (c_xiBP : PySem.W.codeIn K cd_xiBP "BadPosition.__init__" = true)
    (k_xiBP : PySem.W.keepIn K (.ref f_xiBP) = true)
    (ty_xiBP : PySem.W.typeIn K (.ref f_xiBP) = some (.type "function"))
    (c_NoAsset : PySem.W.nsIn K mainGlobals "NoAsset" = some (some (.ref NA)))
    (l_NA : K.lookup NA = some (excClassObj nmNA qnNA NA NNA bsNA bmNA true snNA subNA abNA colNA ddNA i0NA i1NA i2NA i3NA i5NA "ValueError.__new__"))
    (h_NA : PySem.HandSPX.refsVE bmNA = true)
    (sa_NA : PySem.W.findIn K (.ref NA) "__setattr__" = some (some (.builtin "object.__setattr__")))
    (ex_NA : PySem.W.subIn K (.ref NA) (.type "BaseException") = some true)
    (ty_NA : PySem.W.typeIn K (.ref NA) = some (.type "type"))
    (kp_NA : PySem.W.keepIn K (.ref NA) = true)
    (ga_NA : PySem.W.findIn K (.ref NA) "__getattribute__" = some (some (.builtin "BaseException.__getattribute__")))
    (gg_NA : PySem.W.findIn K (.ref NA) "__getattr__" = some none)
    (hd_NA : PySem.W.hasDictIn K NA = true)
    (ic_NA : PySem.W.isClsIn K NA = true)
    (sb_NA : PySem.W.subIn K (.ref NA) (.ref NA) = some true)
    (nw_NA_name : PySem.W.findIn K (.ref NA) "name" = some none)
    (a_xiNA : PySem.W.findIn K (.ref NA) "__init__" = some (some (.ref f_xiNA)))
    (l_xiNA : K.lookup f_xiNA = some ⟨oc_xiNA, od_xiNA, .func (PySem.W.fnOf "__init__" "NoAsset.__init__" (defArgs s_NoAsset___init) (defBody s_NoAsset___init) (defScope s_NoAsset___init) .none kV_xiNA dc_xiNA pm_xiNA an_xiNA cd_xiNA ct_xiNA), sl_xiNA⟩)
    (c_xiNA : PySem.W.codeIn K cd_xiNA "NoAsset.__init__" = true)
    (k_xiNA : PySem.W.keepIn K (.ref f_xiNA) = true)
    (ty_xiNA : PySem.W.typeIn K (.ref f_xiNA) = some (.type "function"))
    (su_BA_ME : PySem.W.subIn K (.ref BA) (.ref ME) = some true)
    (su_BG_ME : PySem.W.subIn K (.ref BG) (.ref ME) = some true)
    (su_BG_BA : PySem.W.subIn K (.ref BG) (.ref BA) = some false)
    (ca_BA : PySem.W.findIn K (.ref BA) "__class__" = some (some (.builtin "object.__class__")))
    (cm_BA : PySem.W.mroIn K BA (.type "object") = some true)
    (ca_BG : PySem.W.findIn K (.ref BG) "__class__" = some (some (.builtin "object.__class__")))
    (cm_BG : PySem.W.mroIn K BG (.type "object") = some true)
    (sv_BA : PySem.W.subIn K (.ref BA) (.type "ValueError") = some true)
    (a_is_name : PySem.W.nsIn K mainGlobals "is_name" = some (some (.ref f_is_name)))
    (l_is_name : K.lookup f_is_name = some ⟨oc_is_name, od_is_name, .func (PySem.W.fnOf "is_name" "is_name" (defArgs s_is_name) (defBody s_is_name) (defScope s_is_name) .none kV_is_name dc_is_name pm_is_name an_is_name cd_is_name ct_is_name), sl_is_name⟩)
    (c_is_name : PySem.W.codeIn K cd_is_name "is_name" = true)
    (k_is_name : PySem.W.keepIn K (.ref f_is_name) = true)
    (a_is_sequence : PySem.W.nsIn K mainGlobals "is_sequence" = some (some (.ref f_is_sequence)))
    (l_is_sequence : K.lookup f_is_sequence = some ⟨oc_is_sequence, od_is_sequence, .func (PySem.W.fnOf "is_sequence" "is_sequence" (defArgs s_is_sequence) (defBody s_is_sequence) (defScope s_is_sequence) .none kV_is_sequence dc_is_sequence pm_is_sequence an_is_sequence cd_is_sequence ct_is_sequence), sl_is_sequence⟩)
    (c_is_sequence : PySem.W.codeIn K cd_is_sequence "is_sequence" = true)
    (k_is_sequence : PySem.W.keepIn K (.ref f_is_sequence) = true)
    (a_is_integer : PySem.W.nsIn K mainGlobals "is_integer" = some (some (.ref f_is_integer)))
    (l_is_integer : K.lookup f_is_integer = some ⟨oc_is_integer, od_is_integer, .func (PySem.W.fnOf "is_integer" "is_integer" (defArgs s_is_integer) (defBody s_is_integer) (defScope s_is_integer) .none kV_is_integer dc_is_integer pm_is_integer an_is_integer cd_is_integer ct_is_integer), sl_is_integer⟩)
    (c_is_integer : PySem.W.codeIn K cd_is_integer "is_integer" = true)
    (k_is_integer : PySem.W.keepIn K (.ref f_is_integer) = true)
    (a_is_whole : PySem.W.nsIn K mainGlobals "is_whole" = some (some (.ref f_is_whole)))
    (l_is_whole : K.lookup f_is_whole = some ⟨oc_is_whole, od_is_whole, .func (PySem.W.fnOf "is_whole" "is_whole" (defArgs s_is_whole) (defBody s_is_whole) (defScope s_is_whole) .none kV_is_whole dc_is_whole pm_is_whole an_is_whole cd_is_whole ct_is_whole), sl_is_whole⟩)
    (c_is_whole : PySem.W.codeIn K cd_is_whole "is_whole" = true)
    (k_is_whole : PySem.W.keepIn K (.ref f_is_whole) = true)
    (a_is_thing_name : PySem.W.nsIn K mainGlobals "is_thing_name" = some (some (.ref f_is_thing_name)))
    (l_is_thing_name : K.lookup f_is_thing_name = some ⟨oc_is_thing_name, od_is_thing_name, .func (PySem.W.fnOf "is_thing_name" "is_thing_name" (defArgs s_is_thing_name) (defBody s_is_thing_name) (defScope s_is_thing_name) .none kV_is_thing_name dc_is_thing_name pm_is_thing_name an_is_thing_name cd_is_thing_name ct_is_thing_name), sl_is_thing_name⟩)
    (c_is_thing_name : PySem.W.codeIn K cd_is_thing_name "is_thing_name" = true)
    (k_is_thing_name : PySem.W.keepIn K (.ref f_is_thing_name) = true)
    (a_is_row : PySem.W.nsIn K mainGlobals "is_row" = some (some (.ref f_is_row)))
    (l_is_row : K.lookup f_is_row = some ⟨oc_is_row, od_is_row, .func (PySem.W.fnOf "is_row" "is_row" (defArgs s_is_row) (defBody s_is_row) (defScope s_is_row) .none kV_is_row dc_is_row pm_is_row an_is_row cd_is_row ct_is_row), sl_is_row⟩)
    (c_is_row : PySem.W.codeIn K cd_is_row "is_row" = true)
    (k_is_row : PySem.W.keepIn K (.ref f_is_row) = true)
    (a_is_number_row : PySem.W.nsIn K mainGlobals "is_number_row" = some (some (.ref f_is_number_row)))
    (l_is_number_row : K.lookup f_is_number_row = some ⟨oc_is_number_row, od_is_number_row, .func (PySem.W.fnOf "is_number_row" "is_number_row" (defArgs s_is_number_row) (defBody s_is_number_row) (defScope s_is_number_row) .none kV_is_number_row dc_is_number_row pm_is_number_row an_is_number_row cd_is_number_row ct_is_number_row), sl_is_number_row⟩)
    (c_is_number_row : PySem.W.codeIn K cd_is_number_row "is_number_row" = true)
    (k_is_number_row : PySem.W.keepIn K (.ref f_is_number_row) = true)
    (a_checked_goods : PySem.W.nsIn K mainGlobals "checked_goods" = some (some (.ref f_checked_goods)))
    (l_checked_goods : K.lookup f_checked_goods = some ⟨oc_checked_goods, od_checked_goods, .func (PySem.W.fnOf "checked_goods" "checked_goods" (defArgs s_checked_goods) (defBody s_checked_goods) (defScope s_checked_goods) .none kV_checked_goods dc_checked_goods pm_checked_goods an_checked_goods cd_checked_goods ct_checked_goods), sl_checked_goods⟩)
    (c_checked_goods : PySem.W.codeIn K cd_checked_goods "checked_goods" = true)
    (k_checked_goods : PySem.W.keepIn K (.ref f_checked_goods) = true)
    (a_check_same_goods : PySem.W.nsIn K mainGlobals "check_same_goods" = some (some (.ref f_check_same_goods)))
    (l_check_same_goods : K.lookup f_check_same_goods = some ⟨oc_check_same_goods, od_check_same_goods, .func (PySem.W.fnOf "check_same_goods" "check_same_goods" (defArgs s_check_same_goods) (defBody s_check_same_goods) (defScope s_check_same_goods) .none kV_check_same_goods dc_check_same_goods pm_check_same_goods an_check_same_goods cd_check_same_goods ct_check_same_goods), sl_check_same_goods⟩)
    (c_check_same_goods : PySem.W.codeIn K cd_check_same_goods "check_same_goods" = true)
    (k_check_same_goods : PySem.W.keepIn K (.ref f_check_same_goods) = true)
    (a_contents_fault : PySem.W.nsIn K mainGlobals "_contents_fault" = some (some (.ref f_contents_fault)))
    (l_contents_fault : K.lookup f_contents_fault = some ⟨oc_contents_fault, od_contents_fault, .func (PySem.W.fnOf "_contents_fault" "_contents_fault" (defArgs s_contents_fault) (defBody s_contents_fault) (defScope s_contents_fault) .none kV_contents_fault dc_contents_fault pm_contents_fault an_contents_fault cd_contents_fault ct_contents_fault), sl_contents_fault⟩)
    (c_contents_fault : PySem.W.codeIn K cd_contents_fault "_contents_fault" = true)
    (k_contents_fault : PySem.W.keepIn K (.ref f_contents_fault) = true)
    (a_row_fault : PySem.W.nsIn K mainGlobals "_row_fault" = some (some (.ref f_row_fault)))
    (l_row_fault : K.lookup f_row_fault = some ⟨oc_row_fault, od_row_fault, .func (PySem.W.fnOf "_row_fault" "_row_fault" (defArgs s_row_fault) (defBody s_row_fault) (defScope s_row_fault) .none kV_row_fault dc_row_fault pm_row_fault an_row_fault cd_row_fault ct_row_fault), sl_row_fault⟩)
    (c_row_fault : PySem.W.codeIn K cd_row_fault "_row_fault" = true)
    (k_row_fault : PySem.W.keepIn K (.ref f_row_fault) = true)
    (a_sum_apart : PySem.W.nsIn K mainGlobals "_sum_apart" = some (some (.ref f_sum_apart)))
    (l_sum_apart : K.lookup f_sum_apart = some ⟨oc_sum_apart, od_sum_apart, .func (PySem.W.fnOf "_sum_apart" "_sum_apart" (defArgs s_sum_apart) (defBody s_sum_apart) (defScope s_sum_apart) .none kV_sum_apart dc_sum_apart pm_sum_apart an_sum_apart cd_sum_apart ct_sum_apart), sl_sum_apart⟩)
    (c_sum_apart : PySem.W.codeIn K cd_sum_apart "_sum_apart" = true)
    (k_sum_apart : PySem.W.keepIn K (.ref f_sum_apart) = true)
    (a_law_bag : PySem.W.nsIn K mainGlobals "_law_bag" = some (some (.ref f_law_bag)))
    (l_law_bag : K.lookup f_law_bag = some ⟨oc_law_bag, od_law_bag, .func (PySem.W.fnOf "_law_bag" "_law_bag" (defArgs s_law_bag) (defBody s_law_bag) (defScope s_law_bag) .none kV_law_bag dc_law_bag pm_law_bag an_law_bag cd_law_bag ct_law_bag), sl_law_bag⟩)
    (c_law_bag : PySem.W.codeIn K cd_law_bag "_law_bag" = true)
    (k_law_bag : PySem.W.keepIn K (.ref f_law_bag) = true)
    (a_law_take : PySem.W.nsIn K mainGlobals "_law_take" = some (some (.ref f_law_take)))
    (l_law_take : K.lookup f_law_take = some ⟨oc_law_take, od_law_take, .func (PySem.W.fnOf "_law_take" "_law_take" (defArgs s_law_take) (defBody s_law_take) (defScope s_law_take) .none kV_law_take dc_law_take pm_law_take an_law_take cd_law_take ct_law_take), sl_law_take⟩)
    (c_law_take : PySem.W.codeIn K cd_law_take "_law_take" = true)
    (k_law_take : PySem.W.keepIn K (.ref f_law_take) = true)
    (a_law_of : PySem.W.nsIn K mainGlobals "_law_of" = some (some (.ref f_law_of)))
    (l_law_of : K.lookup f_law_of = some ⟨oc_law_of, od_law_of, .func (PySem.W.fnOf "_law_of" "_law_of" (defArgs s_law_of) (defBody s_law_of) (defScope s_law_of) .none kV_law_of dc_law_of pm_law_of an_law_of cd_law_of ct_law_of), sl_law_of⟩)
    (c_law_of : PySem.W.codeIn K cd_law_of "_law_of" = true)
    (k_law_of : PySem.W.keepIn K (.ref f_law_of) = true)
    (a_law_names : PySem.W.nsIn K mainGlobals "_law_names" = some (some (.ref f_law_names)))
    (l_law_names : K.lookup f_law_names = some ⟨oc_law_names, od_law_names, .func (PySem.W.fnOf "_law_names" "_law_names" (defArgs s_law_names) (defBody s_law_names) (defScope s_law_names) .none kV_law_names dc_law_names pm_law_names an_law_names cd_law_names ct_law_names), sl_law_names⟩)
    (c_law_names : PySem.W.codeIn K cd_law_names "_law_names" = true)
    (k_law_names : PySem.W.keepIn K (.ref f_law_names) = true)
    (a_law_content_rows : PySem.W.nsIn K mainGlobals "_law_content_rows" = some (some (.ref f_law_content_rows)))
    (l_law_content_rows : K.lookup f_law_content_rows = some ⟨oc_law_content_rows, od_law_content_rows, .func (PySem.W.fnOf "_law_content_rows" "_law_content_rows" (defArgs s_law_content_rows) (defBody s_law_content_rows) (defScope s_law_content_rows) .none kV_law_content_rows dc_law_content_rows pm_law_content_rows an_law_content_rows cd_law_content_rows ct_law_content_rows), sl_law_content_rows⟩)
    (c_law_content_rows : PySem.W.codeIn K cd_law_content_rows "_law_content_rows" = true)
    (k_law_content_rows : PySem.W.keepIn K (.ref f_law_content_rows) = true)
    (a_law_sum : PySem.W.nsIn K mainGlobals "_law_sum" = some (some (.ref f_law_sum)))
    (l_law_sum : K.lookup f_law_sum = some ⟨oc_law_sum, od_law_sum, .func (PySem.W.fnOf "_law_sum" "_law_sum" (defArgs s_law_sum) (defBody s_law_sum) (defScope s_law_sum) .none kV_law_sum dc_law_sum pm_law_sum an_law_sum cd_law_sum ct_law_sum), sl_law_sum⟩)
    (c_law_sum : PySem.W.codeIn K cd_law_sum "_law_sum" = true)
    (k_law_sum : PySem.W.keepIn K (.ref f_law_sum) = true)
    (a_law_market : PySem.W.nsIn K mainGlobals "_law_market" = some (some (.ref f_law_market)))
    (l_law_market : K.lookup f_law_market = some ⟨oc_law_market, od_law_market, .func (PySem.W.fnOf "_law_market" "_law_market" (defArgs s_law_market) (defBody s_law_market) (defScope s_law_market) .none kV_law_market dc_law_market pm_law_market an_law_market cd_law_market ct_law_market), sl_law_market⟩)
    (c_law_market : PySem.W.codeIn K cd_law_market "_law_market" = true)
    (k_law_market : PySem.W.keepIn K (.ref f_law_market) = true)
    (a_law_is_name : PySem.W.nsIn K mainGlobals "_law_is_name" = some (some (.ref f_law_is_name)))
    (l_law_is_name : K.lookup f_law_is_name = some ⟨oc_law_is_name, od_law_is_name, .func (PySem.W.fnOf "_law_is_name" "_law_is_name" (defArgs s_law_is_name) (defBody s_law_is_name) (defScope s_law_is_name) .none kV_law_is_name dc_law_is_name pm_law_is_name an_law_is_name cd_law_is_name ct_law_is_name), sl_law_is_name⟩)
    (c_law_is_name : PySem.W.codeIn K cd_law_is_name "_law_is_name" = true)
    (k_law_is_name : PySem.W.keepIn K (.ref f_law_is_name) = true)
    (a_law_is_list : PySem.W.nsIn K mainGlobals "_law_is_list" = some (some (.ref f_law_is_list)))
    (l_law_is_list : K.lookup f_law_is_list = some ⟨oc_law_is_list, od_law_is_list, .func (PySem.W.fnOf "_law_is_list" "_law_is_list" (defArgs s_law_is_list) (defBody s_law_is_list) (defScope s_law_is_list) .none kV_law_is_list dc_law_is_list pm_law_is_list an_law_is_list cd_law_is_list ct_law_is_list), sl_law_is_list⟩)
    (c_law_is_list : PySem.W.codeIn K cd_law_is_list "_law_is_list" = true)
    (k_law_is_list : PySem.W.keepIn K (.ref f_law_is_list) = true)
    (a_law_are_things : PySem.W.nsIn K mainGlobals "_law_are_things" = some (some (.ref f_law_are_things)))
    (l_law_are_things : K.lookup f_law_are_things = some ⟨oc_law_are_things, od_law_are_things, .func (PySem.W.fnOf "_law_are_things" "_law_are_things" (defArgs s_law_are_things) (defBody s_law_are_things) (defScope s_law_are_things) .none kV_law_are_things dc_law_are_things pm_law_are_things an_law_are_things cd_law_are_things ct_law_are_things), sl_law_are_things⟩)
    (c_law_are_things : PySem.W.codeIn K cd_law_are_things "_law_are_things" = true)
    (k_law_are_things : PySem.W.keepIn K (.ref f_law_are_things) = true)
    (a_law_word : PySem.W.nsIn K mainGlobals "_law_word" = some (some (.ref f_law_word)))
    (l_law_word : K.lookup f_law_word = some ⟨oc_law_word, od_law_word, .func (PySem.W.fnOf "_law_word" "_law_word" (defArgs s_law_word) (defBody s_law_word) (defScope s_law_word) .none kV_law_word dc_law_word pm_law_word an_law_word cd_law_word ct_law_word), sl_law_word⟩)
    (c_law_word : PySem.W.codeIn K cd_law_word "_law_word" = true)
    (k_law_word : PySem.W.keepIn K (.ref f_law_word) = true)
    (a_law_due : PySem.W.nsIn K mainGlobals "_law_due" = some (some (.ref f_law_due)))
    (l_law_due : K.lookup f_law_due = some ⟨oc_law_due, od_law_due, .func (PySem.W.fnOf "_law_due" "_law_due" (defArgs s_law_due) (defBody s_law_due) (defScope s_law_due) .none kV_law_due dc_law_due pm_law_due an_law_due cd_law_due ct_law_due), sl_law_due⟩)
    (c_law_due : PySem.W.codeIn K cd_law_due "_law_due" = true)
    (k_law_due : PySem.W.keepIn K (.ref f_law_due) = true)
    (a_law_told : PySem.W.nsIn K mainGlobals "_law_told" = some (some (.ref f_law_told)))
    (l_law_told : K.lookup f_law_told = some ⟨oc_law_told, od_law_told, .func (PySem.W.fnOf "_law_told" "_law_told" (defArgs s_law_told) (defBody s_law_told) (defScope s_law_told) .none kV_law_told dc_law_told pm_law_told an_law_told cd_law_told ct_law_told), sl_law_told⟩)
    (c_law_told : PySem.W.codeIn K cd_law_told "_law_told" = true)
    (k_law_told : PySem.W.keepIn K (.ref f_law_told) = true)
    (a_law_held : PySem.W.nsIn K mainGlobals "_law_held" = some (some (.ref f_law_held)))
    (l_law_held : K.lookup f_law_held = some ⟨oc_law_held, od_law_held, .func (PySem.W.fnOf "_law_held" "_law_held" (defArgs s_law_held) (defBody s_law_held) (defScope s_law_held) .none kV_law_held dc_law_held pm_law_held an_law_held cd_law_held ct_law_held), sl_law_held⟩)
    (c_law_held : PySem.W.codeIn K cd_law_held "_law_held" = true)
    (k_law_held : PySem.W.keepIn K (.ref f_law_held) = true)
    (a_law_negative : PySem.W.nsIn K mainGlobals "_law_negative" = some (some (.ref f_law_negative)))
    (l_law_negative : K.lookup f_law_negative = some ⟨oc_law_negative, od_law_negative, .func (PySem.W.fnOf "_law_negative" "_law_negative" (defArgs s_law_negative) (defBody s_law_negative) (defScope s_law_negative) .none kV_law_negative dc_law_negative pm_law_negative an_law_negative cd_law_negative ct_law_negative), sl_law_negative⟩)
    (c_law_negative : PySem.W.codeIn K cd_law_negative "_law_negative" = true)
    (k_law_negative : PySem.W.keepIn K (.ref f_law_negative) = true)
    (a_law_flat : PySem.W.nsIn K mainGlobals "_law_flat" = some (some (.ref f_law_flat)))
    (l_law_flat : K.lookup f_law_flat = some ⟨oc_law_flat, od_law_flat, .func (PySem.W.fnOf "_law_flat" "_law_flat" (defArgs s_law_flat) (defBody s_law_flat) (defScope s_law_flat) .none kV_law_flat dc_law_flat pm_law_flat an_law_flat cd_law_flat ct_law_flat), sl_law_flat⟩)
    (c_law_flat : PySem.W.codeIn K cd_law_flat "_law_flat" = true)
    (k_law_flat : PySem.W.keepIn K (.ref f_law_flat) = true)
    (a_law_spoilt : PySem.W.nsIn K mainGlobals "_law_spoilt" = some (some (.ref f_law_spoilt)))
    (l_law_spoilt : K.lookup f_law_spoilt = some ⟨oc_law_spoilt, od_law_spoilt, .func (PySem.W.fnOf "_law_spoilt" "_law_spoilt" (defArgs s_law_spoilt) (defBody s_law_spoilt) (defScope s_law_spoilt) .none kV_law_spoilt dc_law_spoilt pm_law_spoilt an_law_spoilt cd_law_spoilt ct_law_spoilt), sl_law_spoilt⟩)
    (c_law_spoilt : PySem.W.codeIn K cd_law_spoilt "_law_spoilt" = true)
    (k_law_spoilt : PySem.W.keepIn K (.ref f_law_spoilt) = true)
    (a_law : PySem.W.nsIn K mainGlobals "law" = some (some (.ref f_law)))
    (l_law : K.lookup f_law = some ⟨oc_law, od_law, .func (PySem.W.fnOf "law" "law" (defArgs s_law) (defBody s_law) (defScope s_law) .none kV_law dc_law pm_law an_law cd_law ct_law), sl_law⟩)
    (c_law : PySem.W.codeIn K cd_law "law" = true)
    (k_law : PySem.W.keepIn K (.ref f_law) = true)
    (g__CASH : PySem.W.nsIn K mainGlobals "_CASH" = some (some (.str "cash" t__CASH)))
    (g__LETTERS : PySem.W.nsIn K mainGlobals "_LETTERS" = some (some (.str "abcdefghijklmnopqrstuvwxyz" t__LETTERS)))
    (g__LONGEST_NAME : PySem.W.nsIn K mainGlobals "_LONGEST_NAME" = some (some (.int 12 t__LONGEST_NAME)))
    (g__MOST_GOODS : PySem.W.nsIn K mainGlobals "_MOST_GOODS" = some (some (.int 5 t__MOST_GOODS)))
    (g__MOST_ROWS : PySem.W.nsIn K mainGlobals "_MOST_ROWS" = some (some (.int 6 t__MOST_ROWS)))
    (g__MOST_CONTENTS : PySem.W.nsIn K mainGlobals "_MOST_CONTENTS" = some (some (.int 4 t__MOST_CONTENTS)))
    (g__MOST_PIECES : PySem.W.nsIn K mainGlobals "_MOST_PIECES" = some (some (.int 1000 t__MOST_PIECES)))
    (z_int : PySem.W.nsIn K mainGlobals "int" = some none)
    (z_abs : PySem.W.nsIn K mainGlobals "abs" = some none)
    (z_len : PySem.W.nsIn K mainGlobals "len" = some none)
    (z_range : PySem.W.nsIn K mainGlobals "range" = some none)
    (z_min : PySem.W.nsIn K mainGlobals "min" = some none)
    (z_isinstance : PySem.W.nsIn K mainGlobals "isinstance" = some none)
    (z_all : PySem.W.nsIn K mainGlobals "all" = some none)
    (z_str : PySem.W.nsIn K mainGlobals "str" = some none)
    (z_bool : PySem.W.nsIn K mainGlobals "bool" = some none)
    (z_list : PySem.W.nsIn K mainGlobals "list" = some none)
    (z_tuple : PySem.W.nsIn K mainGlobals "tuple" = some none)
    (z_set : PySem.W.nsIn K mainGlobals "set" = some none)
    (z_enumerate : PySem.W.nsIn K mainGlobals "enumerate" = some none)
    (z_iter : PySem.W.nsIn K mainGlobals "iter" = some none)
    (z_zip : PySem.W.nsIn K mainGlobals "zip" = some none)
    (z_max : PySem.W.nsIn K mainGlobals "max" = some none)
    (z_sum : PySem.W.nsIn K mainGlobals "sum" = some none)
    (z_any : PySem.W.nsIn K mainGlobals "any" = some none)
    (z_ValueError : PySem.W.nsIn K mainGlobals "ValueError" = some none)
    (z_repr : PySem.W.nsIn K mainGlobals "repr" = some none)
    : ∃ fd : FuncData, (∀ (s : Shared) (v : Value), BindsTo s fd ⟨[v], []⟩ [("_law_script", v)]) ∧ ∀ base : Heap, K.In base → base.Ns mainGlobals mg → FnOkG l.prog w K mg base (L2.CX l.prog w) 23 fa fd ["_law_script"] (spOf K sdLaw) := by
  have e := hfa.symm.trans (PySem.W.mg_of X G a_law)
  cases e
  have F_init := fun_mk (st := s_Position___init) l_init c_init k_init
  have F_single := fundI (st := s_Position_single) l_single c_single k_single q_single
  have F_is_flat := fun_mk (st := s_Position_is_flat) l_is_flat c_is_flat k_is_flat
  have F_add := fun_mk (st := s_Position___add) l_add c_add k_add
  have F_mul := fun_mk (st := s_Position___mul) l_mul c_mul k_mul
  have F_pinit := fundT (st := s_Parcels___init) l_pinit c_pinit k_pinit q_pinit
  have F_things := fun_mk (st := s_Parcels_things) l_things c_things k_things
  have F_xiBA := fun_mk (st := s_BadParcels___init) l_xiBA c_xiBA k_xiBA
  have F_xiBG := fun_mk (st := s_BadGoods___init) l_xiBG c_xiBG k_xiBG
  have F_xiBP := fun_mk (st := s_BadPosition___init) l_xiBP c_xiBP k_xiBP
  have F_xiNA := fun_mk (st := s_NoAsset___init) l_xiNA c_xiNA k_xiNA
  have F_is_name := fun_mk (st := s_is_name) l_is_name c_is_name k_is_name
  have F_is_sequence := fun_mk (st := s_is_sequence) l_is_sequence c_is_sequence k_is_sequence
  have F_is_integer := fun_mk (st := s_is_integer) l_is_integer c_is_integer k_is_integer
  have F_is_whole := fun_mk (st := s_is_whole) l_is_whole c_is_whole k_is_whole
  have F_is_thing_name := fun_mk (st := s_is_thing_name) l_is_thing_name c_is_thing_name k_is_thing_name
  have F_is_row := fun_mk (st := s_is_row) l_is_row c_is_row k_is_row
  have F_is_number_row := fun_mk (st := s_is_number_row) l_is_number_row c_is_number_row k_is_number_row
  have F_checked_goods := fun_mk (st := s_checked_goods) l_checked_goods c_checked_goods k_checked_goods
  have F_check_same_goods := fun_mk (st := s_check_same_goods) l_check_same_goods c_check_same_goods k_check_same_goods
  have F_contents_fault := fun_mk (st := s_contents_fault) l_contents_fault c_contents_fault k_contents_fault
  have F_row_fault := fun_mk (st := s_row_fault) l_row_fault c_row_fault k_row_fault
  have F_sum_apart := fun_mk (st := s_sum_apart) l_sum_apart c_sum_apart k_sum_apart
  have F_law_bag := fun_mk (st := s_law_bag) l_law_bag c_law_bag k_law_bag
  have F_law_take := fun_mk (st := s_law_take) l_law_take c_law_take k_law_take
  have F_law_of := fun_mk (st := s_law_of) l_law_of c_law_of k_law_of
  have F_law_names := fun_mk (st := s_law_names) l_law_names c_law_names k_law_names
  have F_law_content_rows := fun_mk (st := s_law_content_rows) l_law_content_rows c_law_content_rows k_law_content_rows
  have F_law_sum := fun_mk (st := s_law_sum) l_law_sum c_law_sum k_law_sum
  have F_law_market := fun_mk (st := s_law_market) l_law_market c_law_market k_law_market
  have F_law_is_name := fun_mk (st := s_law_is_name) l_law_is_name c_law_is_name k_law_is_name
  have F_law_is_list := fun_mk (st := s_law_is_list) l_law_is_list c_law_is_list k_law_is_list
  have F_law_are_things := fun_mk (st := s_law_are_things) l_law_are_things c_law_are_things k_law_are_things
  have F_law_word := fun_mk (st := s_law_word) l_law_word c_law_word k_law_word
  have F_law_due := fun_mk (st := s_law_due) l_law_due c_law_due k_law_due
  have F_law_told := fun_mk (st := s_law_told) l_law_told c_law_told k_law_told
  have F_law_held := fun_mk (st := s_law_held) l_law_held c_law_held k_law_held
  have F_law_negative := fun_mk (st := s_law_negative) l_law_negative c_law_negative k_law_negative
  have F_law_flat := fun_mk (st := s_law_flat) l_law_flat c_law_flat k_law_flat
  have F_law_spoilt := fun_mk (st := s_law_spoilt) l_law_spoilt c_law_spoilt k_law_spoilt
  have F_law := fun_mk (st := s_law) l_law c_law k_law
  have b_is_name := F_is_name.binds (ps := ["thing"]) fun _ _ _ _ _ _ us hl => match us, hl with | [_], _ => rfl
  have b_is_sequence := F_is_sequence.binds (ps := ["thing"]) fun _ _ _ _ _ _ us hl => match us, hl with | [_], _ => rfl
  have b_is_integer := F_is_integer.binds (ps := ["thing"]) fun _ _ _ _ _ _ us hl => match us, hl with | [_], _ => rfl
  have b_is_whole := F_is_whole.binds (ps := ["thing", "low", "high"]) fun _ _ _ _ _ _ us hl => match us, hl with | [_, _, _], _ => rfl
  have b_is_thing_name := F_is_thing_name.binds (ps := ["thing"]) fun _ _ _ _ _ _ us hl => match us, hl with | [_], _ => rfl
  have b_is_row := F_is_row.binds (ps := ["thing", "length"]) fun _ _ _ _ _ _ us hl => match us, hl with | [_, _], _ => rfl
  have b_is_number_row := F_is_number_row.binds (ps := ["thing", "length"]) fun _ _ _ _ _ _ us hl => match us, hl with | [_, _], _ => rfl
  have b_checked_goods := F_checked_goods.binds (ps := ["goods"]) fun _ _ _ _ _ _ us hl => match us, hl with | [_], _ => rfl
  have b_contents_fault := F_contents_fault.binds (ps := ["aparts", "contents"]) fun _ _ _ _ _ _ us hl => match us, hl with | [_, _], _ => rfl
  have b_row_fault := F_row_fault.binds (ps := ["aparts", "row"]) fun _ _ _ _ _ _ us hl => match us, hl with | [_, _], _ => rfl
  have b_sum_apart := F_sum_apart.binds (ps := ["aparts", "contents"]) fun _ _ _ _ _ _ us hl => match us, hl with | [_, _], _ => rfl
  have b_init := F_init.binds (ps := ["self", "goods", "counts"]) fun _ _ _ _ _ _ us hl => match us, hl with | [_, _, _], _ => rfl
  have b_is_flat := F_is_flat.binds (ps := ["self"]) fun _ _ _ _ _ _ us hl => match us, hl with | [_], _ => rfl
  have b_add := F_add.binds (ps := ["self", "other"]) fun _ _ _ _ _ _ us hl => match us, hl with | [_, _], _ => rfl
  have b_mul := F_mul.binds (ps := ["self", "other"]) fun _ _ _ _ _ _ us hl => match us, hl with | [_, _], _ => rfl
  have b_things := F_things.binds (ps := ["self"]) fun _ _ _ _ _ _ us hl => match us, hl with | [_], _ => rfl
  have b_law_bag := F_law_bag.binds (ps := ["_law_script", "_law_at"]) fun _ _ _ _ _ _ us hl => match us, hl with | [_, _], _ => rfl
  have b_law_take := F_law_take.binds (ps := ["_law_bag_here", "_law_many"]) fun _ _ _ _ _ _ us hl => match us, hl with | [_, _], _ => rfl
  have b_law_of := F_law_of.binds (ps := ["_law_bag_here", "_law_some"]) fun _ _ _ _ _ _ us hl => match us, hl with | [_, _], _ => rfl
  have b_law_names := F_law_names.binds (ps := ["_law_bag_here", "_law_many"]) fun _ _ _ _ _ _ us hl => match us, hl with | [_, _], _ => rfl
  have b_law_content_rows := F_law_content_rows.binds (ps := ["_law_bag_here", "_law_known"]) fun _ _ _ _ _ _ us hl => match us, hl with | [_, _], _ => rfl
  have b_law_sum := F_law_sum.binds (ps := ["_law_goods", "_law_contents", "_law_table"]) fun _ _ _ _ _ _ us hl => match us, hl with | [_, _, _], _ => rfl
  have b_law_market := F_law_market.binds (ps := ["_law_bag_here", "_law_most"]) fun _ _ _ _ _ _ us hl => match us, hl with | [_, _], _ => rfl
  have b_law_is_name := F_law_is_name.binds (ps := ["_law_thing"]) fun _ _ _ _ _ _ us hl => match us, hl with | [_], _ => rfl
  have b_law_is_list := F_law_is_list.binds (ps := ["_law_thing", "_law_least", "_law_most"]) fun _ _ _ _ _ _ us hl => match us, hl with | [_, _, _], _ => rfl
  have b_law_are_things := F_law_are_things.binds (ps := ["_law_contents", "_law_table"]) fun _ _ _ _ _ _ us hl => match us, hl with | [_, _], _ => rfl
  have b_law_word := F_law_word.binds (ps := ["_law_goods", "_law_row", "_law_table"]) fun _ _ _ _ _ _ us hl => match us, hl with | [_, _, _], _ => rfl
  have b_law_due := F_law_due.binds (ps := ["_law_goods", "_law_rows"]) fun _ _ _ _ _ _ us hl => match us, hl with | [_, _], _ => rfl
  have b_law_told := F_law_told.binds (ps := ["_law_goods", "_law_rows"]) fun _ _ _ _ _ _ us hl => match us, hl with | [_, _], _ => rfl
  have b_law_held := F_law_held.binds (ps := ["_law_goods", "_law_rows"]) fun _ _ _ _ _ _ us hl => match us, hl with | [_, _], _ => rfl
  have b_law_negative := F_law_negative.binds (ps := ["_law_count"]) fun _ _ _ _ _ _ us hl => match us, hl with | [_], _ => rfl
  have b_law_flat := F_law_flat.binds (ps := ["_law_bag_here", "_law_goods", "_law_ahead", "_law_contents"]) fun _ _ _ _ _ _ us hl => match us, hl with | [_, _, _, _], _ => rfl
  have b_law_spoilt := F_law_spoilt.binds (ps := ["_law_bag_here", "_law_goods", "_law_rows", "_law_place"]) fun _ _ _ _ _ _ us hl => match us, hl with | [_, _, _, _], _ => rfl
  have b_law := F_law.binds (ps := ["_law_script"]) fun _ _ _ _ _ _ us hl => match us, hl with | [_], _ => rfl
  have b_xiBA := F_xiBA.binds (ps := ["self", "index", "what"]) fun _ _ _ _ _ _ us hl => match us, hl with | [_, _, _], _ => rfl
  have b_xiBG := F_xiBG.binds (ps := ["self", "what"]) fun _ _ _ _ _ _ us hl => match us, hl with | [_, _], _ => rfl
  have b_xiBP := F_xiBP.binds (ps := ["self", "what"]) fun _ _ _ _ _ _ us hl => match us, hl with | [_, _], _ => rfl
  have b_xiNA := F_xiNA.binds (ps := ["self", "name"]) fun _ _ _ _ _ _ us hl => match us, hl with | [_, _], _ => rfl
  have g : ∀ {x : Str} {v : Value}, PySem.W.nsIn K mainGlobals x = some (some v) → mg x = some v := fun a => PySem.W.mg_of X G a
  have z : ∀ {x : Str}, PySem.W.nsIn K mainGlobals x = some none → mg x = none := fun a => PySem.W.mg_none_of X G a
  have TB : TxtB mg := ⟨z z_int, z z_abs, z z_len, z z_range, z z_min⟩
  have TN : TxtN mg := { TB with b_isinstance := z z_isinstance, b_all := z z_all, b_str := z z_str, b_bool := z z_bool, b_list := z z_list, b_tuple := z z_tuple, b_set := z z_set, b_enumerate := z z_enumerate, b_iter := z z_iter, b_zip := z z_zip, b_max := z z_max, b_repr := z z_repr, k__CASH := ⟨_, g g__CASH⟩, k__LETTERS := ⟨_, g g__LETTERS⟩, k__LONGEST_NAME := ⟨_, g g__LONGEST_NAME⟩, k__MOST_GOODS := ⟨_, g g__MOST_GOODS⟩ }
  have na : ∀ n : Str, (["goods", "counts", "_rows"] : List Str).contains n = true → NoAttr K C n := fun n hn => by
    have hn' : n ∈ (["goods", "counts", "_rows"] : List Str) := List.contains_iff_mem.mp hn
    simp only [List.mem_cons, List.not_mem_nil, or_false] at hn'
    rcases hn' with rfl | rfl | rfl
    · exact n_Position_goods
    · exact n_Position_counts
    · exact n_Position__rows
  have naP : ∀ n : Str, (["goods", "_aparts", "rows"] : List Str).contains n = true → NoAttr K PC n := fun n hn => by
    have hn' : n ∈ (["goods", "_aparts", "rows"] : List Str) := List.contains_iff_mem.mp hn
    simp only [List.mem_cons, List.not_mem_nil, or_false] at hn'
    rcases hn' with rfl | rfl | rfl
    · exact n_Parcels_goods
    · exact n_Parcels__aparts
    · exact n_Parcels_rows
  have cl : Cls K C := ⟨pg_Position, hd_Position, po_Position, sa_Position⟩
  have clP : Cls K PC := ⟨pg_Parcels, hd_Parcels, po_Parcels, sa_Parcels⟩
  have TP : TxtP K mg C C := { TN with cl_Position := cl, na_Position := na, c_Position := g c_Position, b_sum := z z_sum }
  have TQ : TxtQ K mg C C OG := { TP with b_any := z z_any, c_OtherGoods := g c_OtherGoods, oe_OtherGoods := ⟨xn_B, kp_B, ex_B, ty_B⟩, si_Position := ⟨ca_C, cn_C, ct_C, cm_C⟩, cr_Position := ⟨rd_C, gb_C⟩, no_list := kit_cl ic_C ty_C sl_C, no_tup := kit_cl ic_C ty_C st_C, no_int := kit_cl ic_C ty_C si_C, no_non := kit_cl ic_C ty_C sn_C }
  have oex_BA : OexC K BA := ⟨⟨_, _, _, _, _, _, _, _, _, _, _, _, _, _, _, l_BA, h_BA⟩, sa_BA, ex_BA, ty_BA, kp_BA⟩
  have xf_BA : XfC K BA := ⟨ga_BA, gg_BA, ex_BA, hd_BA⟩
  have exm_BA := exm_ref ex_BA ic_BA ty_BA sb_BA
  have oex_BG : OexC K BG := ⟨⟨_, _, _, _, _, _, _, _, _, _, _, _, _, _, _, l_BG, h_BG⟩, sa_BG, ex_BG, ty_BG, kp_BG⟩
  have xf_BG : XfC K BG := ⟨ga_BG, gg_BG, ex_BG, hd_BG⟩
  have exm_BG := exm_ref ex_BG ic_BG ty_BG sb_BG
  have oex_BP : OexC K BP := ⟨⟨_, _, _, _, _, _, _, _, _, _, _, _, _, _, _, l_BP, h_BP⟩, sa_BP, ex_BP, ty_BP, kp_BP⟩
  have xf_BP : XfC K BP := ⟨ga_BP, gg_BP, ex_BP, hd_BP⟩
  have exm_BP := exm_ref ex_BP ic_BP ty_BP sb_BP
  have oex_NA : OexC K NA := ⟨⟨_, _, _, _, _, _, _, _, _, _, _, _, _, _, _, l_NA, h_NA⟩, sa_NA, ex_NA, ty_NA, kp_NA⟩
  have xf_NA : XfC K NA := ⟨ga_NA, gg_NA, ex_NA, hd_NA⟩
  have exm_NA := exm_ref ex_NA ic_NA ty_NA sb_NA
  have exm_BA_ME := exm_ref ex_ME ic_ME ty_ME su_BA_ME
  have exm_BG_ME := exm_ref ex_ME ic_ME ty_ME su_BG_ME
  have exm_BG_BA := exm_ref ex_BA ic_BA ty_BA su_BG_BA
  have TR : TxtR K mg C C OG PC NT := { TQ with cl_Parcels := clP, na_Parcels := naP, c_Parcels := g c_Parcels, c_NoThing := g c_NoThing }
  have TS : TxtS K mg C C OG PC NT := { TR with k__MOST_ROWS := ⟨_, g g__MOST_ROWS⟩, k__MOST_CONTENTS := ⟨_, g g__MOST_CONTENTS⟩, k__MOST_PIECES := ⟨_, g g__MOST_PIECES⟩ }
  have TT : TxtT K mg C C OG PC NT BA := { TS with c_BadParcels := g c_BadParcels }
  have TL : TxtL K mg C C OG PC NT BA ME BG := { TT with c_MarketError := g c_MarketError, c_BadGoods := g c_BadGoods, b_ValueError := z z_ValueError, xf_BadGoods := xf_BG, xf_BadParcels := xf_BA, n_BadGoods_what := nw_BG_what, n_BadParcels_what := nw_BA_what, n_BadParcels_index := nw_BA_index, exm_G := exm_BG_ME, exm_A := exm_BA_ME, ec_G := ⟨ga_BG, gg_BG, ex_BG, hd_BG, ca_BG, cn_C, ct_C, cm_BG⟩, ec_A := ⟨ga_BA, gg_BA, ex_BA, hd_BA, ca_BA, cn_C, ct_C, cm_BA⟩, kv_A := kit_ty (by decide +kernel) sv_BA, ka_A := kit_own, kg_A := kit_ref2 (kit_ne sb_BG su_BG_BA) ic_BA ty_BA su_BG_BA, kg_G := kit_own }
  obtain ⟨dl, vl, bl⟩ := bindsS1 F_single
  refine ⟨PySem.W.fnOf "law" "law" (defArgs s_law) (defBody s_law) (defScope s_law) .none kV_law dc_law pm_law an_law cd_law ct_law, fun s v => .of_eq rfl, fun base Kb Gb => ?_⟩
  let X_BadParcels : DefX l.prog w K mg base "BadParcels" BA ["index", "what"] := ⟨_, _, _, oex_BA, a_xiBA, ty_xiBA, ok_BadParcels F_xiBA oex_BA nw_BA_index nw_BA_what, b_xiBA, g c_BadParcels⟩
  let X_BadGoods : DefX l.prog w K mg base "BadGoods" BG ["what"] := ⟨_, _, _, oex_BG, a_xiBG, ty_xiBG, ok_BadGoods F_xiBG oex_BG nw_BG_what, b_xiBG, g c_BadGoods⟩
  let X_BadPosition : DefX l.prog w K mg base "BadPosition" BP ["what"] := ⟨_, _, _, oex_BP, a_xiBP, ty_xiBP, ok_BadPosition F_xiBP oex_BP nw_BP_what, b_xiBP, g c_BadPosition⟩
  let X_NoAsset : DefX l.prog w K mg base "NoAsset" NA ["name"] := ⟨_, _, _, oex_NA, a_xiNA, ty_xiNA, ok_NoAsset F_xiNA oex_NA nw_NA_name, b_xiNA, g c_NoAsset⟩
  let D_is_sequence : DefD l.prog w K mg base "is_sequence" 1 ["thing"] sdSeqX := ⟨_, _, ok_seqX F_is_sequence TN, g a_is_sequence, k_is_sequence, b_is_sequence⟩
  let D_is_sequence_Y : DefD l.prog w K mg base "is_sequence" 1 ["thing"] sdSeqY := ⟨_, _, ok_seqY F_is_sequence TN, g a_is_sequence, k_is_sequence, b_is_sequence⟩
  let D_is_integer : DefD l.prog w K mg base "is_integer" 1 ["thing"] sdIntX := ⟨_, _, ok_integerX F_is_integer TN, g a_is_integer, k_is_integer, b_is_integer⟩
  let D_is_whole : DefD l.prog w K mg base "is_whole" 3 ["thing", "low", "high"] sdWholeX := ⟨_, _, ok_wholeX D_is_integer F_is_whole TN, g a_is_whole, k_is_whole, b_is_whole⟩
  let D_is_row : DefD l.prog w K mg base "is_row" 3 ["thing", "length"] sdRowX := ⟨_, _, ok_rowX D_is_sequence F_is_row TN, g a_is_row, k_is_row, b_is_row⟩
  let D_is_number_row : DefD l.prog w K mg base "is_number_row" 5 ["thing", "length"] sdNumX := ⟨_, _, ok_numX D_is_row D_is_integer F_is_number_row TN, g a_is_number_row, k_is_number_row, b_is_number_row⟩
  let D_is_name : DefD l.prog w K mg base "is_name" 1 ["thing"] sdNameX := ⟨_, _, ok_nameX F_is_name TN, g a_is_name, k_is_name, b_is_name⟩
  let D_is_thing_name : DefD l.prog w K mg base "is_thing_name" 3 ["thing"] sdThingX := ⟨_, _, ok_thingX D_is_name F_is_thing_name TN, g a_is_thing_name, k_is_thing_name, b_is_thing_name⟩
  let D_checked_goods : DefD l.prog w K mg base "checked_goods" 3 ["goods"] (sdGoodsX BG) := ⟨_, _, ok_goodsX X_BadGoods D_is_sequence D_is_name F_checked_goods TN, g a_checked_goods, k_checked_goods, b_checked_goods⟩
  let D_check_same_goods : DefR l.prog w K mg base "check_same_goods" 1 (starD 1 (sdSameP C OG)) := ⟨_, ok_sameP F_check_same_goods TQ, g a_check_same_goods, k_check_same_goods⟩
  let K_Position : DefK l.prog w K mg base C 7 3 ["self", "goods", "counts"] [] [] (sdPInit C BG BP) := ⟨_, _, _, _, ⟨mk_Position, a_init, i_init, kp_Position⟩, ok_pinit X_BadPosition D_checked_goods D_is_row D_is_number_row F_init TP, kb_of b_init rfl, kb_of b_init rfl⟩
  let D_Position_is_flat : DefP l.prog w K mg base C "is_flat" 1 ["self"] (sdIsFlat C) := ⟨_, _, _, ok_pflatQ F_is_flat TQ, b_is_flat, ⟨pa_is_flat, pt_is_flat, pk_is_flat, ⟨_, a_is_flat⟩⟩⟩
  let D_Position___add : DefB l.prog w K mg base C .Add 9 ["self", "other"] (sdPOp C OG (fun x y => x + y)) := ⟨_, _, ok_padd D_check_same_goods K_Position F_add TQ, b_add, ⟨sf_C, by rw [show PySem.dunder Operator.Add.info.2 = ("__add__" : Str) by first | rfl | decide +kernel]; exact a_add, i_add⟩⟩
  let D_Position___mul : DefBT l.prog w K mg base C .Mult 9 ["self", "other"] (sdPMul C) := ⟨_, _, ok_pmul D_is_integer K_Position F_mul TQ, b_mul, ⟨sf_C, by rw [show PySem.dunder Operator.Mult.info.2 = ("__mul__" : Str) by first | rfl | decide +kernel]; exact a_mul, i_mul, by rw [show PySem.dunderR Operator.Mult.info.2 = ("__rmul__" : Str) by first | rfl | decide +kernel]; exact rm_C, ⟨_, by rw [show PySem.dunder Operator.Mult.info.2 = ("__mul__" : Str) by first | rfl | decide +kernel]; exact fo_i⟩, ⟨_, by rw [show PySem.dunderR Operator.Mult.info.2 = ("__rmul__" : Str) by first | rfl | decide +kernel]; exact ro_i⟩, si_C⟩⟩
  let D_Position_single_2 : DefC l.prog w K mg base C (.type "type") "single" 9 (dfltD 3 [.int 1] (sdPSingle C BG BP NA)) := ⟨_, _, FnOk.dfltB (n := 3) (ok_psingle X_NoAsset D_checked_goods K_Position F_single TP) bl vl rfl (fun _ => .cons (.int _) .nil), ⟨at_single, ⟨_, a_single⟩, fi_single⟩⟩
  let D_sum_apart : DefD l.prog w K mg base "_sum_apart" 11 ["aparts", "contents"] (sdSumA C) := ⟨_, _, ok_suma D_Position___mul D_Position___add F_sum_apart TQ, g a_sum_apart, k_sum_apart, b_sum_apart⟩
  let D_contents_fault : DefD l.prog w K mg base "_contents_fault" 13 ["aparts", "contents"] (sdContF C) := ⟨_, _, ok_contf D_is_sequence D_is_row D_is_whole D_sum_apart D_Position_is_flat F_contents_fault TS, g a_contents_fault, k_contents_fault, b_contents_fault⟩
  let D_row_fault : DefD l.prog w K mg base "_row_fault" 15 ["aparts", "row"] (sdRowF C) := ⟨_, _, ok_rowf D_is_row D_is_thing_name D_contents_fault F_row_fault TS, g a_row_fault, k_row_fault, b_row_fault⟩
  have OPI := @ok_parinit _ _ _ _ _ _ _ _ _ _ _ _ _ _ _ X_BadParcels D_is_sequence_Y D_checked_goods D_Position_single_2 D_row_fault D_sum_apart _ _ F_pinit TT
  let K_Parcels2 : DefK l.prog w K mg base PC 17 3 ["self", "goods", "rows"] [] [] (sdParInit PC C BG BA) := ⟨_, _, _, _, ⟨mk_Parcels, a_pinit, i_pinit, kp_Parcels⟩, OPI, kb_of (bindsP0 F_pinit) rfl, kb_of (bindsP0 F_pinit) rfl⟩
  let D_Parcels_things : DefP l.prog w K mg base PC "things" 1 ["self"] (sdThings PC C) := ⟨_, _, _, ok_things F_things TR, b_things, ⟨pa_things, pt_things, pk_things, ⟨_, a_things⟩⟩⟩
  let D_law_bag : DefD l.prog w K mg base "_law_bag" 1 ["_law_script", "_law_at"] sdBag := ⟨_, _, ok_bag F_law_bag TN, g a_law_bag, k_law_bag, b_law_bag⟩
  let D_law_take : DefD l.prog w K mg base "_law_take" 1 ["_law_bag_here", "_law_many"] sdTake := ⟨_, _, ok_take F_law_take TB, g a_law_take, k_law_take, b_law_take⟩
  let D_law_of : DefD l.prog w K mg base "_law_of" 3 ["_law_bag_here", "_law_some"] sdOf := ⟨_, _, ok_of D_law_take F_law_of TB, g a_law_of, k_law_of, b_law_of⟩
  let D_law_names : DefD l.prog w K mg base "_law_names" 5 ["_law_bag_here", "_law_many"] sdNames := ⟨_, _, ok_names D_law_take D_law_of F_law_names TN, g a_law_names, k_law_names, b_law_names⟩
  let D_law_content_rows : DefD l.prog w K mg base "_law_content_rows" 5 ["_law_bag_here", "_law_known"] sdCont := ⟨_, _, ok_cont D_law_take D_law_of F_law_content_rows TN, g a_law_content_rows, k_law_content_rows, b_law_content_rows⟩
  let D_law_sum : DefD l.prog w K mg base "_law_sum" 1 ["_law_goods", "_law_contents", "_law_table"] sdSum := ⟨_, _, ok_sum F_law_sum TP, g a_law_sum, k_law_sum, b_law_sum⟩
  let D_law_market : DefD l.prog w K mg base "_law_market" 7 ["_law_bag_here", "_law_most"] sdMarket := ⟨_, _, ok_market D_law_take D_law_names D_law_content_rows D_law_sum F_law_market TP, g a_law_market, k_law_market, b_law_market⟩
  let D_law_is_name : DefD l.prog w K mg base "_law_is_name" 1 ["_law_thing"] sdNameX := ⟨_, _, ok_lname F_law_is_name TN, g a_law_is_name, k_law_is_name, b_law_is_name⟩
  let D_law_is_list : DefD l.prog w K mg base "_law_is_list" 1 ["_law_thing", "_law_least", "_law_most"] sdList := ⟨_, _, ok_llist F_law_is_list TN, g a_law_is_list, k_law_is_list, b_law_is_list⟩
  let D_law_are_things : DefD l.prog w K mg base "_law_are_things" 3 ["_law_contents", "_law_table"] sdLThings := ⟨_, _, ok_lthings D_law_is_list D_law_is_name F_law_are_things TN, g a_law_are_things, k_law_are_things, b_law_are_things⟩
  let D_law_word : DefD l.prog w K mg base "_law_word" 5 ["_law_goods", "_law_row", "_law_table"] sdWord := ⟨_, _, ok_lword D_law_is_list D_law_is_name D_law_are_things D_law_sum F_law_word TN, g a_law_word, k_law_word, b_law_word⟩
  let D_law_due : DefD l.prog w K mg base "_law_due" 7 ["_law_goods", "_law_rows"] sdDue := ⟨_, _, ok_ldue D_law_sum D_law_word F_law_due TN, g a_law_due, k_law_due, b_law_due⟩
  let D_law_told : DefD l.prog w K mg base "_law_told" 19 ["_law_goods", "_law_rows"] sdTold := ⟨_, _, @ok_ltold _ _ _ _ _ C OG BG C PC NT BA ME K_Parcels2 D_Parcels_things _ _ F_law_told TL, g a_law_told, k_law_told, b_law_told⟩
  let D_law_held : DefDG l.prog w K mg base "_law_held" 21 ["_law_goods", "_law_rows"] sdHeld := ⟨_, _, ok_lheld D_law_due D_law_told F_law_held TL, b_law_held, g a_law_held, k_law_held⟩
  let D_law_held_L : DefDG l.prog w K mg base "_law_held" 21 ["_law_goods", "_law_rows"] (lent sdHeld) := ⟨_, _, FnOkG.lent (ok_lheld D_law_due D_law_told F_law_held TL), b_law_held, g a_law_held, k_law_held⟩
  let D_law_negative : DefD l.prog w K mg base "_law_negative" 1 ["_law_count"] sdNeg := ⟨_, _, ok_lneg F_law_negative TN, g a_law_negative, k_law_negative, b_law_negative⟩
  let D_law_flat : DefD l.prog w K mg base "_law_flat" 5 ["_law_bag_here", "_law_goods", "_law_ahead", "_law_contents"] sdFlat := ⟨_, _, ok_lflat D_law_is_list D_law_negative D_law_of F_law_flat TN, g a_law_flat, k_law_flat, b_law_flat⟩
  let D_law_spoilt : DefD l.prog w K mg base "_law_spoilt" 7 ["_law_bag_here", "_law_goods", "_law_rows", "_law_place"] sdSpoilt := ⟨_, _, ok_lspoilt D_law_is_list D_law_is_name D_law_take D_law_of D_law_flat F_law_spoilt TN, g a_law_spoilt, k_law_spoilt, b_law_spoilt⟩
  exact ok_law D_law_bag D_law_take D_law_of D_law_market D_law_due D_law_told D_law_held D_law_held_L D_law_spoilt F_law TL
theorem walk {l : PySem.W.OpenLaw} {q : Program} {loose : List Str} {XP : (Str → Option Value) → Heap → Prop} {YP : World → Heap → Prop} {d : DefRec} {K : Params → PySem.W.Frag} (hn : l.most = some 63) (hdf : d.params.defaults = [])
    (hY : ∀ (w : World) (h : Heap), YP w h → (K w.params).In h)
    (F : ∀ (w : World) (mg : Str → Option Value) (fa : Addr) (h : Heap), (K w.params).In h → h.Ns mainGlobals mg → mg d.name = some (.ref fa) →
      ∃ fd : FuncData, (∀ (s : Shared) (u : Value), BindsTo s fd ⟨[u], []⟩ [("_law_script", u)]) ∧ ∀ base : Heap, (K w.params).In base → base.Ns mainGlobals mg → FnOkG l.prog w (K w.params) mg base (L2.CX l.prog w) 23 fa fd ["_law_script"] (spOf (K w.params) sdLaw)) :
    PySem.W.WalkO q loose XP YP l.row.toRowW d [] (fun f vs => PySem.call f vs) :=
  walk_ofG (n := 63) (k := 23) (x := "_law_script") (CX := fun w => L2.CX l.prog w) (sp := fun w => spOf (K w.params) sdLaw) hn (by decide) hdf ⟨rfl, by decide, by decide⟩ hY F (fun _ _ a ns hl _ hS => law_in hS) fun _ _ _ _ _ z => cx_none z
end KT
open PySem PySem.W PyProof.Rows
set_option maxRecDepth 100000 in
set_option maxHeartbeats 0 in
theorem PySem.Challenge.cw_coveredday_k09_parcels_refused_holds : PySem.Challenge.rw_coveredday_k09_parcels_refused.Holds := by
  w_on; o_law; k_head; (case hw => w_witness2)
  k_fill
  refine KT.walk (l := PySem.Challenge.rw_coveredday_k09_parcels_refused) rfl rfl (fun w h Y => PySem.W.kIn_of Y) ?F
  case F =>
    intro w mg fa h KX G hmg
    refine' KT.all_mk KX G hmg ?c_Position ?pg_Position ?hd_Position ?po_Position ?sa_Position ?mk_Position ?kp_Position ?n_Position_goods ?n_Position_counts ?n_Position__rows ?a_init ?l_init ?c_init ?k_init ?i_init ?at_single ?a_single ?l_single ?q_single ?c_single ?k_single ?pa_is_flat ?pt_is_flat ?pk_is_flat ?a_is_flat ?l_is_flat ?c_is_flat ?k_is_flat ?a_add ?l_add ?c_add ?k_add ?i_add ?a_mul ?l_mul ?c_mul ?k_mul ?i_mul ?c_Parcels ?pg_Parcels ?hd_Parcels ?po_Parcels ?sa_Parcels ?mk_Parcels ?kp_Parcels ?n_Parcels_goods ?n_Parcels__aparts ?n_Parcels_rows ?a_pinit ?l_pinit ?q_pinit ?c_pinit ?k_pinit ?i_pinit ?pa_things ?pt_things ?pk_things ?a_things ?l_things ?c_things ?k_things ?rd_C ?gb_C ?sf_C ?ca_C ?cn_C ?ct_C ?cm_C ?c_OtherGoods ?c_MarketError ?xn_B ?ex_B ?ty_B ?kp_B ?fi_single ?ic_C ?ty_C ?sl_C ?st_C ?si_C ?sn_C ?rm_C ?fo_i ?ro_i ?c_NoThing ?qq_pinit ?ex_ME ?ic_ME ?ty_ME ?c_BadParcels ?l_BA ?h_BA ?sa_BA ?ex_BA ?ty_BA ?kp_BA ?ga_BA ?gg_BA ?hd_BA ?ic_BA ?sb_BA ?nw_BA_index ?nw_BA_what ?a_xiBA ?l_xiBA ?c_xiBA ?k_xiBA ?ty_xiBA ?c_BadGoods ?l_BG ?h_BG ?sa_BG ?ex_BG ?ty_BG ?kp_BG ?ga_BG ?gg_BG ?hd_BG ?ic_BG ?sb_BG ?nw_BG_what ?a_xiBG ?l_xiBG ?c_xiBG ?k_xiBG ?ty_xiBG ?c_BadPosition ?l_BP ?h_BP ?sa_BP ?ex_BP ?ty_BP ?kp_BP ?ga_BP ?gg_BP ?hd_BP ?ic_BP ?sb_BP ?nw_BP_what ?a_xiBP ?l_xiBP ?c_xiBP ?k_xiBP ?ty_xiBP ?c_NoAsset ?l_NA ?h_NA ?sa_NA ?ex_NA ?ty_NA ?kp_NA ?ga_NA ?gg_NA ?hd_NA ?ic_NA ?sb_NA ?nw_NA_name ?a_xiNA ?l_xiNA ?c_xiNA ?k_xiNA ?ty_xiNA ?su_BA_ME ?su_BG_ME ?su_BG_BA ?ca_BA ?cm_BA ?ca_BG ?cm_BG ?sv_BA ?a_is_name ?l_is_name ?c_is_name ?k_is_name ?a_is_sequence ?l_is_sequence ?c_is_sequence ?k_is_sequence ?a_is_integer ?l_is_integer ?c_is_integer ?k_is_integer ?a_is_whole ?l_is_whole ?c_is_whole ?k_is_whole ?a_is_thing_name ?l_is_thing_name ?c_is_thing_name ?k_is_thing_name ?a_is_row ?l_is_row ?c_is_row ?k_is_row ?a_is_number_row ?l_is_number_row ?c_is_number_row ?k_is_number_row ?a_checked_goods ?l_checked_goods ?c_checked_goods ?k_checked_goods ?a_check_same_goods ?l_check_same_goods ?c_check_same_goods ?k_check_same_goods ?a_contents_fault ?l_contents_fault ?c_contents_fault ?k_contents_fault ?a_row_fault ?l_row_fault ?c_row_fault ?k_row_fault ?a_sum_apart ?l_sum_apart ?c_sum_apart ?k_sum_apart ?a_law_bag ?l_law_bag ?c_law_bag ?k_law_bag ?a_law_take ?l_law_take ?c_law_take ?k_law_take ?a_law_of ?l_law_of ?c_law_of ?k_law_of ?a_law_names ?l_law_names ?c_law_names ?k_law_names ?a_law_content_rows ?l_law_content_rows ?c_law_content_rows ?k_law_content_rows ?a_law_sum ?l_law_sum ?c_law_sum ?k_law_sum ?a_law_market ?l_law_market ?c_law_market ?k_law_market ?a_law_is_name ?l_law_is_name ?c_law_is_name ?k_law_is_name ?a_law_is_list ?l_law_is_list ?c_law_is_list ?k_law_is_list ?a_law_are_things ?l_law_are_things ?c_law_are_things ?k_law_are_things ?a_law_word ?l_law_word ?c_law_word ?k_law_word ?a_law_due ?l_law_due ?c_law_due ?k_law_due ?a_law_told ?l_law_told ?c_law_told ?k_law_told ?a_law_held ?l_law_held ?c_law_held ?k_law_held ?a_law_negative ?l_law_negative ?c_law_negative ?k_law_negative ?a_law_flat ?l_law_flat ?c_law_flat ?k_law_flat ?a_law_spoilt ?l_law_spoilt ?c_law_spoilt ?k_law_spoilt ?a_law ?l_law ?c_law ?k_law ?g__CASH ?g__LETTERS ?g__LONGEST_NAME ?g__MOST_GOODS ?g__MOST_ROWS ?g__MOST_CONTENTS ?g__MOST_PIECES ?z_int ?z_abs ?z_len ?z_range ?z_min ?z_isinstance ?z_all ?z_str ?z_bool ?z_list ?z_tuple ?z_set ?z_enumerate ?z_iter ?z_zip ?z_max ?z_sum ?z_any ?z_ValueError ?z_repr
    (case c_Position => k_is)
    (case pg_Position => k_is)
    (case hd_Position => k_is)
    (case po_Position => k_is)
    (case sa_Position => k_is)
    (case mk_Position => k_is)
    (case kp_Position => k_is)
    (case n_Position_goods => k_is)
    (case n_Position_counts => k_is)
    (case n_Position__rows => k_is)
    (case a_init => k_is)
    (case l_init => k_is)
    (case c_init => k_is)
    (case k_init => k_is)
    (case i_init => k_is)
    (case at_single => k_is)
    (case a_single => k_is)
    (case l_single => k_is)
    (case q_single => k_is)
    (case c_single => k_is)
    (case k_single => k_is)
    (case pa_is_flat => k_is)
    (case pt_is_flat => k_is)
    (case pk_is_flat => k_is)
    (case a_is_flat => k_is)
    (case l_is_flat => k_is)
    (case c_is_flat => k_is)
    (case k_is_flat => k_is)
    (case a_add => k_is)
    (case l_add => k_is)
    (case c_add => k_is)
    (case k_add => k_is)
    (case i_add => k_is)
    (case a_mul => k_is)
    (case l_mul => k_is)
    (case c_mul => k_is)
    (case k_mul => k_is)
    (case i_mul => k_is)
    (case c_Parcels => k_is)
    (case pg_Parcels => k_is)
    (case hd_Parcels => k_is)
    (case po_Parcels => k_is)
    (case sa_Parcels => k_is)
    (case mk_Parcels => k_is)
    (case kp_Parcels => k_is)
    (case n_Parcels_goods => k_is)
    (case n_Parcels__aparts => k_is)
    (case n_Parcels_rows => k_is)
    (case a_pinit => k_is)
    (case l_pinit => k_is)
    (case q_pinit => k_is)
    (case c_pinit => k_is)
    (case k_pinit => k_is)
    (case i_pinit => k_is)
    (case pa_things => k_is)
    (case pt_things => k_is)
    (case pk_things => k_is)
    (case a_things => k_is)
    (case l_things => k_is)
    (case c_things => k_is)
    (case k_things => k_is)
    (case rd_C => k_is)
    (case gb_C => k_is)
    (case sf_C => k_is)
    (case ca_C => k_is)
    (case cn_C => k_is)
    (case ct_C => k_is)
    (case cm_C => k_is)
    (case c_OtherGoods => k_is)
    (case c_MarketError => k_is)
    (case xn_B => k_exc)
    (case ex_B => k_is)
    (case ty_B => k_is)
    (case kp_B => k_is)
    (case fi_single => k_is)
    (case ic_C => k_is)
    (case ty_C => k_is)
    (case sl_C => k_is)
    (case st_C => k_is)
    (case si_C => k_is)
    (case sn_C => k_is)
    (case rm_C => k_is)
    (case fo_i => k_is)
    (case ro_i => k_is)
    (case c_NoThing => k_is)
    (case qq_pinit => k_is)
    (case ex_ME => k_is)
    (case ic_ME => k_is)
    (case ty_ME => k_is)
    (case c_BadParcels => k_is)
    (case l_BA => k_is)
    (case h_BA => first | rfl | decide +kernel)
    (case sa_BA => k_is)
    (case ex_BA => k_is)
    (case ty_BA => k_is)
    (case kp_BA => k_is)
    (case ga_BA => k_is)
    (case gg_BA => k_is)
    (case hd_BA => k_is)
    (case ic_BA => k_is)
    (case sb_BA => k_is)
    (case nw_BA_index => k_is)
    (case nw_BA_what => k_is)
    (case a_xiBA => k_is)
    (case l_xiBA => k_is)
    (case c_xiBA => k_is)
    (case k_xiBA => k_is)
    (case ty_xiBA => k_is)
    (case c_BadGoods => k_is)
    (case l_BG => k_is)
    (case h_BG => first | rfl | decide +kernel)
    (case sa_BG => k_is)
    (case ex_BG => k_is)
    (case ty_BG => k_is)
    (case kp_BG => k_is)
    (case ga_BG => k_is)
    (case gg_BG => k_is)
    (case hd_BG => k_is)
    (case ic_BG => k_is)
    (case sb_BG => k_is)
    (case nw_BG_what => k_is)
    (case a_xiBG => k_is)
    (case l_xiBG => k_is)
    (case c_xiBG => k_is)
    (case k_xiBG => k_is)
    (case ty_xiBG => k_is)
    (case c_BadPosition => k_is)
    (case l_BP => k_is)
    (case h_BP => first | rfl | decide +kernel)
    (case sa_BP => k_is)
    (case ex_BP => k_is)
    (case ty_BP => k_is)
    (case kp_BP => k_is)
    (case ga_BP => k_is)
    (case gg_BP => k_is)
    (case hd_BP => k_is)
    (case ic_BP => k_is)
    (case sb_BP => k_is)
    (case nw_BP_what => k_is)
    (case a_xiBP => k_is)
    (case l_xiBP => k_is)
    (case c_xiBP => k_is)
    (case k_xiBP => k_is)
    (case ty_xiBP => k_is)
    (case c_NoAsset => k_is)
    (case l_NA => k_is)
    (case h_NA => first | rfl | decide +kernel)
    (case sa_NA => k_is)
    (case ex_NA => k_is)
    (case ty_NA => k_is)
    (case kp_NA => k_is)
    (case ga_NA => k_is)
    (case gg_NA => k_is)
    (case hd_NA => k_is)
    (case ic_NA => k_is)
    (case sb_NA => k_is)
    (case nw_NA_name => k_is)
    (case a_xiNA => k_is)
    (case l_xiNA => k_is)
    (case c_xiNA => k_is)
    (case k_xiNA => k_is)
    (case ty_xiNA => k_is)
    (case su_BA_ME => k_is)
    (case su_BG_ME => k_is)
    (case su_BG_BA => k_is)
    (case ca_BA => k_is)
    (case cm_BA => k_is)
    (case ca_BG => k_is)
    (case cm_BG => k_is)
    (case sv_BA => k_is)
    (case a_is_name => k_is)
    (case l_is_name => k_is)
    (case c_is_name => k_is)
    (case k_is_name => k_is)
    (case a_is_sequence => k_is)
    (case l_is_sequence => k_is)
    (case c_is_sequence => k_is)
    (case k_is_sequence => k_is)
    (case a_is_integer => k_is)
    (case l_is_integer => k_is)
    (case c_is_integer => k_is)
    (case k_is_integer => k_is)
    (case a_is_whole => k_is)
    (case l_is_whole => k_is)
    (case c_is_whole => k_is)
    (case k_is_whole => k_is)
    (case a_is_thing_name => k_is)
    (case l_is_thing_name => k_is)
    (case c_is_thing_name => k_is)
    (case k_is_thing_name => k_is)
    (case a_is_row => k_is)
    (case l_is_row => k_is)
    (case c_is_row => k_is)
    (case k_is_row => k_is)
    (case a_is_number_row => k_is)
    (case l_is_number_row => k_is)
    (case c_is_number_row => k_is)
    (case k_is_number_row => k_is)
    (case a_checked_goods => k_is)
    (case l_checked_goods => k_is)
    (case c_checked_goods => k_is)
    (case k_checked_goods => k_is)
    (case a_check_same_goods => k_is)
    (case l_check_same_goods => k_is)
    (case c_check_same_goods => k_is)
    (case k_check_same_goods => k_is)
    (case a_contents_fault => k_is)
    (case l_contents_fault => k_is)
    (case c_contents_fault => k_is)
    (case k_contents_fault => k_is)
    (case a_row_fault => k_is)
    (case l_row_fault => k_is)
    (case c_row_fault => k_is)
    (case k_row_fault => k_is)
    (case a_sum_apart => k_is)
    (case l_sum_apart => k_is)
    (case c_sum_apart => k_is)
    (case k_sum_apart => k_is)
    (case a_law_bag => k_is)
    (case l_law_bag => k_is)
    (case c_law_bag => k_is)
    (case k_law_bag => k_is)
    (case a_law_take => k_is)
    (case l_law_take => k_is)
    (case c_law_take => k_is)
    (case k_law_take => k_is)
    (case a_law_of => k_is)
    (case l_law_of => k_is)
    (case c_law_of => k_is)
    (case k_law_of => k_is)
    (case a_law_names => k_is)
    (case l_law_names => k_is)
    (case c_law_names => k_is)
    (case k_law_names => k_is)
    (case a_law_content_rows => k_is)
    (case l_law_content_rows => k_is)
    (case c_law_content_rows => k_is)
    (case k_law_content_rows => k_is)
    (case a_law_sum => k_is)
    (case l_law_sum => k_is)
    (case c_law_sum => k_is)
    (case k_law_sum => k_is)
    (case a_law_market => k_is)
    (case l_law_market => k_is)
    (case c_law_market => k_is)
    (case k_law_market => k_is)
    (case a_law_is_name => k_is)
    (case l_law_is_name => k_is)
    (case c_law_is_name => k_is)
    (case k_law_is_name => k_is)
    (case a_law_is_list => k_is)
    (case l_law_is_list => k_is)
    (case c_law_is_list => k_is)
    (case k_law_is_list => k_is)
    (case a_law_are_things => k_is)
    (case l_law_are_things => k_is)
    (case c_law_are_things => k_is)
    (case k_law_are_things => k_is)
    (case a_law_word => k_is)
    (case l_law_word => k_is)
    (case c_law_word => k_is)
    (case k_law_word => k_is)
    (case a_law_due => k_is)
    (case l_law_due => k_is)
    (case c_law_due => k_is)
    (case k_law_due => k_is)
    (case a_law_told => k_is)
    (case l_law_told => k_is)
    (case c_law_told => k_is)
    (case k_law_told => k_is)
    (case a_law_held => k_is)
    (case l_law_held => k_is)
    (case c_law_held => k_is)
    (case k_law_held => k_is)
    (case a_law_negative => k_is)
    (case l_law_negative => k_is)
    (case c_law_negative => k_is)
    (case k_law_negative => k_is)
    (case a_law_flat => k_is)
    (case l_law_flat => k_is)
    (case c_law_flat => k_is)
    (case k_law_flat => k_is)
    (case a_law_spoilt => k_is)
    (case l_law_spoilt => k_is)
    (case c_law_spoilt => k_is)
    (case k_law_spoilt => k_is)
    (case a_law => k_is)
    (case l_law => k_is)
    (case c_law => k_is)
    (case k_law => k_is)
    (case g__CASH => k_is)
    (case g__LETTERS => k_is)
    (case g__LONGEST_NAME => k_is)
    (case g__MOST_GOODS => k_is)
    (case g__MOST_ROWS => k_is)
    (case g__MOST_CONTENTS => k_is)
    (case g__MOST_PIECES => k_is)
    (case z_int => k_is)
    (case z_abs => k_is)
    (case z_len => k_is)
    (case z_range => k_is)
    (case z_min => k_is)
    (case z_isinstance => k_is)
    (case z_all => k_is)
    (case z_str => k_is)
    (case z_bool => k_is)
    (case z_list => k_is)
    (case z_tuple => k_is)
    (case z_set => k_is)
    (case z_enumerate => k_is)
    (case z_iter => k_is)
    (case z_zip => k_is)
    (case z_max => k_is)
    (case z_sum => k_is)
    (case z_any => k_is)
    (case z_ValueError => k_is)
    (case z_repr => k_is)
