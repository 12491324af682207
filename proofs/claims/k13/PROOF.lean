import PyProof.Rows.All
import Wide.All
import OpenK.AllK
import Wide.FinOn
import HandS.ForMost
import HandS.Walk
import HandS.Style
import HandS.Strs
import HandS.Conv
import HandS.Base
import HandS.Call
import HandS.Words
import HandS.List
import HandS.Lambda
import HandS.Exc
import HandS.ExcOwn
import HandS.WordsExc
import HandS.CallSlots
import HandS.Property
import HandS.ExcInit
import HandS.ExcField
import HandS.TryOnly
import HandS.IsInst
import HandS.TupAny
import HandS.TupMul
import HandS.Text
import HandS.SlotsOwn
import HandS.Iter
import HandS.Comp
import HandS.More
import HandS.Dict
import HandS.Zip
import HandS.ExcIs
import HandS.Deep
import HandS.MakeKwOnly
import HandS.ClsMeth
import HandS.Star
import HandS.IterVal
import HandS.CallLocal
import KE.KOwnIter
import HandS.Wide
import HandS.Zip0
import HandS.Small
import HandS.RaiseMore
import PyProof.ExcBaseAll.ValueError
import KE.KExcIs
import HandS.Defaults
import KE.KDictZip
import PyProof.NeKinds
import PyProof.EqKinds
import PyProof.CollectIter
import PyProof.TupleOfGen
import HandS.ExcValue
import PyProof.WalksMore
import PyProof.Rows.SumAny
import KE.KOpsOwn
import HandS.Codes
import PyProof.ListStr
import HandS.DictComp
import HandS.Ends
import PyProof.ReprRoads
import PyProof.CallFns
import PyProof.StrLawsRepr
import HandS.SortKw
import KE.SortKeyHeap
import HandS.ListItems
import HandS.NoneIn
import HandS.SortInts
import KE.SortData
import HandS.Replace
import HandS.OwnIter
import HandS.DictEq
import PySem.Challenge.RW_coveredday_k13_closed_entries_and_chains
set_option Elab.async false
set_option linter.all false
set_option maxRecDepth 100000
set_option maxHeartbeats 0
namespace RS
open PySem PySem.Spec PyProof.Rows L2
/-! ### the unlike texts among some -/
def put (a : List Str) (x : Str) : List Str := if x ∈ a then a else a ++ [x]
def uniq (xs : List Str) : List Str := xs.foldl put []
theorem uniq_snoc (xs : List Str) (x : Str) : uniq (xs ++ [x]) = put (uniq xs) x := by
  unfold uniq
  rw [List.foldl_append]
  rfl
theorem mem_put {a : List Str} {x y : Str} : y ∈ put a x ↔ y ∈ a ∨ y = x := by
  unfold put
  by_cases h : x ∈ a
  · rw [if_pos h]
    refine ⟨.inl, fun z => ?_⟩
    rcases z with z | z
    · exact z
    · rwa [z]
  · rw [if_neg h, List.mem_append, List.mem_singleton]
theorem mem_fold {y : Str} : ∀ (xs a : List Str), y ∈ xs.foldl put a ↔ y ∈ a ∨ y ∈ xs
  | [], a => by simp
  | x :: r, a => by
    rw [List.foldl_cons, mem_fold r, mem_put, List.mem_cons]
    constructor
    · rintro ((h | h) | h)
      · exact .inl h
      · exact .inr (.inl h)
      · exact .inr (.inr h)
    · rintro (h | h | h)
      · exact .inl (.inl h)
      · exact .inl (.inr h)
      · exact .inr h
theorem len_fold : ∀ (xs a : List Str), (xs.foldl put a).length ≤ a.length + xs.length ∧ (xs.Nodup → (∀ x ∈ xs, x ∉ a) → (xs.foldl put a).length = a.length + xs.length) ∧ ((xs.foldl put a).length = a.length + xs.length → xs.Nodup ∧ ∀ x ∈ xs, x ∉ a)
  | [], a => ⟨by simp, fun _ _ => by simp, fun _ => ⟨List.nodup_nil, fun _ h => (nomatch h)⟩⟩
  | x :: r, a => by
    obtain ⟨h1, h2, h3⟩ := len_fold r (put a x)
    rw [List.foldl_cons, List.length_cons]
    by_cases h : x ∈ a
    · have e : put a x = a := if_pos h
      rw [e] at h1 h2 h3 ⊢
      exact ⟨by omega, fun _ n => absurd h (n x List.mem_cons_self), fun q => by omega⟩
    · have e : put a x = a ++ [x] := if_neg h
      have l : (put a x).length = a.length + 1 := by rw [e, List.length_append]; rfl
      rw [l] at h1 h2 h3
      refine ⟨by omega, fun nd n => ?_, fun q => ?_⟩
      · obtain ⟨nx, nr⟩ := List.nodup_cons.mp nd
        have := h2 nr fun y hy => by
          rw [mem_put]
          rintro (z | z)
          · exact n y (List.mem_cons_of_mem _ hy) z
          · exact nx (z ▸ hy)
        omega
      · obtain ⟨nr, nn⟩ := h3 (by omega)
        refine ⟨List.nodup_cons.mpr ⟨fun hx => nn x hx (mem_put.mpr (.inr rfl)), nr⟩, fun y hy => ?_⟩
        rcases List.mem_cons.mp hy with rfl | hy
        · exact h
        · exact fun z => nn y hy (mem_put.mpr (.inl z))
theorem uniq_len (xs : List Str) : (uniq xs).length ≤ xs.length := by
  have := (len_fold xs []).1
  simpa [uniq] using this
theorem uniq_lt (xs : List Str) : (uniq xs).length < xs.length ↔ ¬ xs.Nodup := by
  obtain ⟨h1, h2, h3⟩ := len_fold xs []
  unfold uniq
  simp only [List.length_nil, Nat.zero_add] at h1 h2 h3
  constructor
  · intro h nd
    have := h2 nd (fun _ _ z => (nomatch z))
    omega
  · intro h
    have : (xs.foldl put []).length ≠ xs.length := fun e => h (h3 e).1
    omega
section
variable {prog : Program} {w : World} {A : Around} {R : Result → Shared → Prop} {I S : Addr} {fp wr : List Addr} {G : Array GenState → Array GenState → Prop} {n : Nat} {P : Nat → Value → Prop} {St : Nat → Shared → Prop}
/-- the set at S holds the texts ys -/
def Holds (prog : Program) (w : World) (h : Heap) (S : Addr) (ys : List Str) : Prop := h.SetOf (PySem.strKind prog w) S (fun k => decide (k ∈ ys)) ys.length
theorem Holds.keep {h h' : Heap} {ys : List Str} (q : Holds prog w h S ys) (k : ∀ o, h.get? S = some o → h'.get? S = some o) : Holds prog w h' S ys := by
  obtain ⟨o, es, ep, tb, ho, rest⟩ := q
  exact ⟨o, es, ep, tb, k o ho, rest⟩
theorem Holds.put {h : Heap} {ys : List Str} {x : Str} (q : h.SetOf (PySem.strKind prog w) S (fun k => decide (k ∈ ys) || decide (k = x)) (if decide (x ∈ ys) = true then ys.length else ys.length + 1)) : Holds prog w h S (RS.put ys x) := by
  refine SetOf_congr q (fun k => ?_) ?_
  · rw [Bool.eq_iff_iff]
    simp [mem_put]
  · unfold RS.put
    by_cases hx : x ∈ ys
    · rw [if_pos (decide_eq_true hx), if_pos hx]
    · rw [if_neg (by simpa using hx), if_neg hx, List.length_append]
      rfl
theorem fill (W : WalksS prog w A.in1 I fp wr G n P St) (nS : S ∉ fp) (xs : List Str) (hn : xs.length = n) (few : n + 1 < scanBound) (hv : ∀ i v, P i v → ∃ t, v = .str (xs.getD i Str.empty) t) :
    ∀ (k i : Nat) (s : Shared), i + k = n → St i s → Holds prog w s.heap S (uniq (xs.take i)) → (∀ s', Moved (S :: wr) G s s' → Holds prog w s'.heap S (uniq xs) → R (.ok (.ret .none)) s') →
      codeAny (model prog w) A (.builtin "set.update.loop" ⟨[.ref S, .ref I], []⟩) R s := by
  have nW : S ∉ wr := fun h => nS (W.sub _ h)
  have up : ∀ b ∈ wr, b ∈ S :: wr := fun _ hb => List.mem_cons_of_mem _ hb
  intro k
  induction k with
  | zero =>
    intro i s e st q done
    have ei : i = n := e
    subst ei
    rw [← hn, List.take_length] at q
    refine codeAny_builtin PyProof.Rows.F.entry_set_update_loop (?_ : wpAny _ _ (pyNext (.ref I) >>= _) _ _ s)
    rw [Around.under_plainId PyProof.Rows.F.plain_set_update_loop _]
    exact wpAny_bind (W.done s _ _ st fun s1 m => (wpAny_pure (done s1 (m.mono up) (q.keep fun o ho => m.heap S o nW ho)) : wpAny _ A.in1 (ret Value.none) _ _ s1))
  | succ k ih =>
    intro i s e st q done
    have lt : i < n := by omega
    have lx : i < xs.length := by omega
    refine codeAny_builtin PyProof.Rows.F.entry_set_update_loop (?_ : wpAny _ _ (pyNext (.ref I) >>= _) _ _ s)
    rw [Around.under_plainId PyProof.Rows.F.plain_set_update_loop _]
    refine wpAny_bind (W.item i s _ _ lt st fun v s1 hP st1 m => ?_)
    obtain ⟨t, rfl⟩ := hv i v hP
    have ex : xs.getD i Str.empty = xs[i] := by simp [List.getD, lx]
    rw [ex]
    have q1 : Holds prog w s1.heap S (uniq (xs.take i)) := q.keep fun o ho => m.heap S o nW ho
    refine (?_ : wpAny _ A.in1 (holding [Value.str xs[i] t] (setAdd S (.str xs[i] t)) >>= _) _ _ s1)
    refine wpAny_bind (wpAny_holding ?_)
    unfold setAdd
    refine wpAny_holding (wpAny_bind ((PySem.strKind prog w).pyHash (k := xs[i]) (strKind_is _ _ _ _) ?_))
    have room : (uniq (xs.take i)).length + 1 < scanBound := by
      have := uniq_len (xs.take i)
      rw [List.length_take] at this
      omega
    refine wpAny_setAddHashed_of (knd := PySem.strKind prog w) (s := { s1 with toks := s1.toks + 1 }) (strKind_is _ _ _ _) rfl q1 room fun h2 sb q2 => ?_
    have q3 : Holds prog w h2 S (uniq (xs.take (i + 1))) := by
      rw [List.take_add_one, List.getElem?_eq_getElem lx]
      show Holds prog w h2 S (uniq (xs.take i ++ [xs[i]]))
      rw [uniq_snoc]
      exact Holds.put q2
    refine wpAny_pure ⟨plainId_quiet PyProof.Rows.F.plain_set_update_loop _, ih (i + 1) _ (by omega) (W.frame _ s1 _ _ st1 (Nat.le_succ _) fun b hb o ho => (sb.2 b fun z => nS (z ▸ hb)).trans ho) q3 fun s3 m3 q4 => ?_⟩
    exact done s3 (Moved.trans W.gtrans ((m.mono up).then_heap (Nat.le_succ _) fun b o hb ho => (sb.2 b fun z => hb (z ▸ List.mem_cons_self)).trans ho) m3) q4
end
section
variable {prog : Program} {w : World} {A : Around} {E : Value → Shared → Prop} {s : Shared}
/-- an empty set, just made -/
abbrev newSet (led : Bool) : Obj := { cls := .type "set", dict := none, data := .set #[] 0 (.fresh 0 0 led) }
/-- what set(l) leaves -/
def Left (prog : Program) (w : World) (s : Shared) (xs : List Str) (h : Heap) : Prop := Holds prog w h s.heap.objs.size (uniq xs) ∧ ∀ b o, s.heap.get? b = some o → h.get? b = some o
theorem set_texts {l : Addr} {items : Array Value} {xs : List Str} {Q : Value → Shared → Prop} (calm : A.handled = none) (hl : s.heap.IsTuple l items) (hi : StrsAre items.toList xs) (few : xs.length + 1 < scanBound)
    (done : ∀ (h : Heap) (tk : Nat), Left prog w s xs h → Q (.ref s.heap.objs.size) { s with heap := h, toks := tk }) : wpAny (model prog w) A (call (.type "set") [.ref l]) Q E s := by
  have size : xs.length = items.size := by rw [← StrsAre.len_eq hi, Array.length_toList]
  have lS : l < s.heap.objs.size := by
    obtain ⟨ol, hol, _⟩ := hl
    exact Heap.lt_size hol
  obtain ⟨cm, tm, mroIs⟩ := PySem.F.called_set.mro
  have madeIs := PySem.F.called_set.made
  have subIs := PySem.F.called_set.sub
  refine wpAny_call (codeAny_of_tree (?_ : wpAny _ _ (callAny (.type "set") _) _ _ _))
  refine wpAny_pure ⟨Code.quiet_builtin _ (by decide +kernel), codeAny_builtin PySem.F.entry_type_call ?_⟩
  rw [Around.under_plain (weight_type_call_type "set" [.ref l] []) rfl]
  have noType := PySem.F.called_set.notType
  have may := PySem.F.called_set.canCreate
  have callIs := PySem.F.typeCall_set_1 (.ref l)
  repeat (any_goals (first | assumption | wp_step))
  refine codeAny_mono (code_set_new_1 (.ref l) (E := E) (Q₁ := fun v s1 => ∃ led, v = .ref s.heap.objs.size ∧ s1 = { s with heap := s.heap.push (newSet led) }) fun led => ⟨led, rfl, rfl⟩) fun r s1 hr => ?_
  cases r with
  | error e => exact hr
  | ok fl =>
    cases fl with
    | next => exact hr.elim
    | brk => exact hr.elim
    | cont => exact hr.elim
    | ret v =>
      obtain ⟨led, rfl, rfl⟩ := hr
      have atS : (s.heap.push (newSet led)).get? s.heap.objs.size = some (newSet led) := Heap.get?_push_size _ rfl
      have isS : Shared.TypeIs { s with heap := s.heap.push (newSet led) } (.ref s.heap.objs.size) "set" := ⟨_, atS, rfl⟩
      have lookIs := PySem.F.called_set.init.lookup
      have bindIs := PySem.F.called_set.init.bind (.ref s.heap.objs.size)
      repeat (any_goals (first | assumption | wp_step))
      refine codeAny_mono (codeAny_call_builtin (R := wants (fun r s2 => r = .none ∧ ∃ h tk, s2 = { s with heap := h, toks := tk } ∧ Left prog w s xs h) E) PySem.F.called_set.init.plain PySem.F.entry_set_init (check_set_init_1 isS ?_)) fun r2 s2 hr2 => ?_
      · obtain ⟨⟨oc, od, dt, sl⟩, ho, hc, nl, hd⟩ := hl
        simp only at hc hd
        subst hc
        subst hd
        have atL := Heap.get?_push_of_some (newSet led) ho
        have notS := PySem.F.sub_tuple_set
        have notF := PySem.F.sub_tuple_frozenset
        have notD : (Value.type "tuple" == Value.type "dict") = false := by decide
        have tupL : (s.heap.push (newSet led)).IsTuple l items := ⟨_, atL, rfl, nl, rfl⟩
        have sz : (s.heap.push (newSet led)).objs.size = s.heap.objs.size + 1 := Heap.size_push ..
        unfold Builtin.«set.__init__» noKeywords Builtin.Frozenset.updateFrom
        generalize keep : pyIter = it
        wp_walk
        subst keep
        refine wpAny_pyIter_tuple tupL (wpAny_bind (wpAny_runValue ?_))
        have calm3 : A.in1.in1.in1.handled = none := by simp [calm]
        have neL : l ≠ (s.heap.push (newSet led)).objs.size := by
          rw [sz]
          exact Nat.ne_of_lt (Nat.lt_succ_of_lt lS)
        have neS : s.heap.objs.size ∉ [(s.heap.push (newSet led)).objs.size, l] := by
          rw [sz]
          simp only [List.mem_cons, List.not_mem_nil, or_false, not_or]
          exact ⟨Nat.ne_of_lt (Nat.lt_succ_self _), Nat.ne_of_gt lS⟩
        refine fill ((Walks.tuple calm3 _ l neL items).toS) neS xs size (by omega) (fun i v hv => SS.strs_at hi i v (by rw [Array.getElem?_toList]; exact hv)) items.size 0 _ (Nat.zero_add _) ⟨⟨_, Heap.get?_push_size _ rfl, rfl, rfl⟩, tupL.push _⟩ ?_ ?_
        · have at2 := Heap.get?_push_of_some ({ cls := .type "tuple_iterator", data := .fields #[.ref l, .int 0 0] } : Obj) atS
          exact SetOf_congr ((setObjOf_fresh (knd := PySem.strKind prog w) led).setOf at2 (by unfold scanBound; omega)) (fun k => by rw [List.take_zero]; rfl) (by rw [List.take_zero]; rfl)
        · intro s3 m q
          obtain ⟨h3, g3, d3, tk3, os3⟩ := s3
          obtain rfl : g3 = s.gens := m.gens
          obtain rfl : d3 = s.drawn := m.drawn
          obtain rfl : os3 = s.os := m.os
          show wpAny _ _ _ _ _ _
          refine wpAny_pure ?_
          show wpAny _ _ (ret Value.none) _ _ _
          refine wpAny_pure ⟨rfl, h3, tk3, rfl, q, fun b o e => ?_⟩
          have lb := Heap.lt_size e
          refine m.heap b o ?_ (Heap.get?_push_of_some _ (Heap.get?_push_of_some _ e))
          rw [sz]
          simp only [List.mem_cons, List.not_mem_nil, or_false, not_or]
          exact ⟨Nat.ne_of_lt lb, Nat.ne_of_lt (Nat.lt_succ_of_lt lb)⟩
      · cases r2 with
        | error e => exact hr2
        | ok fl2 =>
          cases fl2 with
          | next => exact hr2.elim
          | brk => exact hr2.elim
          | cont => exact hr2.elim
          | ret r =>
            obtain ⟨rfl, h, tk, rfl, q⟩ := hr2
            repeat (any_goals (first | assumption | wp_step))
            exact done h tk q
end
section
variable {X : Cx} {a : Expr} {ta : TE} {p p2 q pos : Pos}
/-- len(set(t)), t a tuple of texts -/
def tLenSetT (K : PySem.W.Frag) (ta : TE) : TE := fun σ H Q => ta σ H fun x H1 => ∃ (l : Addr) (xs : List Str), x = .ref l ∧ SqT K H1 l (xs.map V.str) ∧ xs.length ≤ 1000 ∧ Q (.int ((uniq xs).length : Nat)) H1
theorem pe_lenSetT (hc : X.calm = true) (hg : Gl X "len") (hm : X.mg "len" = none) (hg2 : Gl X "set") (hm2 : X.mg "set" = none) (ha : PE X a ta)
    (na : starEach [a] X.env = (false, eval a X.env) :: starEach [] X.env := by rfl) : PE X (.Call (.Name "len" p) [.Call (.Name "set" p2) [a] [] q] [] pos) (tLenSetT X.K ta) := by
  refine ⟨fun pins s σ H Q I h => Call_ (ld_blt I hg hm boot_len ?_)⟩
  refine PyProof.Rows.callWith_builtin1 (PyProof.Rows.args_cons (Call_ (ld_blt I hg2 hm2 boot_set ?_)) rfl) rfl rfl
  refine PyProof.Rows.callWith_type1 (PyProof.Rows.args_cons (thn (ha.run pins s σ H _ I h) fun v s1 ⟨x, H1, I1, r1, l, xs, ex, sq, few, q1⟩ => PyProof.Rows.args_nil ?_) na) na rfl
  subst ex
  cases r1
  obtain ⟨its, r, pl, hz⟩ := I1.tuple sq
  refine set_texts (I1.ok.hd hc) pl (by simpa using strsAre_of r) (Nat.lt_of_le_of_lt (Nat.succ_le_succ few) (by decide)) fun h1 tk left => PyProof.Rows.args_nil ?_
  obtain ⟨⟨o, es, ep, t, ho, exact', hd, _, _, _, fits, hn⟩, k⟩ := left
  have I2 : Inv X pins σ H1 { s1 with heap := h1, toks := tk } := I1.kept k
  have small : (uniq xs).length ≤ 1000 := Nat.le_trans (uniq_len xs) few
  exact call_len_set ho exact' hd fits (by rw [hn]; omega) ⟨.int ((uniq xs).length : Nat), H1, I2.tok _, ⟨_, by rw [hn]⟩, q1⟩
end
end RS

set_option Elab.async false
set_option linter.all false
set_option maxRecDepth 100000
/-! data in place of heaps: what a value stands for, and the state of a def's body by data alone -/
namespace DL
open PySem PySem.Spec PyProof.Rows L2
/-- the address of a dict's key -/
def keyAt (o : Obj) (i : Nat) : Option Addr := match o.data with
  | .dict es _ => match es[i]? with
    | some en => (match en.key with | .ref q => some q | _ => none)
    | none => none
  | _ => none
/-- the keys of a dict with tuple keys, as they stand -/
def KeysAt (od : Obj) (vs : List (List Key × V)) (H : Hp) : Prop := ∀ i k v, vs[i]? = some (k, v) → ∃ q, keyAt od i = some q ∧ H q = some (.tup (k.map kV))
theorem KeysAt.mono {od : Obj} {vs : List (List Key × V)} {F F' : Hp} (h : KeysAt od vs F) (e : ∀ q xs, F q = some (.tup xs) → F' q = some (.tup xs)) : KeysAt od vs F' := fun i k v z => let ⟨q, a, b⟩ := h i k v z; ⟨q, a, e _ _ b⟩
inductive D where
  | non | bl (b : Bool) | int (i : Int) | str (x : Str) | ty (n : String) | adr (a : Addr)
  | lst (xs : List D) | ro (xs : List D) | tup (xs : List D) | rot (xs : List D) | obj (C : Addr) (fs : List (Str × D)) | dT (kvs : List (List Key × D)) | dK (kvs : List (Key × D))
  | exc (a : Addr) (cls : Value) (dd : Option Addr) (C : Addr) (fs : Option (List (Str × D))) | gho (vs : List V) (ds : List D)
  /-- a dict that nothing may write while a statement runs -/
  | lkd (p : Addr) (od : Obj) (vs : List (Key × V)) (kvs : List (Key × D))
  /-- a dict with tuple keys that nothing may write while an expression runs -/
  | lkt (p : Addr) (od : Obj) (vs : List (List Key × V)) (kvs : List (List Key × D))
  /-- a tuple of the module, or one that is read alone -/
  | ktp (xs : List D)
mutual
/-- the value v stands for the data d, in the part F of the heap that never changes -/
inductive Rep (K : PySem.W.Frag) (F : Hp) : V → D → Prop
  | non : Rep K F .non .non
  | bl (b : Bool) : Rep K F (.bl b) (.bl b)
  | int (i : Int) : Rep K F (.int i) (.int i)
  | str {x : Str} (k : PyData.strOk x = true) : Rep K F (.str x) (.str x)
  | ty (n : String) : Rep K F (.ty n) (.ty n)
  | adr (a : Addr) : Rep K F (.ref a) (.adr a)
  | lst {p : Addr} {vs : List V} {ds : List D} (s : F p = some (.lst vs)) (h : RepL K F vs ds) : Rep K F (.ref p) (.lst ds)
  | ro {p : Addr} {vs : List V} {ds : List D} (s : SqL K F p vs) (h : RepL K F vs ds) : Rep K F (.ref p) (.ro ds)
  | tup {p : Addr} {vs : List V} {ds : List D} (s : F p = some (.tup vs)) (h : RepL K F vs ds) : Rep K F (.ref p) (.tup ds)
  /-- a tuple whose whole object is known: it has no dict -/
  | rot {p : Addr} {vs : List V} {ds : List D} {ob : Obj} (s : F p = some (.frz ob (.tup vs))) (hc : ob.cls = .type "tuple") (hd : ob.dict = none) (h : RepL K F vs ds) : Rep K F (.ref p) (.rot ds)
  | obj {p C dx : Addr} {vs : List (Str × V)} {fs : List (Str × D)} (s : F p = some (.ins C dx vs)) (h : RepF K F vs fs) : Rep K F (.ref p) (.obj C fs)
  | dT {p : Addr} {vs : List (List Key × V)} {ds : List (List Key × D)} (s : Rd F p (.dT vs)) (h : RepT K F vs ds) : Rep K F (.ref p) (.dT ds)
  | dK {p : Addr} {vs : List (Key × V)} {ds : List (Key × D)} (s : Rd F p (.dK vs)) (h : RepK K F vs ds) : Rep K F (.ref p) (.dK ds)
  | exc0 {a C : Addr} : Rep K F (.ref a) (.exc a (.ref C) none C none)
  | exc {a C dd : Addr} {vs : List (Str × V)} {fs : List (Str × D)} (s : F dd = some (.xd vs)) (h : RepF K F vs fs) : Rep K F (.ref a) (.exc a (.ref C) (some dd) C (some fs))
  /-- several values that are walked together -/
  | gho {vs : List V} {ds : List D} (h : RepL K F vs ds) : Rep K F (.int 0) (.gho vs ds)
  | lkd {p : Addr} {od : Obj} {vs : List (Key × V)} {ds : List (Key × D)} (s : F p = some (.frz od (.dK vs))) (h : RepK K F vs ds) : Rep K F (.ref p) (.lkd p od vs ds)
  | lkt {p : Addr} {od : Obj} {vs : List (List Key × V)} {ds : List (List Key × D)} (s : F p = some (.frz od (.dT vs))) (h : RepT K F vs ds) (hk : KeysAt od vs F) : Rep K F (.ref p) (.lkt p od vs ds)
  | ktp {p : Addr} {vs : List V} {ds : List D} (s : SqT K F p vs) (h : RepL K F vs ds) : Rep K F (.ref p) (.ktp ds)
inductive RepL (K : PySem.W.Frag) (F : Hp) : List V → List D → Prop
  | nil : RepL K F [] []
  | cons {v : V} {d : D} {vs : List V} {ds : List D} (h : Rep K F v d) (t : RepL K F vs ds) : RepL K F (v :: vs) (d :: ds)
inductive RepF (K : PySem.W.Frag) (F : Hp) : List (Str × V) → List (Str × D) → Prop
  | nil : RepF K F [] []
  | cons {n : Str} {v : V} {d : D} {vs : List (Str × V)} {ds : List (Str × D)} (h : Rep K F v d) (t : RepF K F vs ds) : RepF K F ((n, v) :: vs) ((n, d) :: ds)
inductive RepT (K : PySem.W.Frag) (F : Hp) : List (List Key × V) → List (List Key × D) → Prop
  | nil : RepT K F [] []
  | cons {n : List Key} {v : V} {d : D} {vs : List (List Key × V)} {ds : List (List Key × D)} (h : Rep K F v d) (t : RepT K F vs ds) : RepT K F ((n, v) :: vs) ((n, d) :: ds)
inductive RepK (K : PySem.W.Frag) (F : Hp) : List (Key × V) → List (Key × D) → Prop
  | nil : RepK K F [] []
  | cons {n : Key} {v : V} {d : D} {vs : List (Key × V)} {ds : List (Key × D)} (h : Rep K F v d) (t : RepK K F vs ds) : RepK K F ((n, v) :: vs) ((n, d) :: ds)
end
theorem sqt_mono {K : PySem.W.Frag} {F F' : Hp} {a : Addr} {xs : List V} (e : Same F F') (h : SqT K F a xs) : SqT K F' a xs := by
  rcases h with (h | ⟨o, h⟩) | h
  · exact .inl (.inl (e _ _ h))
  · exact .inl (.inr ⟨o, e _ _ h⟩)
  · exact .inr h
theorem rd_mono {F F' : Hp} {a : Addr} {u : HO} (e : Same F F') (h : Rd F a u) : Rd F' a u := by
  rcases h with h | ⟨o, h⟩
  · exact .inl (e _ _ h)
  · exact .inr ⟨o, e _ _ h⟩
section
variable {K : PySem.W.Frag} {F F' : Hp}
mutual
theorem Rep.mono (e : Same F F') : ∀ {v : V} {d : D}, Rep K F v d → Rep K F' v d
  | _, _, .non => .non
  | _, _, .bl b => .bl b
  | _, _, .int i => .int i
  | _, _, .str k => .str k
  | _, _, .ty n => .ty n
  | _, _, .adr a => .adr a
  | _, _, .lst s h => .lst (e _ _ s) (h.mono e)
  | _, _, .ro s h => .ro (e.seq s) (h.mono e)
  | _, _, .tup s h => .tup (e _ _ s) (h.mono e)
  | _, _, .rot s hc hd h => .rot (e _ _ s) hc hd (h.mono e)
  | _, _, .obj s h => .obj (e _ _ s) (h.mono e)
  | _, _, .dT s h => .dT (rd_mono e s) (h.mono e)
  | _, _, .dK s h => .dK (rd_mono e s) (h.mono e)
  | _, _, .exc0 => .exc0
  | _, _, .exc s h => .exc (e _ _ s) (h.mono e)
  | _, _, .gho h => .gho (h.mono e)
  | _, _, .lkd s h => .lkd (e _ _ s) (h.mono e)
  | _, _, .lkt s h hk => .lkt (e _ _ s) (h.mono e) (hk.mono fun q xs z => e _ _ z)
  | _, _, .ktp s h => .ktp (sqt_mono e s) (h.mono e)
theorem RepL.mono (e : Same F F') : ∀ {vs : List V} {ds : List D}, RepL K F vs ds → RepL K F' vs ds
  | _, _, .nil => .nil
  | _, _, .cons h t => .cons (h.mono e) (t.mono e)
theorem RepF.mono (e : Same F F') : ∀ {vs : List (Str × V)} {ds : List (Str × D)}, RepF K F vs ds → RepF K F' vs ds
  | _, _, .nil => .nil
  | _, _, .cons h t => .cons (h.mono e) (t.mono e)
theorem RepT.mono (e : Same F F') : ∀ {vs : List (List Key × V)} {ds : List (List Key × D)}, RepT K F vs ds → RepT K F' vs ds
  | _, _, .nil => .nil
  | _, _, .cons h t => .cons (h.mono e) (t.mono e)
theorem RepK.mono (e : Same F F') : ∀ {vs : List (Key × V)} {ds : List (Key × D)}, RepK K F vs ds → RepK K F' vs ds
  | _, _, .nil => .nil
  | _, _, .cons h t => .cons (h.mono e) (t.mono e)
end
end
end DL

set_option Elab.async false
set_option linter.all false
set_option maxRecDepth 100000
namespace DL
open PySem PySem.Spec PyProof.Rows L2
/-- what a changing object holds -/
inductive OC where
  | lst (ds : List D) | ins (C : Addr) (fs : List (Str × D)) | dT (kvs : List (List Key × D)) | dK (kvs : List (Key × D))
  /-- the table of a code object, whose code objects all bear the name q -/
  | tab (P : Addr) (q : Str)
def OC.toD : OC → D
  | .lst ds => .lst ds
  | .ins C fs => .obj C fs
  | .dT kvs => .dT kvs
  | .dK kvs => .dK kvs
  | .tab P _ => .adr P
/-- a value: data that never changes, or an object of the body's own that may change -/
inductive DV where
  | d (x : D) | own (o : OC)
def DV.toD : DV → D
  | .d x => x
  | .own o => o.toD
abbrev DSt := List (Option DV)
inductive Hold where
  | s (i : Nat) | t (n : Nat)
  deriving DecidableEq
/-- the frame: the slots of the arguments that may change, their addresses, the heaps at the entry -/
structure Fc where
  sl : List Nat
  ad : List Addr
  F0 : Hp
  H0 : Hp
def OwnRep (K : PySem.W.Frag) (F H : Hp) (p : Addr) : OC → Prop
  | .lst ds => ∃ vs, H p = some (.lst vs) ∧ RepL K F vs ds
  | .ins C fs => ∃ dx vs, H p = some (.ins C dx vs) ∧ RepF K F vs fs
  | .dT kvs => ∃ vs, H p = some (.dT vs) ∧ RepT K F vs kvs
  | .dK kvs => ∃ vs, H p = some (.dK vs) ∧ RepK K F vs kvs
  | .tab P q => P = p ∧ ∃ ps : Array Value, H p = some (.tbl ps) ∧ TriplesOk ps.toList ∧ ∀ (pos : Pos) (cv : Value), codeAmong pos ps.toList = some cv → ∃ c, cv = .ref c ∧ F c = some (LamX.CodeO c q)
/-- an address of the body's own: made since the entry, or an argument's -/
def NewAt (c : Fc) (h : Hold) (p : Addr) : Prop := c.H0 p = none ∨ (p ∈ c.ad ∧ ∃ i, h = .s i ∧ i ∈ c.sl)
def RepV (K : PySem.W.Frag) (c : Fc) (F H : Hp) (ow : Addr → Option Hold) (h : Hold) (v : V) : DV → Prop
  | .d x => Rep K F v x
  | .own o => ∃ p, v = .ref p ∧ ow p = some h ∧ F p = none ∧ NewAt c h p ∧ OwnRep K F H p o
def RepTmp (K : PySem.W.Frag) (c : Fc) (F H : Hp) (ow : Addr → Option Hold) : List (V × DV) → Prop
  | [] => True
  | (v, x) :: r => RepV K c F H ow (.t r.length) v x ∧ RepTmp K c F H ow r
structure SttF (K : PySem.W.Frag) (c : Fc) (F : Hp) (ow : Addr → Option Hold) (δ : DSt) (tmp : List (V × DV)) (σ : L2.St) (H : Hp) : Prop where
  fh : Same F H
  f0 : Same c.F0 F
  fn : ∀ a, F a ≠ none → c.F0 a ≠ none ∨ c.H0 a = none
  fr : ∀ a o, c.H0 a = some o → a ∉ c.ad → H a = some o
  up : ∀ a, H a = none → c.H0 a = none
  len : σ.length = δ.length
  sl : ∀ (i : Nat) (x : DV), δ[i]? = some (some x) → ∃ v, σ[i]? = some (some v) ∧ RepV K c F H ow (.s i) v x
  tm : RepTmp K c F H ow tmp
  ps : ∀ (k i : Nat) (p : Addr), c.sl[k]? = some i → c.ad[k]? = some p → σ[i]? = some (some (.ref p))
def Stt (K : PySem.W.Frag) (c : Fc) (δ : DSt) (tmp : List (V × DV)) (σ : L2.St) (H : Hp) : Prop := ∃ F ow, SttF K c F ow δ tmp σ H
/-- an operation that makes new objects alone -/
structure Ext (F H F' H' : Hp) : Prop where
  f : Same F F'
  h : Same H H'
  fh : Same F' H'
  nw : ∀ a, F' a ≠ none → F a ≠ none ∨ H a = none
theorem Ext.refl {F H : Hp} (s : Same F H) : Ext F H F H := ⟨Same.refl _, Same.refl _, s, fun _ h => .inl h⟩
theorem same_upd {H H' : Hp} {p : Addr} {o : HO} (s : Same H H') (n : H' p = none) : Same H (upd H' p o) := fun b u e => by
  rw [upd_ne (ne_of_none (s _ _ e) n)]
  exact s _ _ e
theorem same_upd2 {F H : Hp} {p : Addr} {o : HO} (s : Same F H) : Same (upd F p o) (upd H p o) := fun b u e => by
  by_cases q : b = p
  · subst q
    rw [upd_same] at e ⊢
    exact e
  · rw [upd_ne q] at e ⊢
    exact s _ _ e
theorem same_upd1 {F H : Hp} {p : Addr} {o : HO} (s : Same F H) (e : H p = some o) : Same (upd F p o) H := fun b u q => by
  by_cases z : b = p
  · subst z
    rw [upd_same] at q
    rw [e]
    exact q
  · rw [upd_ne z] at q
    exact s _ _ q
/-- a new object, frozen at once -/
theorem Ext.new {F H : Hp} {p : Addr} {o : HO} (s : Same F H) (n : H p = none) : Ext F H (upd F p o) (upd H p o) :=
  ⟨same_upd (Same.refl F) (s.free n), same_upd (Same.refl H) n, same_upd2 s, fun a q => by
    by_cases z : a = p
    · subst z
      exact .inr n
    · rw [upd_ne z] at q
      exact .inl q⟩
/-- a new object, not frozen -/
theorem Ext.newH {F H : Hp} {p : Addr} {o : HO} (s : Same F H) (n : H p = none) : Ext F H F (upd H p o) :=
  ⟨Same.refl F, same_upd (Same.refl H) n, same_upd s n, fun _ q => .inl q⟩
section
variable {K : PySem.W.Frag} {c : Fc} {F F' H H' : Hp} {ow ow' : Addr → Option Hold} {δ : DSt} {tmp : List (V × DV)} {σ : L2.St} {v : V} {x : DV} {d : D} {o : OC} {h : Hold} {p : Addr} {i : Nat}
theorem OwnRep.has (q : OwnRep K F H p o) : H p ≠ none := by
  cases o with
  | lst ds => obtain ⟨vs, e, _⟩ := q; rw [e]; exact fun z => nomatch z
  | ins C fs => obtain ⟨dx, vs, e, _⟩ := q; rw [e]; exact fun z => nomatch z
  | dT kvs => obtain ⟨vs, e, _⟩ := q; rw [e]; exact fun z => nomatch z
  | dK kvs => obtain ⟨vs, e, _⟩ := q; rw [e]; exact fun z => nomatch z
  | tab P r => obtain ⟨_, vs, e, _⟩ := q; rw [e]; exact fun z => nomatch z
theorem OwnRep.mono (q : OwnRep K F H p o) (f : Same F F') (e : H' p = H p) : OwnRep K F' H' p o := by
  cases o with
  | lst ds => obtain ⟨vs, z, r⟩ := q; exact ⟨vs, e.trans z, r.mono f⟩
  | ins C fs => obtain ⟨dx, vs, z, r⟩ := q; exact ⟨dx, vs, e.trans z, r.mono f⟩
  | dT kvs => obtain ⟨vs, z, r⟩ := q; exact ⟨vs, e.trans z, r.mono f⟩
  | dK kvs => obtain ⟨vs, z, r⟩ := q; exact ⟨vs, e.trans z, r.mono f⟩
  | tab P r => obtain ⟨a, vs, z, t, h⟩ := q; exact ⟨a, vs, e.trans z, t, fun pos cv k => let ⟨c, e1, e2⟩ := h pos cv k; ⟨c, e1, f _ _ e2⟩⟩
theorem Same.at {p : Addr} (s : Same H H') (n : H p ≠ none) : H' p = H p := by
  cases q : H p with
  | none => exact absurd q n
  | some u => exact s _ _ q
theorem RepV.ext (q : RepV K c F H ow h v x) (e : Ext F H F' H') : RepV K c F' H' ow h v x := by
  cases x with
  | d y => exact Rep.mono e.f q
  | own o =>
    obtain ⟨p, rfl, a, n, w, r⟩ := q
    refine ⟨p, rfl, a, ?_, w, r.mono e.f (Same.at e.h r.has)⟩
    cases z : F' p with
    | none => rfl
    | some u =>
      rcases e.nw p (by rw [z]; exact fun q => nomatch q) with y | y
      · exact absurd n y
      · exact absurd y r.has
theorem RepTmp.ext (e : Ext F H F' H') : ∀ {tmp : List (V × DV)}, RepTmp K c F H ow tmp → RepTmp K c F' H' ow tmp
  | [], _ => True.intro
  | (_, _) :: _, q => ⟨q.1.ext e, RepTmp.ext e q.2⟩
theorem SttF.ext (S : SttF K c F ow δ tmp σ H) (e : Ext F H F' H') : SttF K c F' ow δ tmp σ H' :=
  ⟨e.fh, S.f0.trans e.f, fun a q => (e.nw a q).elim (S.fn a) fun z => .inr (S.up a z), fun a o q n => e.h _ _ (S.fr a o q n), fun a q => S.up a (e.h.free q), S.len,
    fun i x q => let ⟨v, e1, e2⟩ := S.sl i x q; ⟨v, e1, e2.ext e⟩, RepTmp.ext e S.tm, S.ps⟩
theorem SttF.push (S : SttF K c F ow δ tmp σ H) (r : Rep K F v d) : SttF K c F ow δ ((v, .d d) :: tmp) σ H := { S with tm := ⟨r, S.tm⟩ }
theorem SttF.pop (S : SttF K c F ow δ ((v, x) :: tmp) σ H) : SttF K c F ow δ tmp σ H := { S with tm := S.tm.2 }
theorem SttF.top (S : SttF K c F ow δ ((v, .d d) :: tmp) σ H) : Rep K F v d := S.tm.1
/-- the holder of one address changes -/
def owSet (ow : Addr → Option Hold) (p : Addr) (h : Hold) : Addr → Option Hold := fun a => if a = p then some h else ow a
theorem RepV.reown (q : RepV K c F H ow h v x) (n : ∀ p, v = .ref p → ow p = some h → H p ≠ none → ow' p = ow p) : RepV K c F H ow' h v x := by
  cases x with
  | d y => exact q
  | own o =>
    obtain ⟨p, rfl, a, b, w, r⟩ := q
    exact ⟨p, rfl, (n p rfl a r.has).trans a, b, w, r⟩
theorem RepTmp.reown (n : ∀ (k : Nat) p, k < tmp.length → ow p = some (.t k) → H p ≠ none → ow' p = ow p) (q : RepTmp K c F H ow tmp) : RepTmp K c F H ow' tmp := by
  induction tmp with
  | nil => exact True.intro
  | cons a r ih =>
    obtain ⟨v, x⟩ := a
    exact ⟨q.1.reown fun p _ e z => n _ p (Nat.lt_succ_self _) e z, ih (fun k p hk e z => n k p (Nat.lt_succ_of_lt hk) e z) q.2⟩
theorem owSet_ne {p a : Addr} (n : a ≠ p) : owSet ow p h a = ow a := if_neg n
theorem owSet_at {p : Addr} : owSet ow p h p = some h := if_pos rfl
theorem SttF.reown (S : SttF K c F ow δ tmp σ H) (ns : ∀ (k : Nat) p, ow p = some (.s k) → H p ≠ none → ow' p = ow p) (nt : ∀ (k : Nat) p, k < tmp.length → ow p = some (.t k) → H p ≠ none → ow' p = ow p) : SttF K c F ow' δ tmp σ H :=
  { S with sl := fun i x q => let ⟨v, e1, e2⟩ := S.sl i x q; ⟨v, e1, e2.reown fun p _ e z => ns i p e z⟩, tm := RepTmp.reown nt S.tm }
/-- a new object of the body's own -/
theorem SttF.pushNew {ob : HO} (S : SttF K c F ow δ tmp σ H) (n : H p = none) (r : OwnRep K F (upd H p ob) p o) : SttF K c F (owSet ow p (.t tmp.length)) δ ((.ref p, .own o) :: tmp) σ (upd H p ob) := by
  have S1 := S.reown (ow' := owSet ow p (.t tmp.length)) (fun k a _ z => owSet_ne fun e => z (by rw [e]; exact n)) (fun k a _ _ z => owSet_ne fun e => z (by rw [e]; exact n))
  have S2 := S1.ext (Ext.newH (o := ob) S.fh n)
  refine { S2 with tm := ⟨⟨p, rfl, owSet_at, ?_, .inl (S.up _ n), r⟩, S2.tm⟩ }
  cases q : F p with
  | none => rfl
  | some u => rw [S.fh _ _ q] at n; cases n
/-- what is on top of the stack will change no more -/
theorem OwnRep.freeze (q : OwnRep K F H p o) (n : F p = none) (s : Same F H) : ∃ u : HO, H p = Option.some u ∧ Rep K (upd F p u) (.ref p) o.toD := by
  cases o with
  | lst ds => obtain ⟨vs, e, r⟩ := q; exact ⟨_, e, .lst upd_same (r.mono (same_upd (Same.refl F) n))⟩
  | ins C fs => obtain ⟨dx, vs, e, r⟩ := q; exact ⟨_, e, .obj upd_same (r.mono (same_upd (Same.refl F) n))⟩
  | dT kvs => obtain ⟨vs, e, r⟩ := q; exact ⟨_, e, .dT (.inl upd_same) (r.mono (same_upd (Same.refl F) n))⟩
  | dK kvs => obtain ⟨vs, e, r⟩ := q; exact ⟨_, e, .dK (.inl upd_same) (r.mono (same_upd (Same.refl F) n))⟩
  | tab P r => obtain ⟨a, vs, e, _⟩ := q; subst a; exact ⟨_, e, .adr _⟩
/-- the frozen part grows by an object that one holder has: all other holders keep theirs -/
theorem RepV.frz {u : HO} (q : RepV K c F H ow h v x) (n : F p = none) (ne : ∀ a, v = .ref a → ow a = some h → a ≠ p) : RepV K c (upd F p u) H ow h v x := by
  have s : Same F (upd F p u) := same_upd (Same.refl F) n
  cases x with
  | d y => exact Rep.mono s q
  | own o =>
    obtain ⟨a, rfl, e, b, w, r⟩ := q
    exact ⟨a, rfl, e, by rw [upd_ne (ne a rfl e)]; exact b, w, r.mono s rfl⟩
theorem RepTmp.frz {u : HO} (n : F p = none) (ne : ∀ (k : Nat) a, k < tmp.length → ow a = some (.t k) → a ≠ p) (q : RepTmp K c F H ow tmp) : RepTmp K c (upd F p u) H ow tmp := by
  induction tmp with
  | nil => exact True.intro
  | cons a r ih =>
    obtain ⟨v, x⟩ := a
    exact ⟨q.1.frz n fun a _ e => ne _ a (Nat.lt_succ_self _) e, ih (fun k a hk e => ne k a (Nat.lt_succ_of_lt hk) e) q.2⟩
/-- any holder's own object is frozen (no argument's) -/
theorem SttF.freezeAt {u : HO} (S : SttF K c F ow δ tmp σ H) (e : H p = some u) (n : F p = none) (w : c.H0 p = none) (ns : ∀ (k : Nat) x, δ[k]? = some (some x) → ow p ≠ some (.s k)) (nt : ∀ (k : Nat), k < tmp.length → ow p ≠ some (.t k)) : SttF K c (upd F p u) ow δ tmp σ H where
  fh := same_upd1 S.fh e
  f0 := S.f0.trans (same_upd (Same.refl F) n)
  fn := fun a q => by
    by_cases z : a = p
    · subst z; exact .inr w
    · rw [upd_ne z] at q; exact S.fn a q
  fr := S.fr
  up := S.up
  len := S.len
  sl := fun i x q => let ⟨v, e1, e2⟩ := S.sl i x q; ⟨v, e1, e2.frz n fun a _ z y => by subst y; exact ns i x q z⟩
  tm := RepTmp.frz n (fun k a hk z y => by subst y; exact nt k hk z) S.tm
  ps := S.ps
theorem NewAt.t {k : Nat} (w : NewAt c (.t k) p) : c.H0 p = none := by
  rcases w with w | ⟨_, i, e, _⟩
  · exact w
  · cases e
theorem SttF.top_frz (S : SttF K c F ow δ ((v, x) :: tmp) σ H) : ∃ F', SttF K c F' ow δ ((v, .d x.toD) :: tmp) σ H ∧ Same F F' := by
  cases x with
  | d y => exact ⟨F, S, Same.refl F⟩
  | own o =>
    obtain ⟨p, rfl, e, b, w, r⟩ := S.tm.1
    obtain ⟨u, eu, r'⟩ := r.freeze b S.fh
    have S1 := S.pop.freezeAt eu b w.t (fun k x _ z => by rw [e] at z; cases z) (fun k hk z => by rw [e] at z; cases z; exact absurd hk (Nat.lt_irrefl _))
    exact ⟨upd F p u, S1.push r', same_upd (Same.refl F) b⟩
/-- the two on top -/
theorem SttF.top_frz2 {w : V} {y : DV} (S : SttF K c F ow δ ((v, x) :: (w, y) :: tmp) σ H) : ∃ F', SttF K c F' ow δ ((v, .d x.toD) :: (w, .d y.toD) :: tmp) σ H ∧ Same F F' := by
  obtain ⟨F1, S1, s1⟩ := S.top_frz
  obtain ⟨F2, S2, s2⟩ := S1.pop.top_frz
  exact ⟨F2, S2.push (S1.top.mono s2), s1.trans s2⟩
/-- a name is bound to what is on top -/
theorem SttF.set (S : SttF K c F ow δ ((v, x) :: tmp) σ H) (hi : i < δ.length) (ni : i ∉ c.sl) : ∃ ow', SttF K c F ow' (δ.set i (some x)) tmp (σ.set i (some v)) H := by
  have hs : i < σ.length := by rw [S.len]; exact hi
  have ps' : ∀ (k j : Nat) (p : Addr), c.sl[k]? = some j → c.ad[k]? = some p → (σ.set i (some v))[j]? = some (some (.ref p)) := fun k j p q1 q2 => by
    rw [List.getElem?_set_ne (fun z => ni (by rw [z]; exact List.mem_of_getElem? q1))]
    exact S.ps k j p q1 q2
  cases x with
  | d y =>
    refine ⟨ow, { S.pop with len := by rw [List.length_set, List.length_set]; exact S.len, sl := fun j z q => ?_, ps := ps' }⟩
    by_cases e : i = j
    · subst e
      rw [List.getElem?_set_self hi] at q
      cases q
      exact ⟨v, List.getElem?_set_self hs, S.top⟩
    · rw [List.getElem?_set_ne e] at q ⊢
      exact S.sl j z q
  | own o =>
    obtain ⟨p, rfl, e, b, w, r⟩ := S.tm.1
    have S1 := S.pop.reown (ow' := owSet ow p (.s i)) (fun k a z _ => owSet_ne fun y => by subst y; rw [e] at z; cases z) (fun k a hk z _ => owSet_ne fun y => by subst y; rw [e] at z; cases z; exact absurd hk (Nat.lt_irrefl _))
    refine ⟨owSet ow p (.s i), { S1 with len := by rw [List.length_set, List.length_set]; exact S.len, sl := fun j z q => ?_, ps := ps' }⟩
    by_cases e' : i = j
    · subst e'
      rw [List.getElem?_set_self hi] at q
      cases q
      exact ⟨.ref p, List.getElem?_set_self hs, p, rfl, owSet_at, b, .inl w.t, r⟩
    · rw [List.getElem?_set_ne e'] at q ⊢
      exact S1.sl j z q
/-- a slot is forgotten -/
theorem SttF.unset (S : SttF K c F ow δ tmp σ H) : SttF K c F ow (δ.set i none) tmp σ H := by
  refine { S with len := by rw [List.length_set]; exact S.len, sl := fun j z q => ?_ }
  by_cases e : i = j
  · subst e
    rcases Nat.lt_or_ge i δ.length with h | h
    · rw [List.getElem?_set_self h] at q; cases q
    · rw [List.getElem?_eq_none (by rw [List.length_set]; exact h)] at q; cases q
  · rw [List.getElem?_set_ne e] at q
    exact S.sl j z q
theorem set_lt {α : Type} {l : List α} {i : Nat} {x : α} (h : l[i]? = some x) : i < l.length := (List.getElem?_eq_some_iff.mp h).1
/-- the value at a slot goes on top of the stack; the slot is forgotten -/
theorem SttF.move (S : SttF K c F ow δ tmp σ H) (q : δ[i]? = some (some x)) (ni : i ∉ c.sl) : ∃ v ow', σ[i]? = some (some v) ∧ SttF K c F ow' (δ.set i none) ((v, x) :: tmp) σ H := by
  obtain ⟨v, e1, r⟩ := S.sl i x q
  cases x with
  | d y => exact ⟨v, ow, e1, { S.unset with tm := ⟨r, S.tm⟩ }⟩
  | own o =>
    obtain ⟨p, rfl, e, b, w, r⟩ := r
    have w' : c.H0 p = none := by
      rcases w with w | ⟨_, j, e, hj⟩
      · exact w
      · cases e; exact absurd hj ni
    -- the slot is forgotten first: then nobody but the stack holds p
    have S0 := S.unset (i := i)
    refine ⟨.ref p, owSet ow p (.t tmp.length), e1, { S0 with sl := fun j z qz => ?_, tm := ⟨⟨p, rfl, owSet_at, b, .inl w', r⟩, RepTmp.reown (fun k a hk z _ => owSet_ne fun y => by subst y; rw [e] at z; cases z) S.tm⟩ }⟩
    obtain ⟨u, e2, r2⟩ := S0.sl j z qz
    refine ⟨u, e2, r2.reown fun a _ z' _ => owSet_ne fun y => ?_⟩
    subst y
    rw [e] at z'
    cases z'
    rw [List.getElem?_set_self (set_lt q)] at qz
    cases qz
/-- the value at a slot, frozen, is read -/
theorem SttF.slot_frz (S : SttF K c F ow δ tmp σ H) (q : δ[i]? = some (some x)) (ni : i ∉ c.sl) : ∃ v F', σ[i]? = some (some v) ∧ SttF K c F' ow (δ.set i (some (.d x.toD))) ((v, .d x.toD) :: tmp) σ H := by
  obtain ⟨v, e1, r⟩ := S.sl i x q
  have hi := set_lt q
  cases x with
  | d y =>
    refine ⟨v, F, e1, { S with len := by rw [List.length_set]; exact S.len, tm := ⟨r, S.tm⟩, sl := fun j z qz => ?_ }⟩
    by_cases e : i = j
    · subst e
      rw [List.getElem?_set_self hi] at qz
      cases qz
      exact ⟨v, e1, r⟩
    · rw [List.getElem?_set_ne e] at qz
      exact S.sl j z qz
  | own o =>
    obtain ⟨p, rfl, e, b, w, r⟩ := r
    have w' : c.H0 p = none := by
      rcases w with w | ⟨_, j, e, hj⟩
      · exact w
      · cases e; exact absurd hj ni
    obtain ⟨u, eu, r'⟩ := r.freeze b S.fh
    have S1 := (S.unset (i := i)).freezeAt eu b w' (fun k x qx z => by
      rw [e] at z; cases z
      rw [List.getElem?_set_self hi] at qx; cases qx) (fun k hk z => by rw [e] at z; cases z)
    refine ⟨.ref p, upd F p u, e1, { S1 with len := by rw [List.length_set]; exact S.len, tm := ⟨r', S1.tm⟩, sl := fun j z qz => ?_ }⟩
    by_cases e' : i = j
    · subst e'
      rw [List.getElem?_set_self hi] at qz
      cases qz
      exact ⟨.ref p, e1, r'⟩
    · rw [List.getElem?_set_ne e'] at qz
      exact S1.sl j z (by rw [List.getElem?_set_ne e']; exact qz)
/-- an own object is changed -/
theorem SttF.write {o o' : OC} {ob : HO} (S : SttF K c F ow δ tmp σ H) (q : δ[i]? = some (some (.own o))) (ep : σ[i]? = some (some (.ref p))) (r' : OwnRep K F (upd H p ob) p o') : SttF K c F ow (δ.set i (some (.own o'))) tmp σ (upd H p ob) := by
  obtain ⟨v, e1, p', rfl, e, b, w, r⟩ := S.sl i _ q
  rw [ep] at e1
  cases e1
  have hi := set_lt q
  have keep : ∀ {h : Hold} {v : V} {x : DV}, RepV K c F H ow h v x → h ≠ .s i → RepV K c F (upd H p ob) ow h v x := fun {h v x} y ne => by
    cases x with
    | d z => exact y
    | own z =>
      obtain ⟨a, rfl, ea, ba, wa, ra⟩ := y
      exact ⟨a, rfl, ea, ba, wa, ra.mono (Same.refl F) (upd_ne fun t => by subst t; rw [e] at ea; cases ea; exact ne rfl)⟩
  have keepT : ∀ {tmp : List (V × DV)}, RepTmp K c F H ow tmp → RepTmp K c F (upd H p ob) ow tmp := fun {tmp} => by
    induction tmp with
    | nil => exact fun _ => True.intro
    | cons a r ih =>
      obtain ⟨v, x⟩ := a
      exact fun y => ⟨keep y.1 (fun z => nomatch z), ih y.2⟩
  refine ⟨?_, S.f0, S.fn, fun a u z n => ?_, fun a z => ?_, by rw [List.length_set]; exact S.len, fun j z qz => ?_, keepT S.tm, S.ps⟩
  · exact fun a u z => by
      rw [upd_ne (ne_of_none z b)]
      exact S.fh _ _ z
  · rw [upd_ne (fun t => ?_)]
    · exact S.fr a u z n
    · subst t
      rcases w with w | ⟨w, _⟩
      · rw [w] at z; cases z
      · exact n w
  · by_cases t : a = p
    · subst t; rw [upd_same] at z; cases z
    · rw [upd_ne t] at z; exact S.up a z
  · by_cases e' : i = j
    · subst e'
      rw [List.getElem?_set_self hi] at qz
      cases qz
      exact ⟨.ref p, ep, p, rfl, e, b, w, r'⟩
    · rw [List.getElem?_set_ne e'] at qz
      obtain ⟨v, e2, r2⟩ := S.sl j z qz
      exact ⟨v, e2, keep r2 fun t => e' (by cases t; rfl)⟩
end
end DL

set_option Elab.async false
set_option linter.all false
set_option maxRecDepth 100000
namespace DL
open PySem PySem.Spec PyProof.Rows L2
/-- an exception: its class, its fields -/
structure Ex where
  C : Addr
  fs : Option (List (Str × D))
abbrev DK := DV → DSt → Prop
abbrev XD := Ex → DSt → Prop
abbrev TD := DSt → DK → XD → Prop
abbrev TDT := DSt → (Bool → DSt → Prop) → XD → Prop
/-- an argument: data, or the own object at a slot -/
inductive AV where
  | d (x : D) | o (i : Nat)
abbrev TDA := DSt → (List AV → DSt → Prop) → XD → Prop
structure EndsD where
  nx : DSt → Prop
  rt : DK
  ex : XD
  bk : DSt → Prop := fun _ => False
  ct : DSt → Prop := fun _ => False
abbrev TDS := EndsD → DSt → Prop
def ExRep (K : PySem.W.Frag) (F : Hp) (cls : Value) (d : Option Addr) (x : Ex) : Prop :=
  cls = .ref x.C ∧ match x.fs with
    | none => d = none
    | some fs => ∃ dd vs, d = some dd ∧ F dd = some (.xd vs) ∧ RepF K F vs fs
section
variable (K : PySem.W.Frag) (c : Fc) (W : WX)
/-- what is wished of an exception -/
def WD (tmp : List (V × DV)) (E : XD) : Prop := ∀ (x : Ex) (δ : DSt) (σ : L2.St) (H F : Hp) (ow : Addr → Option Hold) (cls : Value) (d : Option Addr), E x δ → SttF K c F ow δ tmp σ H → ExRep K F cls d x → W cls d σ H
def LE (t : TD) : TE := fun σ H Q => ∃ δ tmp Qd Ed, Stt K c δ tmp σ H ∧ t δ Qd Ed ∧ (∀ v x δ' H', Qd x δ' → Stt K c δ' ((v, x) :: tmp) σ H' → Q v H') ∧ WD K c W tmp Ed
def LT (t : TDT) : TT := fun σ H Q => ∃ δ tmp Qd Ed, Stt K c δ tmp σ H ∧ t δ Qd Ed ∧ (∀ b δ' H', Qd b δ' → Stt K c δ' tmp σ H' → Q b H') ∧ WD K c W tmp Ed
inductive RepArgs (F : Hp) (σ : L2.St) : List V → List AV → Prop
  | nil : RepArgs F σ [] []
  | d {v : V} {x : D} {vs : List V} {as : List AV} (h : Rep K F v x) (t : RepArgs F σ vs as) : RepArgs F σ (v :: vs) (.d x :: as)
  | o {v : V} {i : Nat} {vs : List V} {as : List AV} (h : σ[i]? = some (some v)) (t : RepArgs F σ vs as) : RepArgs F σ (v :: vs) (.o i :: as)
def LA (t : TDA) : TA := fun σ H Q => ∃ δ tmp Qd Ed, Stt K c δ tmp σ H ∧ t δ Qd Ed ∧ (∀ vs as δ' F ow H', Qd as δ' → SttF K c F ow δ' tmp σ H' → RepArgs K F σ vs as → Q vs H') ∧ WD K c W tmp Ed
def LS (t : TDS) : TS := fun D σ H => ∃ δ tmp Dd, Stt K c δ tmp σ H ∧ t Dd δ ∧ (∀ δ' σ' H', Dd.nx δ' → Stt K c δ' tmp σ' H' → D.nx σ' H') ∧ (∀ v x δ' σ' H', Dd.rt x δ' → Stt K c δ' ((v, x) :: tmp) σ' H' → D.rt v H') ∧
  (∀ δ' σ' H', Dd.bk δ' → Stt K c δ' tmp σ' H' → D.bk σ' H') ∧ (∀ δ' σ' H', Dd.ct δ' → Stt K c δ' tmp σ' H' → D.ct σ' H') ∧ WD K c W tmp Dd.ex
end
section
variable {K : PySem.W.Frag} {c : Fc} {W : WX} {tmp : List (V × DV)} {Ed : XD} {v : V} {x : DV}
theorem WD.push (w : WD K c W tmp Ed) : WD K c W ((v, x) :: tmp) Ed := fun y δ σ H F ow cls d e S r => w y δ σ H F ow cls d e S.pop r
end
theorem PE_imp {X : Cx} {e : Expr} {t t' : TE} (h : PE X e t) (f : ∀ σ H Q, t' σ H Q → t σ H Q) : PE X e t' := ⟨fun pins s σ H Q I q => h.run pins s σ H Q I (f _ _ _ q)⟩
theorem PT_imp {X : Cx} {e : Expr} {t t' : TT} (h : PT X e t) (f : ∀ σ H Q, t' σ H Q → t σ H Q) : PT X e t' := ⟨fun pins s σ H Q I q => h.run pins s σ H Q I (f _ _ _ q)⟩
theorem PW_imp {X : Cx} {e : Expr} {t t' : TT} (h : PW X e t) (f : ∀ σ H Q, t' σ H Q → t σ H Q) : PW X e t' := ⟨fun wh pins s σ H Q I q => h.run wh pins s σ H Q I (f _ _ _ q)⟩
theorem PA_imp {X : Cx} {e : List Expr} {t t' : TA} (h : PA X e t) (f : ∀ σ H Q, t' σ H Q → t σ H Q) : PA X e t' := ⟨fun pos pins s σ H Q I q => h.run pos pins s σ H Q I (f _ _ _ q)⟩
theorem PS_imp {X : Cx} {e : Stmt} {t t' : TS} (h : PS X e t) (f : ∀ D σ H, t' D σ H → t D σ H) : PS X e t' := ⟨fun pins s σ H D I q => h.run pins s σ H D I (f _ _ _ q)⟩
theorem PSs_imp {X : Cx} {e : List Stmt} {t t' : TS} (h : PSs X e t) (f : ∀ D σ H, t' D σ H → t D σ H) : PSs X e t' := ⟨fun pins s σ H D I q => h.run pins s σ H D I (f _ _ _ q)⟩
section
variable {X : Cx} {c : Fc} {W : WX}
/-! ### names and constants -/
def varD (i : Nat) : TD := fun δ Q _ => ∃ x, δ[i]? = some (some (.d x)) ∧ Q (.d x) δ
def fvarD (i : Nat) : TD := fun δ Q _ => ∃ x, δ[i]? = some (some x) ∧ Q (.d x.toD) (δ.set i (some (.d x.toD)))
def constD (d : D) : TD := fun δ Q _ => Q (.d d) δ
theorem pd_var {i : Nat} {x : Str} {pos : Pos} (h : PE X (.Name x pos) (tVar i)) : PE X (.Name x pos) (LE X.K c W (varD i)) := PE_imp h fun σ H Q ⟨δ, tmp, Qd, Ed, ⟨F, ow, S⟩, ⟨x, e, q⟩, k, w⟩ => by
  obtain ⟨v, e1, r⟩ := S.sl i _ e
  exact ⟨v, e1, k v _ _ _ q ⟨F, ow, S.push r⟩⟩
theorem pd_fvar {i : Nat} {x : Str} {pos : Pos} (h : PE X (.Name x pos) (tVar i)) (ni : i ∉ c.sl) : PE X (.Name x pos) (LE X.K c W (fvarD i)) := PE_imp h fun σ H Q ⟨δ, tmp, Qd, Ed, ⟨F, ow, S⟩, ⟨x, e, q⟩, k, w⟩ => by
  obtain ⟨v, F', e1, S'⟩ := S.slot_frz e ni
  exact ⟨v, e1, k v _ _ _ q ⟨F', ow, S'⟩⟩
theorem pd_const {e : Expr} {v : V} {d : D} (h : PE X e (tC v)) (r : ∀ F, Rep X.K F v d) : PE X e (LE X.K c W (constD d)) := PE_imp h fun σ H Q ⟨δ, tmp, Qd, Ed, ⟨F, ow, S⟩, q, k, w⟩ =>
  k v _ _ _ q ⟨F, ow, S.push (r F)⟩
/-! ### operators on two values -/
/-- an operation on two values that makes new objects alone; it may hand back a new object of one's own -/
inductive Made (K : PySem.W.Frag) (F H F' H' : Hp) (v : V) : DV → Prop where
  | d {x : D} (e : Ext F H F' H') (r : Rep K F' v x) : Made K F H F' H' v (.d x)
  | own {p : Addr} {ob : HO} {o : OC} (hv : v = .ref p) (n : H p = none) (hF : F' = F) (hH : H' = upd H p ob) (r : OwnRep K F (upd H p ob) p o) : Made K F H F' H' v (.own o)
theorem Made.stt {K : PySem.W.Frag} {F H F' H' : Hp} {v : V} {x : DV} {ow : Addr → Option Hold} {δ : DSt} {tmp : List (V × DV)} {σ : L2.St} (m : Made K F H F' H' v x) (S : SttF K c F ow δ tmp σ H) : Stt K c δ ((v, x) :: tmp) σ H' := by
  cases m with
  | d e r => exact ⟨_, _, (S.ext e).push r⟩
  | own hv n hF hH r => subst hv hF hH; exact ⟨_, _, S.pushNew n r⟩
abbrev RD2 := D → D → (DV → Prop) → Prop
def Op2 (K : PySem.W.Frag) (r : R2) (rd : RD2) : Prop := ∀ x y a b F H Q Qd, Same F H → Rep K F x a → Rep K F y b → rd a b Qd → (∀ v dv F' H', Qd dv → Made K F H F' H' v dv → Q v H') → r x y H Q
def opD (rd : RD2) (ta tb : TD) : TD := fun δ Q E => ta δ (fun x δ1 => tb δ1 (fun y δ2 => rd x.toD y.toD fun z => Q z δ2) E) E
theorem lift_op {K : PySem.W.Frag} {r : R2} {rd : RD2} {ta tb : TD} (ho : Op2 K r rd) : ∀ σ H Q, LE K c W (opD rd ta tb) σ H Q → tOp r (LE K c W ta) (LE K c W tb) σ H Q := fun σ H Q ⟨δ, tmp, Qd, Ed, S, t, k, w⟩ => by
  refine ⟨δ, tmp, _, Ed, S, t, fun x a δ1 H1 t1 S1 => ?_, w⟩
  refine ⟨δ1, _, _, Ed, S1, t1, fun y b δ2 H2 t2 S2 => ?_, w.push⟩
  obtain ⟨F, ow, S2⟩ := S2
  obtain ⟨F', S3, _⟩ := S2.top_frz2
  refine ho x y _ _ F' H2 Q _ S3.fh S3.pop.top S3.top t2 fun v dv F2 H3 q m => ?_
  exact k v dv δ2 H3 q (m.stt S3.pop.pop)
theorem pd_op {a b : Expr} {op : Operator} {r : R2} {rd : RD2} {ta tb : TD} {pos : Pos} (ho : OpR X (binaryOp op) r) (hd : Op2 X.K r rd) (ha : PE X a (LE X.K c W ta)) (hb : PE X b (LE X.K c W tb)) : PE X (.BinOp a op b pos) (LE X.K c W (opD rd ta tb)) :=
  PE_imp (pe_op ho ha hb) (lift_op hd)
theorem pd_cmp {a b : Expr} {op : CmpOp} {r : R2} {rd : RD2} {ta tb : TD} {pos : Pos} (ho : OpR X (compareOp op) r) (hd : Op2 X.K r rd) (ha : PE X a (LE X.K c W ta)) (hb : PE X b (LE X.K c W tb)) (hm : behindInMarks op b = false) : PE X (.Compare a [op] [b] pos) (LE X.K c W (opD rd ta tb)) :=
  PE_imp (pe_cmpR ho ha hb hm) (lift_op hd)
/-! ### the call of a def -/
/-- the addresses of the own objects among the arguments -/
inductive ArgsRep (K : PySem.W.Frag) (F H : Hp) : List V → List DV → List Addr → Prop
  | nil : ArgsRep K F H [] [] []
  | d {v : V} {x : D} {vs : List V} {as : List DV} {ps : List Addr} (h : Rep K F v x) (t : ArgsRep K F H vs as ps) : ArgsRep K F H (v :: vs) (.d x :: as) ps
  | own {p : Addr} {o : OC} {vs : List V} {as : List DV} {ps : List Addr} (n : F p = none) (h : OwnRep K F H p o) (np : p ∉ ps) (t : ArgsRep K F H vs as ps) : ArgsRep K F H (.ref p :: vs) (.own o :: as) (p :: ps)
inductive OwnsRep (K : PySem.W.Frag) (F H : Hp) : List Addr → List OC → Prop
  | nil : OwnsRep K F H [] []
  | cons {p : Addr} {o : OC} {ps : List Addr} {os : List OC} (n : F p = none) (h : OwnRep K F H p o) (t : OwnsRep K F H ps os) : OwnsRep K F H (p :: ps) (o :: os)
structure Post (K : PySem.W.Frag) (F H : Hp) (ps : List Addr) (os : List OC) (F' H' : Hp) : Prop where
  f : Same F F'
  fh : Same F' H'
  fr : ∀ a o, H a = some o → a ∉ ps → H' a = some o
  up : ∀ a, H' a = none → H a = none
  nw : ∀ a, F' a ≠ none → F a ≠ none ∨ H a = none
  os : OwnsRep K F' H' ps os
def RetRep (K : PySem.W.Frag) (F' H H' : Hp) (v : V) : DV → Prop
  | .d x => Rep K F' v x
  | .own o => ∃ p, v = .ref p ∧ H p = none ∧ F' p = none ∧ OwnRep K F' H' p o
abbrev SpD := List DV → (DV → List OC → Prop) → (Ex → List OC → Prop) → Prop
def spOf (K : PySem.W.Frag) (sd : SpD) : Sp := fun vs H Q E => ∃ F as ps Qd Ed, Same F H ∧ ArgsRep K F H vs as ps ∧ sd as Qd Ed ∧
  (∀ v x os F' H', Qd x os → Post K F H ps os F' H' → RetRep K F' H H' v x → Q v H') ∧ (∀ cls d x os F' H', Ed x os → Post K F H ps os F' H' → ExRep K F' cls d x → E cls d H')
/-- the arguments as they stand -/
def argsOf (δ : DSt) : List AV → List DV → Prop
  | [], as => as = []
  | .d x :: r, as => ∃ t, as = .d x :: t ∧ argsOf δ r t
  | .o i :: r, as => ∃ o t, δ[i]? = some (some (.own o)) ∧ as = .own o :: t ∧ argsOf δ r t
def slotsOf : List AV → List Nat
  | [] => []
  | .d _ :: r => slotsOf r
  | .o i :: r => i :: slotsOf r
def putBack (δ : DSt) : List Nat → List OC → DSt
  | i :: is, o :: os => putBack (δ.set i (some (.own o))) is os
  | _, _ => δ
def callD (sd : SpD) (ta : TDA) : TD := fun δ Q E => ta δ (fun as δ1 => ∃ xs, argsOf δ1 as xs ∧ (slotsOf as).Nodup ∧ sd xs (fun r os => Q r (putBack δ1 (slotsOf as) os)) (fun x os => E x (putBack δ1 (slotsOf as) os))) E
end
section
variable {K : PySem.W.Frag} {c : Fc} {W : WX} {F F' H H' : Hp} {ow : Addr → Option Hold} {δ : DSt} {tmp : List (V × DV)} {σ : L2.St}
theorem putBack_at : ∀ {is : List Nat} {os : List OC} {δ : DSt} {j : Nat} {x : DV}, is.Nodup → is.length = os.length → (putBack δ is os)[j]? = some (some x) → (∃ (k : Nat) (o : OC), is[k]? = some j ∧ os[k]? = some o ∧ x = .own o) ∨ (j ∉ is ∧ δ[j]? = some (some x))
  | [], [], δ, j, x, _, _, e => .inr ⟨(fun z => nomatch z), e⟩
  | i :: is, o :: os, δ, j, x, nd, hl, e => by
    rcases putBack_at (is := is) (os := os) (List.nodup_cons.mp nd).2 (Nat.succ.inj hl) e with ⟨k, o', a, b, r⟩ | ⟨n, q⟩
    · exact .inl ⟨k + 1, o', a, b, r⟩
    · by_cases z : i = j
      · subst z
        rcases Nat.lt_or_ge i δ.length with h | h
        · rw [List.getElem?_set_self h] at q
          cases q
          exact .inl ⟨0, o, rfl, rfl, rfl⟩
        · rw [List.getElem?_eq_none (by rw [List.length_set]; exact h)] at q
          cases q
      · rw [List.getElem?_set_ne z] at q
        exact .inr ⟨fun y => (List.mem_cons.mp y).elim (fun t => z t.symm) n, q⟩
  | [], _ :: _, _, _, _, _, h, _ => nomatch h
  | _ :: _, [], _, _, _, _, h, _ => nomatch h
theorem putBack_len : ∀ {is : List Nat} {os : List OC} {δ : DSt}, (putBack δ is os).length = δ.length
  | [], [], _ => rfl
  | [], _ :: _, _ => rfl
  | _ :: _, [], _ => rfl
  | i :: is, o :: os, δ => by
    show (putBack (δ.set i _) is os).length = _
    rw [putBack_len, List.length_set]
theorem OwnsRep.len : ∀ {ps : List Addr} {os : List OC}, OwnsRep K F H ps os → ps.length = os.length
  | _, _, .nil => rfl
  | _, _, .cons _ _ t => congrArg (· + 1) t.len
theorem OwnsRep.get : ∀ {ps : List Addr} {os : List OC} {k : Nat} {p : Addr} {o : OC}, OwnsRep K F H ps os → ps[k]? = some p → os[k]? = some o → F p = none ∧ OwnRep K F H p o
  | _, _, 0, _, _, .cons n h _, a, b => by cases a; cases b; exact ⟨n, h⟩
  | _, _, k + 1, _, _, .cons _ _ t, a, b => t.get (k := k) a b
/-- behind a call -/
theorem SttF.called {is : List Nat} {ps : List Addr} {os : List OC} (S : SttF K c F ow δ tmp σ H) (hp : ps.length = is.length) (hs : ∀ (k i : Nat) (p : Addr), is[k]? = some i → ps[k]? = some p → σ[i]? = some (some (.ref p)) ∧ ∃ o, δ[i]? = some (some (.own o))) (nd : is.Nodup) (P : Post K F H ps os F' H') :
    SttF K c F' ow (putBack δ is os) tmp σ H' := by
  have hl : is.length = os.length := by rw [← hp]; exact P.os.len
  have held : ∀ (k : Nat) (p : Addr), ps[k]? = some p → ∃ i, is[k]? = some i ∧ ow p = some (.s i) ∧ NewAt c (.s i) p := fun k p e => by
    have hk : k < is.length := by rw [← hp]; exact set_lt e
    obtain ⟨e1, o, e2⟩ := hs k is[k] p (List.getElem?_eq_getElem hk) e
    obtain ⟨v, e3, p', rfl, a, _, w, _⟩ := S.sl _ _ e2
    rw [e1] at e3
    cases e3
    exact ⟨_, List.getElem?_eq_getElem hk, a, w⟩
  have keep : ∀ {h : Hold} {v : V} {x : DV}, RepV K c F H ow h v x → (∀ (k i : Nat), is[k]? = some i → h ≠ .s i) → RepV K c F' H' ow h v x := fun {h v x} q ne => by
    cases x with
    | d y => exact Rep.mono P.f q
    | own o =>
      obtain ⟨p, rfl, a, b, w, r⟩ := q
      have np : p ∉ ps := fun z => by
        obtain ⟨k, hk⟩ := List.mem_iff_getElem?.mp z
        obtain ⟨i, e1, e2, _⟩ := held k p hk
        rw [a] at e2
        cases e2
        exact ne k i e1 rfl
      refine ⟨p, rfl, a, ?_, w, r.mono P.f ?_⟩
      · cases z : F' p with
        | none => rfl
        | some u =>
          rcases P.nw p (by rw [z]; exact fun q => nomatch q) with y | y
          · exact absurd b y
          · exact absurd y r.has
      · cases z : H p with
        | none => exact absurd z r.has
        | some u => exact P.fr _ _ z np
  have keepT : ∀ {tmp : List (V × DV)}, RepTmp K c F H ow tmp → RepTmp K c F' H' ow tmp := fun {tmp} => by
    induction tmp with
    | nil => exact fun _ => True.intro
    | cons a r ih => obtain ⟨v, x⟩ := a; exact fun y => ⟨keep y.1 (fun _ _ _ z => nomatch z), ih y.2⟩
  refine ⟨P.fh, S.f0.trans P.f, fun a q => (P.nw a q).elim (S.fn a) fun z => .inr (S.up a z), fun a o q n => P.fr a o (S.fr a o q n) fun z => ?_, fun a q => S.up a (P.up a q), by rw [putBack_len]; exact S.len, fun j x q => ?_, keepT S.tm, S.ps⟩
  · obtain ⟨k, hk⟩ := List.mem_iff_getElem?.mp z
    obtain ⟨i, _, _, w⟩ := held k a hk
    rcases w with w | ⟨w, _⟩
    · rw [w] at q; cases q
    · exact n w
  · rcases putBack_at nd hl q with ⟨k, o, e1, e2, rfl⟩ | ⟨nj, e⟩
    · have hk : k < ps.length := by rw [hp]; exact set_lt e1
      have ek := List.getElem?_eq_getElem hk
      obtain ⟨e3, _⟩ := hs k j _ e1 ek
      obtain ⟨i, e4, e5, w⟩ := held k _ ek
      rw [e1] at e4
      cases e4
      obtain ⟨n, r⟩ := P.os.get ek e2
      exact ⟨_, e3, _, rfl, e5, n, w, r⟩
    · obtain ⟨v, e1, r⟩ := S.sl j x e
      exact ⟨v, e1, keep r fun k i e2 z => nj (by cases z; exact List.mem_of_getElem? e2)⟩
/-- the arguments of a call -/
theorem args_rep (S : SttF K c F ow δ tmp σ H) : ∀ {as : List AV} {vs : List V} {xs : List DV}, RepArgs K F σ vs as → argsOf δ as xs → (slotsOf as).Nodup →
    ∃ ps, ArgsRep K F H vs xs ps ∧ ps.length = (slotsOf as).length ∧ ∀ (k i : Nat) (p : Addr), (slotsOf as)[k]? = some i → ps[k]? = some p → σ[i]? = some (some (.ref p)) ∧ ∃ o, δ[i]? = some (some (.own o))
  | [], _, _, .nil, e, _ => by
    cases e
    exact ⟨[], .nil, rfl, fun k i p e => by simp [slotsOf] at e⟩
  | .d x :: r, _, _, .d h t, e, nd => by
    obtain ⟨t', rfl, e⟩ := e
    obtain ⟨ps, a, b, q⟩ := args_rep S t e nd
    exact ⟨ps, .d h a, b, q⟩
  | .o i :: r, _, _, .o h t, e, nd => by
    obtain ⟨o, t', ei, rfl, e⟩ := e
    obtain ⟨ps, a, b, q⟩ := args_rep S t e (List.nodup_cons.mp nd).2
    obtain ⟨v, e1, p, rfl, e2, n, w, r'⟩ := S.sl _ _ ei
    rw [h] at e1
    cases e1
    refine ⟨p :: ps, .own n r' (fun z => ?_) a, congrArg (· + 1) b, fun k j p' => ?_⟩
    · obtain ⟨k, hk⟩ := List.mem_iff_getElem?.mp z
      have hk2 : k < (slotsOf r).length := by rw [← b]; exact set_lt hk
      obtain ⟨e3, o', e4⟩ := q k _ p (List.getElem?_eq_getElem hk2) hk
      obtain ⟨v, e5, p2, rfl, e6, _⟩ := S.sl _ _ e4
      rw [e3] at e5
      cases e5
      rw [e2] at e6
      have e7 : i = (slotsOf r)[k] := by injection Option.some.inj e6
      exact (List.nodup_cons.mp nd).1 (by rw [e7]; exact List.getElem_mem hk2)
    · cases k with
      | zero => intro e e'; cases e; cases e'; exact ⟨h, o, ei⟩
      | succ k => exact q k j p'
end
end DL

set_option Elab.async false
set_option linter.all false
set_option maxRecDepth 100000
namespace DL
open PySem PySem.Spec PyProof.Rows L2
/-! ### C(e, ..) whose __init__ may raise: what is raised is wished for at the slots -/
section
variable {X : Cx} {CX : CXT} {k : Nat} {f C : Addr} {fd : FuncData} {ps : List Str} {sp : Sp} {E : L2.St → XK} {x m : Str} {p pos apos : Pos} {e o : Expr} {es : List Expr} {ta : TE} {t : TA}
/-! ### o.m(e, ..), a method that may raise -/
def tMethX (C : Addr) (m : Str) (sp : Sp) (E : L2.St → XK) (ta : TE) (t : TA) : TE := fun σ H Q => ta σ H fun x H1 => ∃ a dx fs, x = .ref a ∧ H1 a = some (.ins C dx fs) ∧ fs.lookup m = none ∧ t σ H1 fun vs H2 => sp (x :: vs) H2 Q (E σ)
theorem pe_methX {pl : Sem Bool} (he : PE X o ta) (c : Cls X.K C) (hm : Meth X.K C m f) (G : FnOk X.prog X.w X.K X.mg X.base CX k f fd ps sp) (room : Room k X.A) (bd : Binds X.K fd ps []) (hx : ∀ σ, PassesAt CX X σ (E σ)) (ha : PA X (e :: es) t)
    (hst : starEach (e :: es) X.env = (false, eval e X.env) :: starEach es X.env := by rfl) (hpl : (backTo pos (starEach es X.env)).any (·.1) = false := by rfl)
    (ht : eval (.Call (.Attribute o m apos) (e :: es) [] pos) X.env = (do
      let ov ← eval o X.env
      standAt apos.atName
      let (f, first) ← holding [ov] (getMethod ov m pl)
      callWith pos f first (backTo pos (starEach (e :: es) X.env)) (backToKw pos (keywordEach [] X.env))) := by rfl) :
    PE X (.Call (.Attribute o m apos) (e :: es) [] pos) (tMethX C m sp E ta t) := by
  refine ⟨fun pins s σ H Q I h => PySem.W.methodCall_KW (pl := pl) (thn (he.run pins s σ H _ I h) fun u s1 ⟨x, H1, I1, rx, a, dx, fs, ex, ea, l, q⟩ => ?_) ht⟩
  subst ex
  cases (show u = Value.ref a from rx)
  refine getmeth_ok I1 ea c hm l (PySem.W.callWith_K (first := [.ref a]) (h₀ := X.base) I.ok.mod.kin hm.kp (thn (ha.run pos pins s1 σ H1 _ I1 q) fun us s2 ⟨vs, H2, I2, r, q2⟩ => ⟨I2.kIn, ?_⟩) hst hpl)
  exact run_fnS G room bd (hx σ) I2 (.cons (show RelV (V.ref a) (Value.ref a) from rfl) r) q2
end
section
variable {X : Cx} {c : Fc} {W : WX}
/-! ### arguments -/
def nilD : TDA := fun δ Q _ => Q [] δ
def consD (t : TD) (r : TDA) : TDA := fun δ Q E => t δ (fun x δ1 => r δ1 (fun as δ2 => Q (.d x.toD :: as) δ2) E) E
def consO (i : Nat) (r : TDA) : TDA := fun δ Q E => r δ (fun as δ2 => Q (.o i :: as) δ2) E
theorem pda_nil : PA X [] (LA X.K c W nilD) := PA_imp pa_nil fun σ H Q ⟨δ, tmp, Qd, Ed, ⟨F, ow, S⟩, q, k, w⟩ => k [] [] δ F ow H q S .nil
theorem pda_cons {e : Expr} {es : List Expr} {t : TD} {r : TDA} (he : PE X e (LE X.K c W t)) (hr : PA X es (LA X.K c W r)) (hs : starEach (e :: es) X.env = (false, eval e X.env) :: starEach es X.env := by rfl) : PA X (e :: es) (LA X.K c W (consD t r)) :=
  PA_imp (pa_cons he hr hs) fun σ H Q ⟨δ, tmp, Qd, Ed, S, t, k, w⟩ => ⟨δ, tmp, _, Ed, S, t, fun v x δ1 H1 q1 ⟨F, ow, S1⟩ => by
    obtain ⟨F', S2, _⟩ := S1.top_frz
    exact ⟨δ1, _, _, Ed, ⟨F', ow, S2⟩, q1, fun vs as δ2 F2 ow2 H2 q2 S3 ra => k _ _ _ _ _ _ q2 S3.pop (.d S3.top ra), w.push⟩, w⟩
theorem pda_own {i : Nat} {x : Str} {pos : Pos} {es : List Expr} {r : TDA} (he : PE X (.Name x pos) (tVar i)) (hr : PA X es (LA X.K c W r)) (hs : starEach (.Name x pos :: es) X.env = (false, eval (.Name x pos) X.env) :: starEach es X.env := by rfl) :
    PA X (.Name x pos :: es) (LA X.K c W (fun δ Q E => ∃ o, δ[i]? = some (some (.own o)) ∧ consO i r δ Q E)) :=
  PA_imp (pa_cons he hr hs) fun σ H Q ⟨δ, tmp, Qd, Ed, ⟨F, ow, S⟩, ⟨o, eo, t⟩, k, w⟩ => by
    obtain ⟨v, e1, _⟩ := S.sl _ _ eo
    exact ⟨v, e1, δ, tmp, _, Ed, ⟨F, ow, S⟩, t, fun vs as δ2 F2 ow2 H2 q2 S3 ra => k _ _ _ _ _ _ q2 S3 (.o e1 ra), w⟩
/-! ### calls -/
theorem ret_push {K : PySem.W.Frag} {F F' H H' : Hp} {ow : Addr → Option Hold} {δ : DSt} {tmp : List (V × DV)} {σ : L2.St} {v : V} {x : DV} {is : List Nat} {ps : List Addr} {os : List OC} (S : SttF K c F ow δ tmp σ H) (hp : ps.length = is.length)
    (hs : ∀ (k i : Nat) (p : Addr), is[k]? = some i → ps[k]? = some p → σ[i]? = some (some (.ref p)) ∧ ∃ o, δ[i]? = some (some (.own o))) (nd : is.Nodup) (P : Post K F H ps os F' H') (r : RetRep K F' H H' v x) : Stt K c (putBack δ is os) ((v, x) :: tmp) σ H' := by
  cases x with
  | d y => exact ⟨F', ow, (S.called hp hs nd P).push r⟩
  | own o =>
    obtain ⟨p, rfl, n, nF, r⟩ := r
    have S1 := S.reown (ow' := owSet ow p (.t tmp.length)) (fun k a _ z => owSet_ne fun e => z (by rw [e]; exact n)) (fun k a _ _ z => owSet_ne fun e => z (by rw [e]; exact n))
    have S2 := S1.called hp hs nd P
    exact ⟨F', _, { S2 with tm := ⟨⟨p, rfl, owSet_at, nF, .inl (S.up _ n), r⟩, S2.tm⟩ }⟩
theorem lift_sp {K : PySem.W.Frag} {F H : Hp} {ow : Addr → Option Hold} {δ : DSt} {tmp : List (V × DV)} {σ : L2.St} {vs : List V} {as : List AV} {xs : List DV} {sd : SpD} {Q : VK} {Qd : DK} {Ed : XD} (S : SttF K c F ow δ tmp σ H) (ra : RepArgs K F σ vs as) (ea : argsOf δ as xs) (nd : (slotsOf as).Nodup)
    (sp : sd xs (fun r os => Qd r (putBack δ (slotsOf as) os)) (fun x os => Ed x (putBack δ (slotsOf as) os))) (k : ∀ v x δ' H', Qd x δ' → Stt K c δ' ((v, x) :: tmp) σ H' → Q v H') (w : WD K c W tmp Ed) : spOf K sd vs H Q (WE W σ) := by
  obtain ⟨ps, ar, hl, hs⟩ := args_rep S ra ea nd
  exact ⟨F, xs, ps, _, _, S.fh, ar, sp, fun v r os F' H' q P rr => k v r _ H' q (ret_push S hl hs nd P rr), fun cls d x os F' H' q P er => w x _ σ H' F' ow cls d q (S.called hl hs nd P) er⟩
variable {k : Nat} {f C : Addr} {fd : FuncData} {ps : List Str} {sd : SpD} {x m : Str} {p pos apos : Pos} {e o : Expr} {es : List Expr} {to : TD} {ta : TDA}
theorem pd_call (G : FnOk X.prog X.w X.K X.mg X.base (L2.CX X.prog X.w) k f fd ps (spOf X.K sd)) (hr : Room k X.A) (hg : Gl X x) (hm : X.mg x = some (.ref f)) (hk : PySem.W.keepIn X.K (.ref f) = true) (hb : Binds X.K fd ps []) (tk : Takes X W) (ha : PA X (e :: es) (LA X.K c W ta))
    (hdb : (x == ("__debug__" : Str)) = false := by decide) (he : starEach (e :: es) X.env = (false, eval e X.env) :: starEach es X.env := by rfl) (hpl : (backTo pos (starEach es X.env)).any (·.1) = false := by rfl) :
    PE X (.Call (.Name x p) (e :: es) [] pos) (LE X.K c W (callD sd ta)) :=
  PE_imp (pe_callSD (E := WE W) G hr hg hm hk hb .nil (fun σ => passAt tk σ) ha hdb he hpl) fun σ H Q ⟨δ, tmp, Qd, Ed, S, t, k, w⟩ =>
    ⟨δ, tmp, _, Ed, S, t, fun vs as δ1 F ow H1 ⟨xs, ea, nd, sp⟩ S1 ra => by
      show spOf X.K sd (vs ++ []) H1 Q (WE W σ)
      rw [List.append_nil]
      exact lift_sp S1 ra ea nd sp k w, w⟩
/-- o.m(..), o of the class at C, its fields fs -/
def methD (C : Addr) (m : Str) (sd : SpD) (to : TD) (ta : TDA) : TD := fun δ Q E => to δ (fun o δ1 => ∃ fs, o.toD = .obj C fs ∧ fs.lookup m = none ∧ ta δ1 (fun as δ2 => ∃ xs, argsOf δ2 as xs ∧ (slotsOf as).Nodup ∧
  sd (.d (.obj C fs) :: xs) (fun r os => Q r (putBack δ2 (slotsOf as) os)) (fun x os => E x (putBack δ2 (slotsOf as) os))) E) E
theorem RepF.lookup {K : PySem.W.Frag} {F : Hp} {n : Str} : ∀ {vs : List (Str × V)} {fs : List (Str × D)}, RepF K F vs fs → (fs.lookup n = none → vs.lookup n = none) ∧ ∀ d, fs.lookup n = some d → ∃ v, vs.lookup n = some v ∧ Rep K F v d
  | _, _, .nil => ⟨fun _ => rfl, fun d h => by cases h⟩
  | _, _, .cons (n := n') h t => by
    rw [List.lookup_cons, List.lookup_cons]
    cases n == n'
    · exact t.lookup
    · exact ⟨(fun z => nomatch z), fun d z => ⟨_, rfl, by cases z; exact h⟩⟩
theorem pd_meth {pl : Sem Bool} (he : PE X o (LE X.K c W to)) (cl : Cls X.K C) (hm : Meth X.K C m f) (G : FnOk X.prog X.w X.K X.mg X.base (L2.CX X.prog X.w) k f fd ps (spOf X.K sd)) (hr : Room k X.A) (hb : Binds X.K fd ps []) (tk : Takes X W) (ha : PA X (e :: es) (LA X.K c W ta))
    (hst : starEach (e :: es) X.env = (false, eval e X.env) :: starEach es X.env := by rfl) (hpl : (backTo pos (starEach es X.env)).any (·.1) = false := by rfl)
    (ht : eval (.Call (.Attribute o m apos) (e :: es) [] pos) X.env = (do
      let ov ← eval o X.env
      standAt apos.atName
      let (f, first) ← holding [ov] (getMethod ov m pl)
      callWith pos f first (backTo pos (starEach (e :: es) X.env)) (backToKw pos (keywordEach [] X.env))) := by rfl) :
    PE X (.Call (.Attribute o m apos) (e :: es) [] pos) (LE X.K c W (methD C m sd to ta)) :=
  PE_imp (pe_methX (E := WE W) he cl hm G hr hb (fun σ => passAt tk σ) ha hst hpl ht) fun σ H Q ⟨δ, tmp, Qd, Ed, S, t, k, w⟩ =>
    ⟨δ, tmp, _, Ed, S, t, fun v o δ1 H1 ⟨fs, eo, nl, t1⟩ ⟨F, ow, S1⟩ => by
      obtain ⟨F', S2, _⟩ := S1.top_frz
      rw [eo] at S2
      cases S2.top with
      | @obj a _ dx vs _ s h =>
        refine ⟨a, dx, vs, rfl, S2.fh _ _ s, (RepF.lookup h).1 nl, δ1, _, _, Ed, ⟨F', ow, S2⟩, t1, fun ws as δ2 F2 ow2 H2 ⟨xs, ea, nd, sp⟩ S3 ra => ?_, w.push⟩
        obtain ⟨qs, ar, hl, hs⟩ := args_rep S3.pop ra ea nd
        exact ⟨F2, _, qs, _, _, S3.fh, .d S3.top ar, sp, fun v r os F' H' q P rr => k v r _ H' q (ret_push S3.pop hl hs nd P rr), fun cls d x os F' H' q P er => w x _ σ H' F' ow2 cls d q (S3.pop.called hl hs nd P) er⟩, w⟩
theorem ArgsRep.ext {K : PySem.W.Frag} {F H H' : Hp} (s : Same H H') : ∀ {vs : List V} {xs : List DV} {ps : List Addr}, ArgsRep K F H vs xs ps → ArgsRep K F H' vs xs ps
  | _, _, _, .nil => .nil
  | _, _, _, .d h t => .d h (t.ext s)
  | _, _, _, .own n h np t => .own n (h.mono (Same.refl F) (Same.at s h.has)) np (t.ext s)
theorem ArgsRep.at {K : PySem.W.Frag} {F H : Hp} {p : Addr} : ∀ {vs : List V} {xs : List DV} {ps : List Addr}, ArgsRep K F H vs xs ps → p ∈ ps → H p ≠ none
  | _, _, _, .nil, h => nomatch h
  | _, _, _, .d _ t, h => t.at h
  | _, _, _, .own _ r _ t, h => (List.mem_cons.mp h).elim (fun e => by subst e; exact r.has) fun h => t.at h
theorem OwnsRep.mono {K : PySem.W.Frag} {F F' H : Hp} (s : Same F F') : ∀ {ps : List Addr} {os : List OC}, (∀ p ∈ ps, F p = none → F' p = none) → OwnsRep K F H ps os → OwnsRep K F' H ps os
  | _, _, _, .nil => .nil
  | _, _, h, .cons n r t => .cons (h _ List.mem_cons_self n) (r.mono s rfl) (t.mono s fun p hp => h p (List.mem_cons_of_mem _ hp))
theorem lift_make {K : PySem.W.Frag} {F H : Hp} {ow : Addr → Option Hold} {δ : DSt} {tmp : List (V × DV)} {σ : L2.St} {vs : List V} {as : List AV} {xs : List DV} {Q : VK} {Qd : DK} {Ed : XD} (S : SttF K c F ow δ tmp σ H) (ra : RepArgs K F σ vs as) (ea : argsOf δ as xs) (nd : (slotsOf as).Nodup)
    (sp : sd (.own (.ins C []) :: xs) (fun r os => r = .d .non ∧ ∃ fs os', os = .ins C fs :: os' ∧ Qd (.d (.obj C fs)) (putBack δ (slotsOf as) os')) (fun x os => ∃ o os', os = o :: os' ∧ Ed x (putBack δ (slotsOf as) os')))
    (k : ∀ v x δ' H', Qd x δ' → Stt K c δ' ((v, x) :: tmp) σ H' → Q v H') (w : WD K c W tmp Ed) (x dx : Addr) (nx : H x = none) (ndx : H dx = none) (ne : dx ≠ x) :
    spOf K sd (.ref x :: vs) (upd (upd H dx (.own x)) x (.ins C dx [])) (fun v H2 => v = .non ∧ Q (.ref x) H2) (WE W σ) := by
  obtain ⟨ps, ar, hl, hs⟩ := args_rep S ra ea nd
  have s2 : Same H (upd (upd H dx (.own x)) x (.ins C dx [])) := same_upd (same_upd (Same.refl H) ndx) (by rw [upd_ne ne.symm]; exact nx)
  have Fx : F x = none := S.fh.free nx
  have xps : x ∉ ps := fun z => ar.at z nx
  have back : ∀ {os' : List OC} {F' H' : Hp}, Same F F' → Same F' H' → (∀ a o, (upd (upd H dx (.own x)) x (.ins C dx [])) a = some o → a ∉ x :: ps → H' a = some o) → (∀ a, H' a = none → (upd (upd H dx (.own x)) x (.ins C dx [])) a = none) →
      (∀ a, F' a ≠ none → a = x ∨ F a ≠ none ∨ (upd (upd H dx (.own x)) x (.ins C dx [])) a = none) → OwnsRep K F' H' ps os' → Post K F H ps os' F' H' := fun f fh fr up nw os =>
    ⟨f, fh, fun a o e n => fr a o (s2 _ _ e) fun z => (List.mem_cons.mp z).elim (fun z => by subst z; rw [nx] at e; cases e) n, fun a z => s2.free (up a z), fun a z => (nw a z).elim (fun z => by subst z; exact .inr nx) fun z => z.imp id fun z => s2.free z, os⟩
  refine ⟨F, _, x :: ps, _, _, S.fh.trans s2, .own Fx (show OwnRep K F _ x (.ins C []) from ⟨dx, [], upd_same, .nil⟩) xps (ar.ext s2), sp, fun v r os F' H' ⟨e1, fs, os', e2, q⟩ P rr => ?_, fun cls d y os F' H' ⟨o, os', e2, q⟩ P er => ?_⟩
  · subst e1 e2
    have rv : v = .non := by cases rr; rfl
    refine ⟨rv, k _ _ _ _ q ?_⟩
    cases P.os with
    | cons n r t =>
      obtain ⟨dx', vs', ex, rf⟩ := r
      have sf : Same F' (upd F' x (.ins C dx' vs')) := same_upd (Same.refl F') n
      have P' : Post K F H ps os' (upd F' x (.ins C dx' vs')) H' := back (P.f.trans sf) (same_upd1 P.fh ex) P.fr P.up (fun a z => by
        by_cases y : a = x
        · exact .inl y
        · rw [upd_ne y] at z; exact .inr (P.nw a z)) (t.mono sf fun p hp e => by rw [upd_ne (fun z => xps (by rw [← z]; exact hp))]; exact e)
      exact ⟨_, ow, (S.called hl hs nd P').push (.obj upd_same (rf.mono sf))⟩
  · subst e2
    cases P.os with
    | cons n r t => exact w y _ σ H' F' ow cls d q (S.called hl hs nd (back P.f P.fh P.fr P.up (fun a z => .inr (P.nw a z)) t)) er
end
end DL

set_option Elab.async false
set_option linter.all false
set_option maxRecDepth 100000
namespace DL
open PySem PySem.Spec PyProof.Rows L2
section
variable {X : Cx} {c : Fc} {W : WX}
/-! ### blocks -/
def nextD : TDS := fun D δ => D.nx δ
def seqD (t u : TDS) : TDS := fun D δ => t { D with nx := u D } δ
theorem pds_nil : PSs X [] (LS X.K c W nextD) := PSs_imp pss_nil fun D σ H ⟨δ, tmp, Dd, S, t, k, _⟩ => k δ σ H t S
theorem pds_cons {st : Stmt} {rest : List Stmt} {t u : TDS} (h1 : PS X st (LS X.K c W t)) (h2 : PSs X rest (LS X.K c W u)) : PSs X (st :: rest) (LS X.K c W (seqD t u)) :=
  PSs_imp (pss_cons h1 h2) fun D σ H ⟨δ, tmp, Dd, S, q, k, kr, kb, kc, w⟩ => ⟨δ, tmp, _, S, q, fun δ' σ' H' q' S' => ⟨δ', tmp, Dd, S', q', k, kr, kb, kc, w⟩, kr, kb, kc, w⟩
theorem pds_one {st : Stmt} {t : TDS} (h1 : PS X st (LS X.K c W t)) : PSs X [st] (LS X.K c W t) := PSs_imp (pss_one h1) fun _ _ _ q => q
def neverD : TDS := fun _ _ => False
theorem psd_never {st : Stmt} : PS X st (LS X.K c W neverD) := PS_imp ps_never fun D σ H ⟨δ, tmp, Dd, S, t, _⟩ => t
def dropD (t : TD) : TDS := fun D δ => t δ (fun _ δ1 => D.nx δ1) D.ex
theorem psd_expr {e : Expr} {t : TD} {pos : Pos} (he : PE X e (LE X.K c W t)) (hs : swapsWith e none pos.line X.env = pure false := by rfl) : PS X (.Expr e pos) (LS X.K c W (dropD t)) :=
  PS_imp (ps_expr he hs) fun D σ H ⟨δ, tmp, Dd, S, q, k, kr, kb, kc, w⟩ => ⟨δ, tmp, _, _, S, q, fun v x δ' H' q' ⟨F, ow, S'⟩ => k δ' σ H' q' ⟨F, ow, S'.pop⟩, w⟩
def retD (t : TD) : TDS := fun D δ => t δ D.rt D.ex
theorem psd_ret {e : Expr} {t : TD} {pos : Pos} (he : PE X e (LE X.K c W t)) : PS X (.Return (some e) pos) (LS X.K c W (retD t)) :=
  PS_imp (ps_ret he) fun D σ H ⟨δ, tmp, Dd, S, q, k, kr, kb, kc, w⟩ => ⟨δ, tmp, _, _, S, q, fun v x δ' H' q' S' => kr v x δ' σ H' q' S', w⟩
/-! ### names -/
/-- x = e, frozen; as it is (x's own) -/
def setD (i : Nat) (t : TD) : TDS := fun D δ => t δ (fun x δ1 => D.nx (δ1.set i (some (.d x.toD)))) D.ex
def setO (i : Nat) (t : TD) : TDS := fun D δ => t δ (fun x δ1 => D.nx (δ1.set i (some x))) D.ex
theorem SttF.set' {K : PySem.W.Frag} {F H : Hp} {ow : Addr → Option Hold} {δ : DSt} {tmp : List (V × DV)} {σ : L2.St} {v : V} {x : DV} {i : Nat} (S : SttF K c F ow δ ((v, x) :: tmp) σ H) (ni : i ∉ c.sl) : Stt K c (δ.set i (some x)) tmp (σ.set i (some v)) H := by
  rcases Nat.lt_or_ge i δ.length with hi | hi
  · obtain ⟨ow', S'⟩ := S.set hi ni
    exact ⟨F, ow', S'⟩
  · rw [List.set_eq_of_length_le hi, List.set_eq_of_length_le (by rw [S.len]; exact hi)]
    exact ⟨F, ow, S.pop⟩
theorem psd_set {i : Nat} {x : Str} {e : Expr} {t : TD} {pos pos' : Pos} (he : PE X e (LE X.K c W t)) (ni : i ∉ c.sl) (hN : X.N.Nodup) (hi : X.N[i]? = some x) (hx : Loc X.env.scope x) (hs : swapsWith e (some (.Name x pos')) pos.line X.env = pure false := by rfl)
    (hf : X.fn x = true ∨ X.env.scope.names.lookup x = some .local := by first | exact .inl rfl | exact .inr rfl | assumption) : PS X (.Assign [.Name x pos'] e pos) (LS X.K c W (setD i t)) :=
  PS_imp (ps_set (i := i) hN hi hx he hs hf) fun D σ H ⟨δ, tmp, Dd, S, q, k, kr, kb, kc, w⟩ => ⟨δ, tmp, _, _, S, q, fun v x δ' H' q' ⟨F, ow, S'⟩ => by
    obtain ⟨F', S2, _⟩ := S'.top_frz
    exact k _ _ _ q' (S2.set' ni), w⟩
theorem psd_setO {i : Nat} {x : Str} {e : Expr} {t : TD} {pos pos' : Pos} (he : PE X e (LE X.K c W t)) (ni : i ∉ c.sl) (hN : X.N.Nodup) (hi : X.N[i]? = some x) (hx : Loc X.env.scope x) (hs : swapsWith e (some (.Name x pos')) pos.line X.env = pure false := by rfl)
    (hf : X.fn x = true ∨ X.env.scope.names.lookup x = some .local := by first | exact .inl rfl | exact .inr rfl | assumption) : PS X (.Assign [.Name x pos'] e pos) (LS X.K c W (setO i t)) :=
  PS_imp (ps_set (i := i) hN hi hx he hs hf) fun D σ H ⟨δ, tmp, Dd, S, q, k, kr, kb, kc, w⟩ => ⟨δ, tmp, _, _, S, q, fun v x δ' H' q' ⟨F, ow, S'⟩ => k _ _ _ q' (S'.set' ni), w⟩
/-- a row of values kept as they are -/
def LK (K : PySem.W.Frag) (c : Fc) (W : WX) (t : DSt → (List DV → DSt → Prop) → XD → Prop) : TA := fun σ H Q => ∃ δ tmp Qd Ed, Stt K c δ tmp σ H ∧ t δ Qd Ed ∧ (∀ vs xs δ' H', Qd xs δ' → vs.length = xs.length → Stt K c δ' ((vs.zip xs).reverse ++ tmp) σ H' → Q vs H') ∧ WD K c W tmp Ed
abbrev TDK := DSt → (List DV → DSt → Prop) → XD → Prop
def nilK : TDK := fun δ Q _ => Q [] δ
def consK (t : TD) (r : TDK) : TDK := fun δ Q E => t δ (fun x δ1 => r δ1 (fun xs δ2 => Q (x :: xs) δ2) E) E
theorem pka_nil : PA X [] (LK X.K c W nilK) := PA_imp pa_nil fun σ H Q ⟨δ, tmp, Qd, Ed, S, q, k, w⟩ => k [] [] δ H q rfl S
theorem pka_cons {e : Expr} {es : List Expr} {t : TD} {r : TDK} (he : PE X e (LE X.K c W t)) (hr : PA X es (LK X.K c W r)) (hs : starEach (e :: es) X.env = (false, eval e X.env) :: starEach es X.env := by rfl) : PA X (e :: es) (LK X.K c W (consK t r)) :=
  PA_imp (pa_cons he hr hs) fun σ H Q ⟨δ, tmp, Qd, Ed, S, t, k, w⟩ => ⟨δ, tmp, _, Ed, S, t, fun v x δ1 H1 q1 S1 => ⟨δ1, _, _, Ed, S1, q1, fun vs xs δ2 H2 q2 hl S2 => k _ _ _ _ q2 (congrArg (· + 1) hl) (by
    show Stt X.K c δ2 (((v, x) :: vs.zip xs).reverse ++ tmp) σ H2
    rw [List.reverse_cons, List.append_assoc]
    exact S2), w.push⟩, w⟩
/-- which of a row of values is frozen -/
def asD (own : Bool) (x : DV) : DV := if own then x else .d x.toD
def parD (i j : Nat) (oi oj : Bool) (t : TDK) : TDS := fun D δ => t δ (fun xs δ1 => ∃ x y, xs = [x, y] ∧ D.nx ((δ1.set j (some (asD oj y))).set i (some (asD oi x)))) D.ex
theorem SttF.top_as {K : PySem.W.Frag} {F H : Hp} {ow : Addr → Option Hold} {δ : DSt} {tmp : List (V × DV)} {σ : L2.St} {v : V} {x : DV} (S : SttF K c F ow δ ((v, x) :: tmp) σ H) (b : Bool) : ∃ F', SttF K c F' ow δ ((v, asD b x) :: tmp) σ H := by
  cases b
  · obtain ⟨F', S', _⟩ := S.top_frz
    exact ⟨F', S'⟩
  · exact ⟨F, S⟩
theorem psd_par {i j : Nat} {oi oj : Bool} {x y : Str} {a b : Expr} {t : TDK} {px py pt pos : Pos} {kt k2 pt2} (ha : PA X [a, b] (LK X.K c W t)) (ni : i ∉ c.sl) (nj : j ∉ c.sl) (h : ∀ {ta : TA}, PA X [a, b] ta → PS X (.Assign [.Tuple [.Name x px, .Name y py] k2 pt2] (.Tuple [a, b] kt pt) pos) (tPar i j ta)) (hij : i ≠ j) :
    PS X (.Assign [.Tuple [.Name x px, .Name y py] k2 pt2] (.Tuple [a, b] kt pt) pos) (LS X.K c W (parD i j oi oj t)) :=
  PS_imp (h ha) fun D σ H ⟨δ, tmp, Dd, S, q, k, kr, kb, kc, w⟩ => ⟨δ, tmp, _, _, S, q, fun vs xs δ' H' ⟨x, y, e, q'⟩ hl S' => by
    subst e
    match vs, hl with
    | [v, u], _ =>
      obtain ⟨F, ow, S'⟩ := S'
      have S2 : SttF X.K c F ow δ' ((u, y) :: (v, x) :: tmp) σ H' := S'
      obtain ⟨F3, S3⟩ := S2.top_as oj
      obtain ⟨F4, ow4, S4⟩ := S3.set' nj
      obtain ⟨F5, S5⟩ := S4.top_as oi
      refine ⟨v, u, rfl, k _ _ _ q' ?_⟩
      rw [List.set_comm _ _ hij]
      exact S5.set' ni, w⟩
/-! ### if -/
def ifD (c : TDT) (t u : TDS) : TDS := fun D δ => c δ (fun b δ1 => if b = true then t D δ1 else u D δ1) D.ex
theorem psd_if {e : Expr} {a b : List Stmt} {tc : TDT} {t u : TDS} {pos : Pos} (hc : PT X e (LT X.K c W tc)) (ha : PSs X a (LS X.K c W t)) (hb : PSs X b (LS X.K c W u)) : PS X (.If e a b pos) (LS X.K c W (ifD tc t u)) :=
  PS_imp (ps_if hc ha hb) fun D σ H ⟨δ, tmp, Dd, S, q, k, kr, kb, kc, w⟩ => ⟨δ, tmp, _, _, S, q, fun b δ' H' q' S' => by
    cases b
    · exact ⟨δ', tmp, Dd, S', q', k, kr, kb, kc, w⟩
    · exact ⟨δ', tmp, Dd, S', q', k, kr, kb, kc, w⟩, w⟩
def ifExpD (c : TDT) (t u : TD) : TD := fun δ Q E => c δ (fun b δ1 => if b = true then t δ1 Q E else u δ1 Q E) E
theorem pd_ifExp {e a b : Expr} {tc : TDT} {t u : TD} {pos : Pos} (hc : PT X e (LT X.K c W tc)) (ha : PE X a (LE X.K c W t)) (hb : PE X b (LE X.K c W u)) : PE X (.IfExp e a b pos) (LE X.K c W (ifExpD tc t u)) :=
  PE_imp (pe_ifExp hc ha hb) fun σ H Q ⟨δ, tmp, Qd, Ed, S, q, k, w⟩ => ⟨δ, tmp, _, _, S, q, fun b δ' H' q' S' => by
    cases b
    · exact ⟨δ', tmp, Qd, Ed, S', q', k, w⟩
    · exact ⟨δ', tmp, Qd, Ed, S', q', k, w⟩, w⟩
/-! ### and, or, not: tests -/
def notD (t : TDT) : TDT := fun δ Q E => t δ (fun b δ1 => Q (!b) δ1) E
def andD (t u : TDT) : TDT := fun δ Q E => t δ (fun b δ1 => if b = true then u δ1 Q E else Q false δ1) E
def orD (t u : TDT) : TDT := fun δ Q E => t δ (fun b δ1 => if b = true then Q true δ1 else u δ1 Q E) E
theorem ptd_not {a : Expr} {t : TDT} {pos : Pos} (ha : PT X a (LT X.K c W t)) : PT X (.UnaryOp .Not a pos) (LT X.K c W (notD t)) :=
  PT_imp (pt_not ha) fun σ H Q ⟨δ, tmp, Qd, Ed, S, q, k, w⟩ => ⟨δ, tmp, _, _, S, q, fun b δ' H' q' S' => k _ _ _ q' S', w⟩
theorem pwd_and1 {a : Expr} {t : TDT} {pos : Pos} (ha : PT X a (LT X.K c W t)) : PW X (.BoolOp .And [a] pos) (LT X.K c W t) := pw_and1 ha
theorem pwd_or1 {a : Expr} {t : TDT} {pos : Pos} (ha : PT X a (LT X.K c W t)) : PW X (.BoolOp .Or [a] pos) (LT X.K c W t) := pw_or1 ha
theorem pwd_and {a b : Expr} {rest : List Expr} {t u : TDT} {pos : Pos} (ha : PT X a (LT X.K c W t)) (hb : PW X (.BoolOp .And (b :: rest) pos) (LT X.K c W u)) : PW X (.BoolOp .And (a :: b :: rest) pos) (LT X.K c W (andD t u)) :=
  PW_imp (pw_and ha hb) fun σ H Q ⟨δ, tmp, Qd, Ed, S, q, k, w⟩ => ⟨δ, tmp, _, _, S, q, fun b δ' H' q' S' => by
    cases b
    · exact k _ _ _ q' S'
    · exact ⟨δ', tmp, Qd, Ed, S', q', k, w⟩, w⟩
theorem pwd_or {a b : Expr} {rest : List Expr} {t u : TDT} {pos : Pos} (ha : PT X a (LT X.K c W t)) (hb : PW X (.BoolOp .Or (b :: rest) pos) (LT X.K c W u)) : PW X (.BoolOp .Or (a :: b :: rest) pos) (LT X.K c W (orD t u)) :=
  PW_imp (pw_or ha hb) fun σ H Q ⟨δ, tmp, Qd, Ed, S, q, k, w⟩ => ⟨δ, tmp, _, _, S, q, fun b δ' H' q' S' => by
    cases b
    · exact ⟨δ', tmp, Qd, Ed, S', q', k, w⟩
    · exact k _ _ _ q' S', w⟩
/-! values by truth: bools alone -/
def boolE (t : TD) (k : Bool → DSt → Prop) (E : XD) (δ : DSt) : Prop := t δ (fun x δ1 => ∃ b, x = .d (.bl b) ∧ k b δ1) E
def notV (t : TD) : TD := fun δ Q E => boolE t (fun b δ1 => Q (.d (.bl (!b))) δ1) E δ
def andV (t u : TD) : TD := fun δ Q E => boolE t (fun b δ1 => if b = true then u δ1 Q E else Q (.d (.bl false)) δ1) E δ
def orV (t u : TD) : TD := fun δ Q E => boolE t (fun b δ1 => if b = true then Q (.d (.bl true)) δ1 else u δ1 Q E) E δ
theorem pd_not {a : Expr} {t : TD} {pos : Pos} (ha : PE X a (LE X.K c W t)) : PE X (.UnaryOp .Not a pos) (LE X.K c W (notV t)) :=
  PE_imp (pe_not ha) fun σ H Q ⟨δ, tmp, Qd, Ed, S, q, k, w⟩ => ⟨δ, tmp, _, _, S, q, fun v x δ' H' ⟨b, e, q'⟩ ⟨F, ow, S'⟩ => by
    subst e
    cases S'.top
    exact ⟨b, rfl, k _ _ _ _ q' ⟨F, ow, S'.pop.push (.bl _)⟩⟩, w⟩
theorem pd_one {op} {a : Expr} {t : TD} {pos : Pos} (ha : PE X a (LE X.K c W t)) : PE X (.BoolOp op [a] pos) (LE X.K c W t) := pe_one ha
theorem pd_and {a b : Expr} {rest : List Expr} {t u : TD} {pos : Pos} (ha : PE X a (LE X.K c W t)) (hb : PE X (.BoolOp .And (b :: rest) pos) (LE X.K c W u)) : PE X (.BoolOp .And (a :: b :: rest) pos) (LE X.K c W (andV t u)) :=
  PE_imp (pe_and ha hb) fun σ H Q ⟨δ, tmp, Qd, Ed, S, q, k, w⟩ => ⟨δ, tmp, _, _, S, q, fun v x δ' H' ⟨b, e, q'⟩ ⟨F, ow, S'⟩ => by
    subst e
    cases S'.top
    refine ⟨b, rfl, ?_⟩
    cases b
    · exact k _ _ _ _ q' ⟨F, ow, S'.pop.push (.bl _)⟩
    · exact ⟨δ', tmp, Qd, Ed, ⟨F, ow, S'.pop⟩, q', k, w⟩, w⟩
theorem pd_or {a b : Expr} {rest : List Expr} {t u : TD} {pos : Pos} (ha : PE X a (LE X.K c W t)) (hb : PE X (.BoolOp .Or (b :: rest) pos) (LE X.K c W u)) : PE X (.BoolOp .Or (a :: b :: rest) pos) (LE X.K c W (orV t u)) :=
  PE_imp (pe_or ha hb) fun σ H Q ⟨δ, tmp, Qd, Ed, S, q, k, w⟩ => ⟨δ, tmp, _, _, S, q, fun v x δ' H' ⟨b, e, q'⟩ ⟨F, ow, S'⟩ => by
    subst e
    cases S'.top
    refine ⟨b, rfl, ?_⟩
    cases b
    · exact ⟨δ', tmp, Qd, Ed, ⟨F, ow, S'.pop⟩, q', k, w⟩
    · exact k _ _ _ _ q' ⟨F, ow, S'.pop.push (.bl _)⟩, w⟩
/-! ### moving an own name's object out -/
def mvarD (i : Nat) : TD := fun δ Q _ => ∃ x, δ[i]? = some (some x) ∧ Q x (δ.set i none)
theorem pd_mvar {i : Nat} {x : Str} {pos : Pos} (h : PE X (.Name x pos) (tVar i)) (ni : i ∉ c.sl) : PE X (.Name x pos) (LE X.K c W (mvarD i)) := PE_imp h fun σ H Q ⟨δ, tmp, Qd, Ed, ⟨F, ow, S⟩, ⟨x, e, q⟩, k, w⟩ => by
  obtain ⟨v, ow', e1, S'⟩ := S.move e ni
  exact ⟨v, e1, k v _ _ _ q ⟨F, ow', S'⟩⟩
/-! ### attributes -/
def fldD (C : Addr) (f : Str) (t : TD) : TD := fun δ Q E => t δ (fun o δ1 => ∃ fs d, o.toD = .obj C fs ∧ fs.lookup f = some d ∧ Q (.d d) δ1) E
theorem pd_fld {e : Expr} {C : Addr} {f : Str} {t : TD} {pos : Pos} (he : PE X e (LE X.K c W t)) (cl : Cls X.K C) (na : NoAttr X.K C f) (hb : attributeBase e f X.env (eval e X.env) = eval e X.env) : PE X (.Attribute e f pos) (LE X.K c W (fldD C f t)) :=
  PE_imp (pe_fld he hb) fun σ H Q ⟨δ, tmp, Qd, Ed, S, q, k, w⟩ => ⟨δ, tmp, _, _, S, q, fun v o δ' H' ⟨fs, d, eo, el, q'⟩ ⟨F, ow, S'⟩ => by
    obtain ⟨F', S2, _⟩ := S'.top_frz
    rw [eo] at S2
    cases S2.top with
    | @obj a _ dx vs _ s h =>
      obtain ⟨u, e1, r⟩ := (RepF.lookup h).2 d el
      exact ⟨a, C, dx, vs, u, rfl, S2.fh _ _ s, cl, na, e1, k _ _ _ _ q' ⟨F', ow, S2.pop.push r⟩⟩, w⟩
/-- of an object of the body's own -/
def fldO (C : Addr) (i : Nat) (f : Str) : TD := fun δ Q _ => ∃ fs d, δ[i]? = some (some (.own (.ins C fs))) ∧ fs.lookup f = some d ∧ Q (.d d) δ
theorem pd_fldO {i : Nat} {x : Str} {C : Addr} {f : Str} {pos px : Pos} (he : PE X (.Name x px) (tVar i)) (cl : Cls X.K C) (na : NoAttr X.K C f) (hb : attributeBase (.Name x px) f X.env (eval (.Name x px) X.env) = eval (.Name x px) X.env) : PE X (.Attribute (.Name x px) f pos) (LE X.K c W (fldO C i f)) :=
  PE_imp (pe_fld he hb) fun σ H Q ⟨δ, tmp, Qd, Ed, ⟨F, ow, S⟩, ⟨fs, d, ei, el, q⟩, k, w⟩ => by
    obtain ⟨v, e1, p, rfl, _, _, _, dx, vs, ep, r⟩ := S.sl _ _ ei
    obtain ⟨u, e2, ru⟩ := (RepF.lookup r).2 d el
    exact ⟨_, e1, p, C, dx, vs, u, rfl, ep, cl, na, e2, k _ _ _ _ q ⟨F, ow, S.push ru⟩⟩
def putD (f : Str) (d : D) : List (Str × D) → List (Str × D)
  | [] => [(f, d)]
  | (g, x) :: r => if g = f then (g, d) :: r else (g, x) :: putD f d r
theorem RepF.put {K : PySem.W.Frag} {F : Hp} {f : Str} {v : V} {d : D} (h : Rep K F v d) : ∀ {vs : List (Str × V)} {fs : List (Str × D)}, RepF K F vs fs → RepF K F (putF f v vs) (putD f d fs)
  | _, _, .nil => .cons h .nil
  | _, _, .cons (n := n) a t => by
    unfold putF putD
    by_cases e : n = f
    · rw [if_pos e, if_pos e]; exact .cons h t
    · rw [if_neg e, if_neg e]; exact .cons a (t.put h)
theorem RepF.length {K : PySem.W.Frag} {F : Hp} : ∀ {vs : List (Str × V)} {fs : List (Str × D)}, RepF K F vs fs → vs.length = fs.length
  | _, _, .nil => rfl
  | _, _, .cons _ t => congrArg (· + 1) t.length
def fldSet (C : Addr) (i : Nat) (f : Str) (t : TD) : TDS := fun D δ => t δ (fun y δ1 => ∃ fs, δ1[i]? = some (some (.own (.ins C fs))) ∧ fs.length < 1000 ∧ D.nx (δ1.set i (some (.own (.ins C (putD f y.toD fs)))))) D.ex
theorem psd_fld {i : Nat} {x : Str} {C : Addr} {f : Str} {value : Expr} {t : TD} {pos px pos' : Pos} (he : PE X (.Name x px) (tVar i)) (hv : PE X value (LE X.K c W t)) (cl : Cls X.K C) (na : NoAttr X.K C f) (hs : swapsWith value (some (.Attribute (.Name x px) f pos')) pos.line X.env = pure false) :
    PS X (.Assign [.Attribute (.Name x px) f pos'] value pos) (LS X.K c W (fldSet C i f t)) :=
  PS_imp (ps_fld he hv hs) fun D σ H ⟨δ, tmp, Dd, S, q, k, kr, kb, kc, w⟩ => ⟨δ, tmp, _, _, S, q, fun v y δ1 H1 ⟨fs, ei, lf, q'⟩ ⟨F, ow, S1⟩ => by
    obtain ⟨F2, S2, _⟩ := S1.top_frz
    obtain ⟨u, e1, p, rfl, _, _, _, dx, vs, ep, r⟩ := S2.sl _ _ ei
    refine ⟨_, e1, p, C, dx, vs, rfl, ep, cl, na, by rw [r.length]; exact lf, k _ _ _ q' ⟨F2, ow, S2.pop.write ei e1 ⟨dx, _, upd_same, r.put S2.top⟩⟩⟩, w⟩
end
end DL

set_option Elab.async false
set_option linter.all false
set_option maxRecDepth 100000
namespace DL
open PySem PySem.Spec PyProof.Rows L2
/-! ### scalars -/
def D.sc : D → Option V
  | .non => some .non
  | .bl b => some (.bl b)
  | .int i => some (.int i)
  | .str x => some (.str x)
  | _ => none
section
variable {K : PySem.W.Frag} {F F' H H' : Hp} {v : V} {d : D}
theorem Rep.sc (r : Rep K F v d) {x : V} (e : d.sc = some x) : v = x := by
  cases r <;> (first | (cases e; rfl) | cases e)
theorem made_d (s : Same F H) (r : Rep K F v d) : Made K F H F H v (.d d) := .d (Ext.refl s) r
/-! ### two operands -/
theorem op2_I0 {g : Int → Int → V} {gd : Int → Int → D} (h : ∀ i j F, Rep K F (g i j) (gd i j)) : Op2 K (rI0 g) (fun a b Q => ∃ i j, a = .int i ∧ b = .int j ∧ Q (.d (gd i j))) := fun x y a b F H Q Qd s rx ry ⟨i, j, e1, e2, q⟩ k => by
  subst e1 e2
  cases rx; cases ry
  exact ⟨i, j, rfl, rfl, k _ _ F H q (made_d s (h i j F))⟩
theorem op2_I {C : Int → Int → Prop} {g : Int → Int → V} {gd : Int → Int → D} (h : ∀ i j F, Rep K F (g i j) (gd i j)) : Op2 K (rI C g) (fun a b Q => ∃ i j, a = .int i ∧ b = .int j ∧ C i j ∧ Q (.d (gd i j))) := fun x y a b F H Q Qd s rx ry ⟨i, j, e1, e2, c, q⟩ k => by
  subst e1 e2
  cases rx; cases ry
  exact ⟨i, j, rfl, rfl, c, k _ _ F H q (made_d s (h i j F))⟩
/-- operations whose answer is a bool or an int, that make nothing -/
abbrev RD2s := D → D → (D → Prop) → Prop
def Op2s (K : PySem.W.Frag) (r : R2) (rd : RD2s) : Prop := ∀ x y a b F H Q Qd, Same F H → Rep K F x a → Rep K F y b → rd a b Qd → (∀ v z, Qd z → z.sc = some v → Q v H) → r x y H Q
theorem sc_rep {K : PySem.W.Frag} {F : Hp} {v : V} {z : D} (hs : ∀ x, z = .str x → PyData.strOk x = true) (e : z.sc = some v) : Rep K F v z := by
  cases z <;> (first | (cases e; first | exact .non | exact .bl _ | exact .int _ | exact .str (hs _ rfl)) | cases e)
def NoStr (z : D) : Prop := ∀ x, z = .str x → PyData.strOk x = true
theorem Op2s.op {r : R2} {rd : RD2s} (h : Op2s K r rd) : Op2 K r (fun a b Q => rd a b fun z => NoStr z ∧ Q (.d z)) := fun x y a b F H Q Qd s rx ry q k =>
  h x y a b F H Q _ s rx ry q fun v z ⟨n, qz⟩ e => k v _ F H qz (made_d s (sc_rep n e))
abbrev eqS (neg : Bool) : RD2s := fun a b Q => ∃ x y, a.sc = some x ∧ b.sc = some y ∧ scal x y = true ∧ Q (.bl (if neg then !decide (x = y) else decide (x = y)))
theorem op2_eq : Op2s K rEq (eqS false) := fun x y a b F H Q Qd s rx ry ⟨u, w, e1, e2, c, q⟩ k => by
  cases rx.sc e1; cases ry.sc e2
  exact ⟨c, k _ _ q rfl⟩
theorem op2_ne : Op2s K rNe (eqS true) := fun x y a b F H Q Qd s rx ry ⟨u, w, e1, e2, c, q⟩ k => by
  cases rx.sc e1; cases ry.sc e2
  exact ⟨c, k _ _ q rfl⟩
/-! == of data -/
mutual
def D.isPy : D → Bool
  | .non => true | .bl _ => true | .int _ => true | .str _ => true
  | .lst xs => isPyL xs | .ro xs => isPyL xs | .tup xs => isPyL xs | .rot xs => isPyL xs | .ktp xs => isPyL xs
  | _ => false
def isPyL : List D → Bool
  | [] => true
  | d :: ds => d.isPy && isPyL ds
end
mutual
def D.py : D → PyData
  | .non => .none | .bl b => .bool b | .int i => .int i | .str x => .str x
  | .lst xs => .list (pyL xs) | .ro xs => .list (pyL xs) | .tup xs => .tuple (pyL xs) | .rot xs => .tuple (pyL xs) | .ktp xs => .tuple (pyL xs)
  | _ => .none
def pyL : List D → List PyData
  | [] => []
  | d :: ds => d.py :: pyL ds
end
mutual
theorem Rep.dp : ∀ {v : V} {d : D}, Rep K F v d → d.isPy = true → Dp K F v d.py
  | _, _, .non, _ => .non
  | _, _, .bl b, _ => .bl b
  | _, _, .int i, _ => .int i
  | _, _, .str _, _ => .str _
  | _, _, .ty _, h => nomatch h
  | _, _, .adr _, h => nomatch h
  | _, _, .lst s r, h => .lst (SqL.of s) (r.dp h)
  | _, _, .ro s r, h => .lst s (r.dp h)
  | _, _, .tup s r, h => .tup (SqT.of s) (r.dp h)
  | _, _, .rot s _ _ r, h => .tup (.inl (.inr ⟨_, s⟩)) (r.dp h)
  | _, _, .ktp s r, h => .tup s (r.dp h)
  | _, _, .obj _ _, h => nomatch h
  | _, _, .dT _ _, h => nomatch h
  | _, _, .dK _ _, h => nomatch h
  | _, _, .exc0, h => nomatch h
  | _, _, .exc _ _, h => nomatch h
  | _, _, .gho _, h => nomatch h
  | _, _, .lkd _ _, h => nomatch h
  | _, _, .lkt _ _ _, h => nomatch h
theorem RepL.dp : ∀ {vs : List V} {ds : List D}, RepL K F vs ds → isPyL ds = true → DpAll K F vs (pyL ds)
  | _, _, .nil, _ => .nil
  | _, _, .cons r t, h => .cons (r.dp (Bool.and_eq_true _ _ ▸ h).1) (t.dp (Bool.and_eq_true _ _ ▸ h).2)
end
mutual
theorem Rep.lay : ∀ {v : V} {d : D}, Rep K F v d → d.isPy = true → d.py.canLay0 = true
  | _, _, .non, _ => by simp only [D.py, PyData.canLay0]
  | _, _, .bl b, _ => by simp only [D.py, PyData.canLay0]
  | _, _, .int i, _ => by simp only [D.py, PyData.canLay0]
  | _, _, .str k, _ => by simp only [D.py, PyData.canLay0]; exact k
  | _, _, .ty _, h => nomatch h
  | _, _, .adr _, h => nomatch h
  | _, _, .lst s r, h => by simp only [D.py, PyData.canLay0]; exact r.lay h
  | _, _, .ro s r, h => by simp only [D.py, PyData.canLay0]; exact r.lay h
  | _, _, .tup s r, h => by simp only [D.py, PyData.canLay0]; exact r.lay h
  | _, _, .rot s _ _ r, h => by simp only [D.py, PyData.canLay0]; exact r.lay h
  | _, _, .ktp s r, h => by simp only [D.py, PyData.canLay0]; exact r.lay h
  | _, _, .obj _ _, h => nomatch h
  | _, _, .dT _ _, h => nomatch h
  | _, _, .dK _ _, h => nomatch h
  | _, _, .exc0, h => nomatch h
  | _, _, .exc _ _, h => nomatch h
  | _, _, .gho _, h => nomatch h
  | _, _, .lkd _ _, h => nomatch h
  | _, _, .lkt _ _ _, h => nomatch h
theorem RepL.lay : ∀ {vs : List V} {ds : List D}, RepL K F vs ds → isPyL ds = true → PyData.canLayAll0 (pyL ds) = true
  | _, _, .nil, _ => by simp only [pyL, PyData.canLayAll0]
  | _, _, .cons r t, h => by
    simp only [pyL, PyData.canLayAll0]
    rw [r.lay (Bool.and_eq_true _ _ ▸ h).1, t.lay (Bool.and_eq_true _ _ ▸ h).2]
    rfl
end
mutual
theorem dp_mono (e : Same F F') : ∀ {v : V} {d : PyData}, Dp K F v d → Dp K F' v d
  | _, _, .non => .non
  | _, _, .bl b => .bl b
  | _, _, .int i => .int i
  | _, _, .str x => .str x
  | _, _, .lst s h => .lst (e.seq s) (dpAll_mono e h)
  | _, _, .tup s h => .tup (sqt_mono e s) (dpAll_mono e h)
theorem dpAll_mono (e : Same F F') : ∀ {v : List V} {d : List PyData}, DpAll K F v d → DpAll K F' v d
  | _, _, .nil => .nil
  | _, _, .cons h t => .cons (dp_mono e h) (dpAll_mono e t)
end
/-- data that may be compared -/
def Cmp (d : D) : Prop := d.isPy = true ∧ d.py.depth ≤ 64
theorem Rep.shp (r : Rep K F v d) (c : Cmp d) : SeqAt.shaped d.py = true := by
  unfold SeqAt.shaped
  rw [r.lay c.1, decide_eq_true c.2]
  rfl
abbrev eqP (neg : Bool) : RD2s := fun a b Q => Cmp a ∧ Cmp b ∧ Q (.bl (if neg then !PyData.eqv a.py b.py else PyData.eqv a.py b.py))
theorem op2_eqD : Op2s K (rEqD K) (eqP false) := fun x y a b F H Q Qd s rx ry ⟨c1, c2, q⟩ k =>
  ⟨a.py, b.py, dp_mono s (rx.dp c1.1), dp_mono s (ry.dp c2.1), rx.shp c1, ry.shp c2, k _ _ q rfl⟩
theorem op2_neD : Op2s K (rNeD K) (eqP true) := fun x y a b F H Q Qd s rx ry ⟨c1, c2, q⟩ k =>
  ⟨a.py, b.py, dp_mono s (rx.dp c1.1), dp_mono s (ry.dp c2.1), rx.shp c1, ry.shp c2, k _ _ q rfl⟩
/-! ### rows -/
/-- the items of a row -/
def D.its : D → Option (List D)
  | .lst xs => some xs
  | .ro xs => some xs
  | .tup xs => some xs
  | .rot xs => some xs
  | .ktp xs => some xs
  | _ => none
theorem Rep.row {xs : List D} (r : Rep K F v d) (e : d.its = some xs) : ∃ p vs, v = .ref p ∧ (SqL K F p vs ∨ SqT K F p vs) ∧ RepL K F vs xs := by
  cases r <;> (first | (cases e; first | exact ⟨_, _, rfl, .inl (SqL.of ‹_›), ‹_›⟩ | exact ⟨_, _, rfl, .inl ‹_›, ‹_›⟩ | exact ⟨_, _, rfl, .inr (SqT.of ‹_›), ‹_›⟩ | exact ⟨_, _, rfl, .inr ‹_›, ‹_›⟩ | exact ⟨_, _, rfl, .inr (.inl (.inr ⟨_, ‹_›⟩)), ‹_›⟩) | cases e)
theorem RepL.len : ∀ {vs : List V} {ds : List D}, RepL K F vs ds → vs.length = ds.length
  | _, _, .nil => rfl
  | _, _, .cons _ t => congrArg (· + 1) t.len
theorem RepL.get : ∀ {vs : List V} {ds : List D} {i : Nat} {d : D}, RepL K F vs ds → ds[i]? = some d → ∃ v, vs[i]? = some v ∧ Rep K F v d
  | _, _, 0, _, .cons h _, e => by cases e; exact ⟨_, rfl, h⟩
  | _, _, i + 1, _, .cons _ t, e => t.get (i := i) e
theorem RepL.app : ∀ {vs ws : List V} {ds es : List D}, RepL K F vs ds → RepL K F ws es → RepL K F (vs ++ ws) (ds ++ es)
  | _, _, _, _, .nil, h => h
  | _, _, _, _, .cons a t, h => .cons a (t.app h)
theorem RepL.set {v : V} {d : D} (r : Rep K F v d) : ∀ {vs : List V} {ds : List D} (i : Nat), RepL K F vs ds → RepL K F (vs.set i v) (ds.set i d)
  | _, _, _, .nil => .nil
  | _, _, 0, .cons _ t => .cons r t
  | _, _, i + 1, .cons a t => .cons a (t.set r i)
theorem RepL.erase : ∀ {vs : List V} {ds : List D} (i : Nat), RepL K F vs ds → RepL K F (vs.eraseIdx i) (ds.eraseIdx i)
  | _, _, _, .nil => .nil
  | _, _, 0, .cons _ t => t
  | _, _, i + 1, .cons a t => .cons a (t.erase i)
theorem RepL.take : ∀ {vs : List V} {ds : List D} (i : Nat), RepL K F vs ds → RepL K F (vs.take i) (ds.take i)
  | _, _, 0, _ => .nil
  | _, _, _ + 1, .nil => .nil
  | _, _, i + 1, .cons a t => .cons a (t.take i)
theorem RepL.drop : ∀ {vs : List V} {ds : List D} (i : Nat), RepL K F vs ds → RepL K F (vs.drop i) (ds.drop i)
  | _, _, 0, h => h
  | _, _, _ + 1, .nil => .nil
  | _, _, i + 1, .cons a t => t.drop i
theorem RepL.ats {vs : List V} {ds : List D} {i : Int} (h : RepL K F vs ds) (e : atI ds i = some d) : ∃ v, atI vs i = some v ∧ Rep K F v d := by
  unfold atI at e ⊢
  rw [h.len]
  cases q : ixN ds.length i with
  | none => rw [q] at e; cases e
  | some j => rw [q] at e; exact h.get e
def cutD (xs : List D) (lo hi : Option Int) : List D := (xs.drop (HT.sIx xs.length 0 lo)).take (HT.sIx xs.length xs.length hi - HT.sIx xs.length 0 lo)
theorem RepL.cut {vs : List V} {ds : List D} (lo hi : Option Int) (h : RepL K F vs ds) : RepL K F (cutV vs lo hi) (cutD ds lo hi) := by
  unfold cutV cutD
  rw [h.len]
  exact (h.drop _).take _
/-- rows of scalars -/
def scL : List D → Option (List V)
  | [] => some []
  | d :: ds => match d.sc, scL ds with
    | some v, some vs => some (v :: vs)
    | _, _ => none
theorem RepL.sc : ∀ {vs ws : List V} {ds : List D}, RepL K F vs ds → scL ds = some ws → vs = ws
  | _, _, _, .nil, e => by cases e; rfl
  | _, _, _, .cons (d := d) (ds := ds) r t, e => by
    unfold scL at e
    cases q : d.sc with
    | none => rw [q] at e; cases e
    | some v =>
      cases q2 : scL ds with
      | none => rw [q, q2] at e; cases e
      | some ws =>
        rw [q, q2] at e
        cases e
        rw [r.sc q, t.sc q2]
theorem sq_mono {F H : Hp} {p : Addr} {vs : List V} (s : Same F H) (h : SqL K F p vs ∨ SqT K F p vs) : SqL K H p vs ∨ SqT K H p vs := h.imp (fun h => s.seq h) fun h => sqt_mono s h
/-- x in row, of scalars -/
abbrev inS (neg : Bool) : RD2s := fun a b Q => ∃ x xs ys, a.sc = some x ∧ b.its = some xs ∧ scL xs = some ys ∧ Q (.bl (if neg then !inV x ys else inV x ys))
theorem sc_flat : ∀ {d : D} {x : V}, d.sc = some x → flatV x = true := fun {d x} e => by cases d <;> (first | (cases e; rfl) | cases e)
theorem scL_flat : ∀ {ds : List D} {ys : List V}, scL ds = some ys → ys.all flatV = true
  | [], _, e => by cases e; rfl
  | d :: ds, _, e => by
    unfold scL at e
    cases q : d.sc with
    | none => rw [q] at e; cases e
    | some v =>
      cases q2 : scL ds with
      | none => rw [q, q2] at e; cases e
      | some ws =>
        rw [q, q2] at e
        cases e
        rw [List.all_cons, sc_flat q, scL_flat q2]
        rfl
theorem op2_in (neg : Bool) : Op2s K (rIn K neg) (inS neg) := fun x y a b F H Q Qd s rx ry ⟨u, xs, ys, e1, e2, e3, q⟩ k => by
  cases rx.sc e1
  obtain ⟨p, vs, rfl, h, r⟩ := ry.row e2
  cases r.sc e3
  exact ⟨p, _, rfl, sq_mono s h, sc_flat e1, scL_flat e3, k _ _ q rfl⟩
/-- a sign in a text -/
abbrev inSign (neg : Bool) : RD2s := fun a b Q => ∃ (c : Nat) (z : Str), a = .str ⟨#[c]⟩ ∧ b = .str z ∧ Q (.bl (if neg then !decide (c ∈ z.cps.toList) else decide (c ∈ z.cps.toList)))
theorem op2_inSign : Op2s K (fun x y H Q => ∃ (c : Nat) (z : Str), x = .str ⟨#[c]⟩ ∧ y = .str z ∧ Q (.bl (decide (c ∈ z.cps.toList))) H) (inSign false) := fun x y a b F H Q Qd s rx ry ⟨c, z, e1, e2, q⟩ k => by
  subst e1 e2
  cases rx; cases ry
  exact ⟨c, z, rfl, rfl, k _ _ q rfl⟩
/-- is None -/
abbrev isNS (neg : Bool) : RD2s := fun a b Q => ∃ t, b = .non ∧ (t = true ↔ a = .non) ∧ Q (.bl (if neg then !t else t))
theorem op2_isN : Op2s K (fun x y H Q => y = .non ∧ Q (.bl (decide (x = .non))) H) (isNS false) := fun x y a b F H Q Qd s rx ry ⟨t, e, ht, q⟩ k => by
  subst e
  cases ry
  refine ⟨rfl, ?_⟩
  have : decide (x = V.non) = t := by
    rw [Bool.eq_iff_iff, decide_eq_true_eq, ht]
    constructor
    · intro e; subst e; cases rx; rfl
    · intro e; subst e; cases rx; rfl
  rw [this]
  exact k _ _ q rfl
theorem op2_notN : Op2s K (fun x y H Q => y = .non ∧ Q (.bl (!decide (x = .non))) H) (isNS true) := fun x y a b F H Q Qd s rx ry ⟨t, e, ht, q⟩ k => by
  subst e
  cases ry
  refine ⟨rfl, ?_⟩
  have : decide (x = V.non) = t := by
    rw [Bool.eq_iff_iff, decide_eq_true_eq, ht]
    constructor
    · intro e; subst e; cases rx; rfl
    · intro e; subst e; cases rx; rfl
  rw [this]
  exact k _ _ q rfl
/-! what makes something new -/
theorem strOk_app {x y : Str} (h1 : PyData.strOk x = true) (h2 : PyData.strOk y = true) : PyData.strOk (x ++ y) = true := by
  unfold PyData.strOk at *
  show ((x.cps ++ y.cps).all _) = true
  rw [Array.all_append, h1, h2]
  rfl
theorem op2_addS : Op2 K (fun x y H Q => ∃ i j, x = .str i ∧ y = .str j ∧ i.length + j.length ≤ sizeLine ∧ Q (.str (i ++ j)) H) (fun a b Q => ∃ i j, a = .str i ∧ b = .str j ∧ i.length + j.length ≤ sizeLine ∧ Q (.d (.str (i ++ j)))) := fun x y a b F H Q Qd s rx ry ⟨i, j, e1, e2, z, q⟩ k => by
  subst e1 e2
  cases rx with
  | str k1 =>
    cases ry with
    | str k2 => exact ⟨i, j, rfl, rfl, z, k _ _ F H q (made_d s (.str (strOk_app k1 k2)))⟩
theorem made_list {p : Addr} {vs : List V} {ds : List D} (n : H p = none) (s : Same F H) (r : RepL K F vs ds) : Made K F H F (upd H p (.lst vs)) (.ref p) (.own (.lst ds)) := .own (ob := .lst vs) rfl n rfl rfl ⟨vs, upd_same, r⟩
theorem made_tup {p : Addr} {vs : List V} {ds : List D} (n : H p = none) (s : Same F H) (r : RepL K F vs ds) : Made K F H (upd F p (.tup vs)) (upd H p (.tup vs)) (.ref p) (.d (.tup ds)) :=
  .d (Ext.new s n) (.tup upd_same (r.mono (same_upd (Same.refl F) (s.free n))))
theorem op2_cat : Op2 K rCat (fun a b Q => ∃ xs ys, a = .lst xs ∧ b = .lst ys ∧ xs.length + ys.length ≤ sizeLine ∧ Q (.own (.lst (xs ++ ys)))) := fun x y a b F H Q Qd s rx ry ⟨xs, ys, e1, e2, z, q⟩ k => by
  subst e1 e2
  cases rx with
  | lst s1 r1 =>
    cases ry with
    | lst s2 r2 => exact ⟨_, _, _, _, rfl, rfl, s _ _ s1, s _ _ s2, by rw [r1.len, r2.len]; exact z, fun p n => k _ _ _ _ q (made_list n s (r1.app r2))⟩
theorem RepL.nil_iff {vs : List V} {ds : List D} (h : RepL K F vs ds) : vs = [] ↔ ds = [] := by cases h <;> simp
theorem op2_catT : Op2 K (rCatA K) (fun a b Q => ∃ xs ys, a = .tup xs ∧ b = .tup ys ∧ xs.length + ys.length ≤ sizeLine ∧ Q (.d (.tup (xs ++ ys)))) := fun x y a b F H Q Qd s rx ry ⟨xs, ys, e1, e2, z, q⟩ k => by
  subst e1 e2
  cases rx with
  | tup s1 r1 =>
    cases ry with
    | tup s2 r2 =>
      refine ⟨_, _, _, _, rfl, rfl, SqT.of (s _ _ s1), SqT.of (s _ _ s2), by rw [r1.len, r2.len]; exact z, fun e => ?_, fun _ e => ?_, fun _ _ p n => k _ _ _ _ q (made_tup n s (r1.app r2))⟩
      · have : xs = [] := r1.nil_iff.mp e
        subst this
        exact k _ _ _ _ q (made_d s (.tup s2 r2))
      · have : ys = [] := r2.nil_iff.mp e
        subst this
        rw [List.append_nil] at q
        exact k _ _ _ _ q (made_d s (.tup s1 r1))
/-! ### an item -/
abbrev ixD : RD2 := fun a b Q => ∃ i, b = .int i ∧ ((∃ xs d, (a = .lst xs ∨ a = .ro xs) ∧ atI xs i = some d ∧ Q (.d d)))
theorem op2_ixL : Op2 K (rIxL K) ixD := fun x y a b F H Q Qd s rx ry ⟨i, e, xs, d, ha, at', q⟩ k => by
  subst e
  cases ry
  rcases ha with rfl | rfl
  · cases rx with
    | lst s1 r1 => obtain ⟨v, e1, r⟩ := r1.ats at'; exact ⟨_, _, i, v, rfl, rfl, s.seq (SqL.of s1), e1, k _ _ _ _ q (made_d s r)⟩
  · cases rx with
    | ro s1 r1 => obtain ⟨v, e1, r⟩ := r1.ats at'; exact ⟨_, _, i, v, rfl, rfl, s.seq s1, e1, k _ _ _ _ q (made_d s r)⟩
theorem op2_ixT : Op2 K (rIxT K) (fun a b Q => ∃ xs i d, a = .tup xs ∧ b = .int i ∧ atI xs i = some d ∧ Q (.d d)) := fun x y a b F H Q Qd s rx ry ⟨xs, i, d, e1, e2, at', q⟩ k => by
  subst e1 e2
  cases ry
  cases rx with
  | tup s1 r1 => obtain ⟨v, e1, r⟩ := r1.ats at'; exact ⟨_, _, i, v, rfl, rfl, SqT.of (s _ _ s1), e1, k _ _ _ _ q (made_d s r)⟩
theorem strOk_one {z : Str} {c : Nat} (h : PyData.strOk z = true) (e : c ∈ z.cps.toList) : PyData.strOk ⟨#[c]⟩ = true := by
  unfold PyData.strOk at *
  rw [Array.all_eq_true] at h
  obtain ⟨i, hi, rfl⟩ := List.mem_iff_getElem.mp e
  have := h i (by simpa using hi)
  simpa using this
theorem op2_ixS : Op2 K rIxS (fun a b Q => ∃ z i c, a = .str z ∧ b = .int i ∧ z.length ≤ sizeLine ∧ atI z.cps.toList i = some c ∧ Q (.d (.str ⟨#[c]⟩))) := fun x y a b F H Q Qd s rx ry ⟨z, i, c, e1, e2, hz, at', q⟩ k => by
  subst e1 e2
  cases ry
  cases rx with
  | str k1 =>
    refine ⟨z, i, c, rfl, rfl, hz, at', k _ _ _ _ q (made_d s (.str (strOk_one k1 ?_)))⟩
    unfold atI at at'
    cases q : ixN z.cps.toList.length i with
    | none => rw [q] at at'; cases at'
    | some j => rw [q] at at'; exact List.mem_of_getElem? at'
end
section
variable {X : Cx} {c : Fc} {W : WX}
theorem pd_ix {a b : Expr} {r : R2} {rd : RD2} {ta tb : TD} {pos : Pos} (ho : IxR X r) (hd : Op2 X.K r rd) (ha : PE X a (LE X.K c W ta)) (hb : PE X b (LE X.K c W tb)) (hs : PlainIx b) : PE X (.Subscript a b pos) (LE X.K c W (opD rd ta tb)) :=
  PE_imp (pe_ix ho ha hb hs) (lift_op hd)
/-- of an own list in slot i -/
def ixO (i : Nat) (t : TD) : TD := fun δ Q E => ∃ o, δ[i]? = some (some (.own o)) ∧ t δ (fun k δ1 => ∃ xs j d, δ1[i]? = some (some (.own (.lst xs))) ∧ k.toD = .int j ∧ atI xs j = some d ∧ Q (.d d) δ1) E
theorem pd_ixO {i : Nat} {x : Str} {b : Expr} {t : TD} {pos px : Pos} (ha : PE X (.Name x px) (tVar i)) (hb : PE X b (LE X.K c W t)) (hs : PlainIx b) : PE X (.Subscript (.Name x px) b pos) (LE X.K c W (ixO i t)) :=
  PE_imp (pe_ix ix_list ha hb hs) fun σ H Q ⟨δ, tmp, Qd, Ed, ⟨F, ow, S⟩, ⟨o, eo, q⟩, k, w⟩ => by
    obtain ⟨v, e1, p, rfl, _⟩ := S.sl _ _ eo
    refine ⟨_, e1, δ, tmp, _, Ed, ⟨F, ow, S⟩, q, fun u y δ1 H1 ⟨xs, j, d, ei, ej, ed, q1⟩ ⟨F1, ow1, S1⟩ => ?_, w⟩
    obtain ⟨F2, S2, _⟩ := S1.top_frz
    obtain ⟨v', e2, p', rfl, _, _, _, vs, ep, r⟩ := S2.sl _ _ ei
    rw [e1] at e2
    cases e2
    rw [ej] at S2
    obtain ⟨z, ez, rz⟩ := r.ats ed
    cases S2.top
    exact ⟨p, vs, j, z, rfl, rfl, SqL.of ep, ez, k _ _ _ _ q1 ⟨F2, ow1, S2.pop.push rz⟩⟩
/-! ### built-ins -/
abbrev RDN := List D → (DV → Prop) → Prop
abbrev RDNs := List D → (D → Prop) → Prop
def CallN (K : PySem.W.Frag) (r : List V → Hp → VK → Prop) (rd : RDN) : Prop := ∀ xs ds F H Q Qd, Same F H → RepL K F xs ds → rd ds Qd → (∀ v dv F' H', Qd dv → Made K F H F' H' v dv → Q v H') → r xs H Q
def CallNs (K : PySem.W.Frag) (r : List V → Hp → VK → Prop) (rd : RDNs) : Prop := ∀ xs ds F H Q Qd, Same F H → RepL K F xs ds → rd ds Qd → (∀ v z, Qd z → z.sc = some v → Q v H) → r xs H Q
theorem CallNs.op {K : PySem.W.Frag} {r : List V → Hp → VK → Prop} {rd : RDNs} (h : CallNs K r rd) : CallN K r (fun ds Q => rd ds fun z => NoStr z ∧ Q (.d z)) := fun xs ds F H Q Qd s rx q k =>
  h xs ds F H Q _ s rx q fun v z ⟨n, qz⟩ e => k v _ F H qz (made_d s (sc_rep n e))
def builtD (rd : RDN) (ta : TDA) : TD := fun δ Q E => ta δ (fun as δ1 => ∃ ds, as = ds.map .d ∧ rd ds fun z => Q z δ1) E
theorem args_d {K : PySem.W.Frag} {F : Hp} {σ : L2.St} : ∀ {ds : List D} {vs : List V}, RepArgs K F σ vs (ds.map .d) → RepL K F vs ds
  | [], _, .nil => .nil
  | _ :: _, _, .d h t => .cons h (args_d t)
theorem lift_built {r : List V → Hp → VK → Prop} {rd : RDN} {ta : TDA} {K : PySem.W.Frag} (hd : CallN K r rd) : ∀ σ H Q, LE K c W (builtD rd ta) σ H Q → tCB r (LA K c W ta) σ H Q := fun σ H Q ⟨δ, tmp, Qd, Ed, S, t, k, w⟩ =>
  ⟨δ, tmp, _, Ed, S, t, fun vs as δ1 F ow H1 ⟨ds, e, q⟩ S1 ra => by
    subst e
    exact hd _ _ F H1 Q _ S1.fh (args_d ra) q fun v dv F' H' q' m => k _ _ _ _ q' (m.stt S1), w⟩
theorem pd_builtB {x : Str} {e : Expr} {es : List Expr} {p pos : Pos} {r : List V → Hp → VK → Prop} {rd : RDN} {ta : TDA} (h : ∀ {t : TA}, PA X (e :: es) t → PE X (.Call (.Name x p) (e :: es) [] pos) (tCB r t)) (hd : CallN X.K r rd) (ha : PA X (e :: es) (LA X.K c W ta)) :
    PE X (.Call (.Name x p) (e :: es) [] pos) (LE X.K c W (builtD rd ta)) := PE_imp (h ha) (lift_built hd)
/-- of the own list in slot i alone -/
def builtO (i : Nat) (rd : RDNs) : TD := fun δ Q _ => ∃ xs, δ[i]? = some (some (.own (.lst xs))) ∧ rd [.lst xs] fun z => NoStr z ∧ Q (.d z) δ
theorem pd_builtO {i : Nat} {x y : Str} {p pos py : Pos} {r : List V → Hp → VK → Prop} {rd : RDNs} (h : ∀ {t : TA}, PA X [.Name y py] t → PE X (.Call (.Name x p) [.Name y py] [] pos) (tCB r t)) (hd : CallNs X.K r rd) (hv : PE X (.Name y py) (tVar i)) (hs : starEach [.Name y py] X.env = (false, eval (.Name y py) X.env) :: starEach [] X.env := by rfl) :
    PE X (.Call (.Name x p) [.Name y py] [] pos) (LE X.K c W (builtO i rd)) := PE_imp (h (pa_cons hv pa_nil hs)) fun σ H Q ⟨δ, tmp, Qd, Ed, ⟨F, ow, S⟩, ⟨xs, ei, q⟩, k, w⟩ => by
  obtain ⟨v, e1, p, rfl, _, n, _, r⟩ := S.sl _ _ ei
  obtain ⟨u, eu, r'⟩ := OwnRep.freeze (o := .lst xs) r n S.fh
  exact ⟨_, e1, hd _ _ (upd F p u) H Q _ (same_upd1 S.fh eu) (.cons r' .nil) q fun v z ⟨n, qz⟩ e => k v _ _ _ qz ⟨F, ow, S.push (sc_rep n e)⟩⟩
end
section
variable {K : PySem.W.Frag} {F F' H H' : Hp} {v : V} {d : D}
abbrev lenS : RDNs := fun ds Q => ∃ a xs, ds = [a] ∧ a.its = some xs ∧ Q (.int xs.length)
theorem cn_len : CallNs K (fun xs H Q => ∃ p ys, xs = [.ref p] ∧ (SqL K H p ys ∨ SqT K H p ys) ∧ Q (.int ys.length) H) lenS := fun xs ds F H Q Qd s r ⟨a, ys, e1, e2, q⟩ k => by
  subst e1
  cases r with
  | cons r t =>
    cases t
    obtain ⟨p, vs, rfl, h, r2⟩ := r.row e2
    rw [← r2.len] at q
    exact ⟨p, vs, rfl, sq_mono s h, k _ _ q rfl⟩
abbrev lenStr : RDNs := fun ds Q => ∃ z, ds = [.str z] ∧ z.length ≤ sizeLine ∧ Q (.int z.length)
theorem cn_lenS : CallNs K (fun xs H Q => ∃ z, xs = [.str z] ∧ z.length ≤ sizeLine ∧ Q (.int z.length) H) lenStr := fun xs ds F H Q Qd s r ⟨z, e1, hz, q⟩ k => by
  subst e1
  cases r with
  | cons r t => cases t; cases r; exact ⟨z, rfl, hz, k _ _ q rfl⟩
abbrev int1S : RDNs := fun ds Q => ∃ i, ds = [.int i] ∧ Q (.int i)
theorem cn_int : CallNs K (fun xs H Q => (∃ i, xs = [.int i] ∧ Q (.int i) H) ∨ ∃ k, xs = [.bl k] ∧ Q (.int (if k then 1 else 0)) H) int1S := fun xs ds F H Q Qd s r ⟨i, e1, q⟩ k => by
  subst e1
  cases r with
  | cons r t => cases t; cases r; exact .inl ⟨i, rfl, k _ _ q rfl⟩
abbrev absS : RDNs := fun ds Q => ∃ i, ds = [.int i] ∧ Q (.int (if i < 0 then -i else i))
theorem cn_abs : CallNs K (fun xs H Q => ∃ i, xs = [.int i] ∧ Q (.int (if i < 0 then -i else i)) H) absS := fun xs ds F H Q Qd s r ⟨i, e1, q⟩ k => by
  subst e1
  cases r with
  | cons r t => cases t; cases r; exact ⟨i, rfl, k _ _ q rfl⟩
abbrev two (f : Int → Int → Int) : RDNs := fun ds Q => ∃ i j, ds = [.int i, .int j] ∧ Q (.int (f i j))
theorem cn_two {f : Int → Int → Int} : CallNs K (fun xs H Q => ∃ i j, xs = [.int i, .int j] ∧ Q (.int (f i j)) H) (two f) := fun xs ds F H Q Qd s r ⟨i, j, e1, q⟩ k => by
  subst e1
  cases r with
  | cons r t =>
    cases t with
    | cons r2 t => cases t; cases r; cases r2; exact ⟨i, j, rfl, k _ _ q rfl⟩
theorem repL_map {f : α → V} {g : α → D} (h : ∀ {F v a}, Rep K F v (g a) → v = f a) : ∀ {l : List α} {vs : List V}, RepL K F vs (l.map g) → vs = l.map f
  | [], _, .nil => rfl
  | a :: l, _, .cons r t => by rw [h r, repL_map h t]; rfl
theorem repL_bl {l : List Bool} {vs : List V} (r : RepL K F vs (l.map .bl)) : vs = l.map V.bl := repL_map (fun r => by cases r; rfl) r
abbrev allS (f : List Bool → Bool) : RDNs := fun ds Q => ∃ bs, (ds = [.lst (bs.map .bl)] ∨ ds = [.ro (bs.map .bl)]) ∧ Q (.bl (f bs))
theorem rep_lst {p : V} {xs : List D} (s : Same F H) (h : ([.lst xs] = ds) ∨ ([.ro xs] = ds)) {vs : List V} (r : RepL K F vs ds) : ∃ a ys, vs = [.ref a] ∧ SqL K H a ys ∧ RepL K F ys xs := by
  rcases h with rfl | rfl
  · cases r with
    | cons r t => cases t; cases r with
      | lst s1 r1 => exact ⟨_, _, rfl, s.seq (SqL.of s1), r1⟩
  · cases r with
    | cons r t => cases t; cases r with
      | ro s1 r1 => exact ⟨_, _, rfl, s.seq s1, r1⟩
theorem cn_all : CallNs K (rAll K) (allS fun bs => bs.all id) := fun xs ds F H Q Qd s r ⟨bs, e, q⟩ k => by
  obtain ⟨a, ys, rfl, h, r2⟩ := rep_lst (p := .non) s (e.imp Eq.symm Eq.symm) r
  cases repL_bl r2
  exact ⟨a, bs, rfl, h, k _ _ q rfl⟩
/-- isinstance -/
inductive ClsD : D → Value → Prop where
  | ty (n : String) : ClsD (.ty n) (.type n)
  | own (C : Addr) : ClsD (.adr C) (.ref C)
inductive TyD (K : PySem.W.Frag) : D → Value → Prop where
  | non : TyD K .non (.type "NoneType")
  | bl (b : Bool) : TyD K (.bl b) (.type "bool")
  | int (i : Int) : TyD K (.int i) (.type "int")
  | str (x : Str) : TyD K (.str x) (.type "str")
  | lst (xs : List D) : TyD K (.lst xs) (.type "list")
  | tup (xs : List D) : TyD K (.tup xs) (.type "tuple")
  | rot (xs : List D) : TyD K (.rot xs) (.type "tuple")
  | ktp (xs : List D) : TyD K (.ktp xs) (.type "tuple")
  | obj {C : Addr} {fs : List (Str × D)} (cl : Cls K C) (i : SlX.SIsi K C) : TyD K (.obj C fs) (.ref C)
theorem sqt_ty {p : Addr} {vs : List V} (h : SqT K H p vs) : TyX K H (.ref p) (.type "tuple") := by
  rcases h with (h | ⟨o, h⟩) | ⟨o, its, n, e, cl, _⟩
  · exact .base (.tup h)
  · exact .fTuple h
  · exact .kTuple e cl
theorem tyD_x {t : Value} (s : Same F H) (r : Rep K F v d) (h : TyD K d t) : TyX K H v t := by
  cases h with
  | non => cases r; exact .base .non
  | bl b => cases r; exact .base (.bl b)
  | int i => cases r; exact .base (.int i)
  | str x => cases r; exact .base (.str x)
  | lst xs => cases r with | lst s1 _ => exact .base (.lst (s _ _ s1))
  | tup xs => cases r with | tup s1 _ => exact .base (.tup (s _ _ s1))
  | rot xs => cases r with | rot s1 _ _ _ => exact sqt_ty (sqt_mono s (.inl (.inr ⟨_, s1⟩)))
  | ktp xs => cases r with | ktp s1 _ => exact sqt_ty (sqt_mono s s1)
  | obj cl i => cases r with | obj s1 _ => exact .base (.ins (s _ _ s1) cl i.ca i.cn i.ct i.cm)
theorem clsD_v {u : Value} (r : Rep K F v d) (h : ClsD d u) : ClsV v u := by
  cases h with
  | ty n => cases r; exact .ty n
  | own C => cases r; exact .own C
abbrev isiS (K : PySem.W.Frag) : RDNs := fun ds Q => ∃ x c t u b, ds = [x, c] ∧ ClsD c u ∧ TyD K x t ∧ PySem.W.kitOne K t u = some b ∧ Q (.bl b)
theorem cn_isi : CallNs K (rIsi K) (isiS K) := fun xs ds F H Q Qd s r ⟨x, c, t, u, b, e, hc, ht, hk, q⟩ k => by
  subst e
  cases r with
  | cons r t =>
    cases t with
    | cons r2 t => cases t; exact ⟨_, _, _, u, b, rfl, clsD_v r2 hc, tyD_x s r ht, hk, k _ _ q rfl⟩
/-- of several classes -/
inductive ClsDs : List D → List Value → Prop where
  | nil : ClsDs [] []
  | cons {d : D} {u : Value} {ds : List D} {us : List Value} (h : ClsD d u) (t : ClsDs ds us) : ClsDs (d :: ds) (u :: us)
theorem clsDs_v : ∀ {ds : List D} {us : List Value} {vs : List V}, RepL K F vs ds → ClsDs ds us → Paired ClsV vs us
  | _, _, _, .nil, .nil => .nil
  | _, _, _, .cons r t, .cons h u => .cons (clsD_v r h) (clsDs_v t u)
/-- list(row), tuple(row) -/
abbrev listN : RDN := fun ds Q => ∃ a xs, ds = [a] ∧ a.its = some xs ∧ Q (.own (.lst xs))
theorem cn_list : CallN K (fun xs H Q => ∃ p ys, xs = [.ref p] ∧ (SqL K H p ys ∨ SqT K H p ys) ∧ ∀ l, H l = none → Q (.ref l) (upd H l (.lst ys))) listN := fun xs ds F H Q Qd s r ⟨a, ys, e1, e2, q⟩ k => by
  subst e1
  cases r with
  | cons r t =>
    cases t
    obtain ⟨p, vs, rfl, h, r2⟩ := r.row e2
    exact ⟨p, vs, rfl, sq_mono s h, fun l n => k _ _ _ _ q (made_list n s r2)⟩
abbrev tupleN : RDN := fun ds Q => ∃ a xs, ds = [a] ∧ (a = .lst xs ∨ a = .ro xs ∨ a = .tup xs) ∧ Q (.d (.tup xs))
theorem cn_tuple : CallN K (fun xs H Q => ∃ p ys, xs = [.ref p] ∧ ((SqL K H p ys ∧ ∀ l, H l = none → Q (.ref l) (upd H l (.tup ys))) ∨ (SqT K H p ys ∧ Q (.ref p) H))) tupleN := fun xs ds F H Q Qd s r ⟨a, ys, e1, e2, q⟩ k => by
  subst e1
  cases r with
  | cons r t =>
    cases t
    rcases e2 with rfl | rfl | rfl
    · cases r with | lst s1 r1 => exact ⟨_, _, rfl, .inl ⟨s.seq (SqL.of s1), fun l n => k _ _ _ _ q (made_tup n s r1)⟩⟩
    · cases r with | ro s1 r1 => exact ⟨_, _, rfl, .inl ⟨s.seq s1, fun l n => k _ _ _ _ q (made_tup n s r1)⟩⟩
    · cases r with | tup s1 r1 => exact ⟨_, _, rfl, .inr ⟨SqT.of (s _ _ s1), k _ _ _ _ q (made_d s (.tup s1 r1))⟩⟩
end
end DL

set_option Elab.async false
set_option linter.all false
set_option maxRecDepth 100000
namespace DL
open PySem PySem.Spec PyProof.Rows L2
section
variable {X : Cx} {c : Fc} {W : WX}
/-! ### displays, unary, chains, truth -/
def tupD (ta : TDA) : TD := fun δ Q E => ta δ (fun as δ1 => ∃ ds, as = ds.map .d ∧ ds.length ≤ sizeLine ∧ Q (.d (.tup ds)) δ1) E
theorem pd_tup {es : List Expr} {ta : TDA} {k : Nat} {pos : Pos} (h : ∀ {t : TA}, PA X es t → PE X (.Tuple es k pos) (tTup t)) (ha : PA X es (LA X.K c W ta)) : PE X (.Tuple es k pos) (LE X.K c W (tupD ta)) :=
  PE_imp (h ha) fun σ H Q ⟨δ, tmp, Qd, Ed, S, t, k, w⟩ => ⟨δ, tmp, _, Ed, S, t, fun vs as δ1 F ow H1 ⟨ds, e, hz, q⟩ S1 ra => by
    subst e
    have r := args_d ra
    exact ⟨by rw [r.len]; exact hz, fun p n => k _ _ _ _ q ((made_tup n S1.fh r).stt S1)⟩, w⟩
def lstD (ta : TDA) : TD := fun δ Q E => ta δ (fun as δ1 => ∃ ds, as = ds.map .d ∧ ds.length ≤ sizeLine ∧ Q (.own (.lst ds)) δ1) E
theorem pd_lst {es : List Expr} {ta : TDA} {pos : Pos} (h : ∀ {t : TA}, PA X es t → PE X (.List es pos) (tLst t)) (ha : PA X es (LA X.K c W ta)) : PE X (.List es pos) (LE X.K c W (lstD ta)) :=
  PE_imp (h ha) fun σ H Q ⟨δ, tmp, Qd, Ed, S, t, k, w⟩ => ⟨δ, tmp, _, Ed, S, t, fun vs as δ1 F ow H1 ⟨ds, e, hz, q⟩ S1 ra => by
    subst e
    have r := args_d ra
    exact ⟨by rw [r.len]; exact hz, fun p n => k _ _ _ _ q ((made_list n S1.fh r).stt S1)⟩, w⟩
def negD (t : TD) : TD := fun δ Q E => t δ (fun x δ1 => ∃ i, x.toD = .int i ∧ Q (.d (.int (-i))) δ1) E
theorem pd_neg {e : Expr} {t : TD} {pos : Pos} (he : PE X e (LE X.K c W t)) : PE X (.UnaryOp .USub e pos) (LE X.K c W (negD t)) :=
  PE_imp (pe_un un_neg he) fun σ H Q ⟨δ, tmp, Qd, Ed, S, t, k, w⟩ => ⟨δ, tmp, _, Ed, S, t, fun v x δ1 H1 ⟨i, e, q⟩ ⟨F, ow, S1⟩ => by
    obtain ⟨F2, S2, _⟩ := S1.top_frz
    rw [e] at S2
    cases S2.top
    exact ⟨i, rfl, k _ _ _ _ q ⟨F2, ow, S2.pop.push (.int _)⟩⟩, w⟩
def chainD (rd rd' : RD2) (ta tb tc : TD) : TD := fun δ Q E => ta δ (fun x δ1 => tb δ1 (fun y δ2 => rd x.toD y.toD fun z => ∃ k, z = .d (.bl k) ∧ if k = true then tc δ2 (fun w δ3 => rd' y.toD w.toD fun z' => Q z' δ3) E else Q (.d (.bl false)) δ2) E) E
theorem pd_chain {a b e : Expr} {op op' : CmpOp} {r r' : R2} {rd rd' : RD2} {ta tb tc : TD} {pos : Pos} (ho : OpR X (compareOp op) r) (hd : Op2 X.K r rd) (ho' : OpR X (compareOp op') r') (hd' : Op2 X.K r' rd') (ha : PE X a (LE X.K c W ta)) (hb : PE X b (LE X.K c W tb)) (hc : PE X e (LE X.K c W tc)) (hm : lastMarks [op, op'] [b, e] = false := by rfl) :
    PE X (.Compare a [op, op'] [b, e] pos) (LE X.K c W (chainD rd rd' ta tb tc)) := PE_imp (pe_chain ho ho' ha hb hc (hm := hm)) fun σ H Q ⟨δ, tmp, Qd, Ed, S, t, k, w⟩ => by
  refine ⟨δ, tmp, _, Ed, S, t, fun x a δ1 H1 t1 S1 => ?_, w⟩
  refine ⟨δ1, _, _, Ed, S1, t1, fun y b δ2 H2 t2 ⟨F, ow, S2⟩ => ?_, w.push⟩
  obtain ⟨F', S3, _⟩ := S2.top_frz2
  refine hd x y _ _ F' H2 _ _ S3.fh S3.pop.top S3.top t2 fun v dv F2 H3 ⟨kk, e, q⟩ m => ?_
  subst e
  cases m with
  | d e r =>
    cases r
    refine ⟨kk, rfl, ?_⟩
    have S4 := S3.ext e
    cases kk with
    | false => exact k _ _ _ _ q ⟨F2, ow, S4.pop.pop.push (.bl _)⟩
    | true =>
      have S5 : SttF X.K c F2 ow δ2 ((y, .d b.toD) :: tmp) σ H3 := S4.pop.pop.push S4.top
      refine ⟨δ2, _, _, Ed, ⟨F2, ow, S5⟩, q, fun u z δ3 H4 q2 ⟨F5, ow5, S6⟩ => ?_, w.push⟩
      obtain ⟨F7, S7, s7⟩ := S6.top_frz
      exact hd' y u _ _ F7 H4 Q _ S7.fh S7.pop.top S7.top q2 fun v dv F8 H5 q3 m => k _ _ _ _ q3 (m.stt S7.pop.pop)
/-- a test whose value is a bool -/
def tvD (t : TD) : TDT := fun δ Q E => boolE t Q E δ
theorem ptd_val {e : Expr} {t : TD} (he : PE X e (LE X.K c W t)) (h : ∀ {t : TE}, PE X e t → PT X e (tB t)) : PT X e (LT X.K c W (tvD t)) :=
  PT_imp (h he) fun σ H Q ⟨δ, tmp, Qd, Ed, S, q, k, w⟩ => ⟨δ, tmp, _, _, S, q, fun v x δ' H' ⟨b, e, q'⟩ ⟨F, ow, S'⟩ => by
    subst e
    cases S'.top
    exact ⟨b, rfl, k _ _ _ q' ⟨F, ow, S'.pop⟩⟩, w⟩
/-! ### what is walked -/
/-- from turn i on the iterator J hands back the items: whatever grows, while src stands for v -/
structure Serve (K : PySem.W.Frag) (J : It) (v : V) (src : D) (items : List D) : Prop where
  go : ∀ (i : Nat) (F H : Hp), Same F H → Rep K F v src → i < items.length → J.go i H
  stop : ∀ (i : Nat) (F H : Hp), Same F H → Rep K F v src → items.length ≤ i → J.stop i H
  yld : ∀ (i : Nat) (F H : Hp) (x : V) (H' : Hp), Same F H → Rep K F v src → J.yld i H x H' → ∀ d, items[i]? = some d → ∃ F', Ext F H F' H' ∧ Rep K F' x d
abbrev TDI := DSt → (List D → DSt → Prop) → XD → Prop
def LI (K : PySem.W.Frag) (c : Fc) (W : WX) (t : TDI) : TI := fun σ H R => ∃ δ tmp Qd Ed, Stt K c δ tmp σ H ∧ t δ Qd Ed ∧ (∀ J v src items δ' H', Qd items δ' → Serve K J v src items → Stt K c δ' ((v, .d src) :: tmp) σ H' → R J H') ∧ WD K c W tmp Ed
theorem PI_imp {tg e : Expr} {t t' : TI} (h : PI X tg e t) (f : ∀ σ H R, t' σ H R → t σ H R) : PI X tg e t' := ⟨fun pins s σ H R I q => h.run pins s σ H R I (f _ _ _ q)⟩
theorem serve_list {K : PySem.W.Frag} {p : Addr} {src : D} {items : List D} (e : src = .lst items ∨ src = .ro items) : Serve K (Itl K p) (.ref p) src items := by
  have sq : ∀ {F H : Hp}, Same F H → Rep K F (.ref p) src → ∃ vs, SqL K H p vs ∧ RepL K F vs items := fun {F H} s r => by
    rcases e with rfl | rfl
    · cases r with | lst s1 r1 => exact ⟨_, s.seq (SqL.of s1), r1⟩
    · cases r with | ro s1 r1 => exact ⟨_, s.seq s1, r1⟩
  refine ⟨fun i F H s r hi => ?_, fun i F H s r hi => ?_, fun i F H x H' s r y d hd => ?_⟩
  · obtain ⟨vs, h, rl⟩ := sq s r
    obtain ⟨v, e, _⟩ := rl.get (List.getElem?_eq_getElem hi)
    exact ⟨vs, v, h, e⟩
  · obtain ⟨vs, h, rl⟩ := sq s r
    exact ⟨vs, h, by rw [rl.len]; exact hi⟩
  · obtain ⟨vs, h, rl⟩ := sq s r
    obtain ⟨rfl, y⟩ := y
    obtain ⟨v, e, rv⟩ := rl.get hd
    rw [y vs h] at e
    cases e
    exact ⟨F, Ext.refl s, rv⟩
theorem serve_tup {K : PySem.W.Frag} {p : Addr} {items : List D} : Serve K (Itt K p) (.ref p) (.tup items) items := by
  have sq : ∀ {F H : Hp}, Same F H → Rep K F (.ref p) (.tup items) → ∃ vs, SqT K H p vs ∧ RepL K F vs items := fun {F H} s r => by
    cases r with | tup s1 r1 => exact ⟨_, SqT.of (s _ _ s1), r1⟩
  refine ⟨fun i F H s r hi => ?_, fun i F H s r hi => ?_, fun i F H x H' s r y d hd => ?_⟩
  · obtain ⟨vs, h, rl⟩ := sq s r
    obtain ⟨v, e, _⟩ := rl.get (List.getElem?_eq_getElem hi)
    exact ⟨vs, v, h, e⟩
  · obtain ⟨vs, h, rl⟩ := sq s r
    exact ⟨vs, h, by rw [rl.len]; exact hi⟩
  · obtain ⟨vs, h, rl⟩ := sq s r
    obtain ⟨rfl, y⟩ := y
    obtain ⟨v, e, rv⟩ := rl.get hd
    rw [y vs h] at e
    cases e
    exact ⟨F, Ext.refl s, rv⟩
def listI (t : TD) : TDI := fun δ Q E => t δ (fun x δ1 => ∃ xs, (x.toD = .lst xs ∨ x.toD = .ro xs) ∧ Q xs δ1) E
def tupI (t : TD) : TDI := fun δ Q E => t δ (fun x δ1 => ∃ xs, x.toD = .tup xs ∧ Q xs δ1) E
def strI (t : TD) : TDI := fun δ Q E => t δ (fun x δ1 => ∃ z, x.toD = .str z ∧ Q (z.cps.toList.map fun ch => .str ⟨#[ch]⟩) δ1) E
theorem pid_list {tg e : Expr} {t : TD} (he : PE X e (LE X.K c W t)) : PI X tg e (LI X.K c W (listI t)) :=
  PI_imp (pi_list he) fun σ H R ⟨δ, tmp, Qd, Ed, S, q, k, w⟩ => ⟨δ, tmp, _, _, S, q, fun v x δ' H' ⟨xs, e, q'⟩ ⟨F, ow, S'⟩ => by
    obtain ⟨F2, S2, _⟩ := S'.top_frz
    obtain ⟨p, vs, rfl, h, r⟩ := S2.top.row (xs := xs) (by rcases e with e | e <;> rw [e] <;> rfl)
    have h' : ∃ xs, SqL X.K H' p xs := by
      have r0 := S2.top
      rcases e with e | e
      · rw [e] at r0; cases r0 with | lst s1 _ => exact ⟨_, S2.fh.seq (SqL.of s1)⟩
      · rw [e] at r0; cases r0 with | ro s1 _ => exact ⟨_, S2.fh.seq s1⟩
    exact ⟨p, rfl, h', k _ _ _ xs _ _ q' (serve_list e) ⟨F2, ow, S2⟩⟩, w⟩
theorem pid_tup {tg e : Expr} {t : TD} (he : PE X e (LE X.K c W t)) : PI X tg e (LI X.K c W (tupI t)) :=
  PI_imp (pi_tup he) fun σ H R ⟨δ, tmp, Qd, Ed, S, q, k, w⟩ => ⟨δ, tmp, _, _, S, q, fun v x δ' H' ⟨xs, e, q'⟩ ⟨F, ow, S'⟩ => by
    obtain ⟨F2, S2, _⟩ := S'.top_frz
    rw [e] at S2
    have r0 := S2.top
    cases r0 with
    | tup s1 _ => exact ⟨_, rfl, ⟨_, SqT.of (S2.fh _ _ s1)⟩, k _ _ _ xs _ _ q' serve_tup ⟨F2, ow, S2⟩⟩, w⟩
theorem pid_str {tg e : Expr} {t : TD} (he : PE X e (LE X.K c W t)) : PI X tg e (LI X.K c W (strI t)) :=
  PI_imp (pi_str he) fun σ H R ⟨δ, tmp, Qd, Ed, S, q, k, w⟩ => ⟨δ, tmp, _, _, S, q, fun v x δ' H' ⟨z, e, q'⟩ ⟨F, ow, S'⟩ => by
    obtain ⟨F2, S2, _⟩ := S'.top_frz
    rw [e] at S2
    have r0 := S2.top
    cases r0 with
    | str k1 =>
      refine ⟨z, rfl, k _ _ _ _ _ _ q' ⟨fun i F H s r hi => ?_, fun i F H s r hi => ?_, fun i F H x H' s r y d hd => ?_⟩ ⟨F2, ow, S2⟩⟩
      · show i < z.cps.size
        simpa using hi
      · show z.cps.size ≤ i
        simpa using hi
      · obtain ⟨rfl, ch, hc, rfl⟩ := y
        have hc' : z.cps.toList[i]? = some ch := by simpa using hc
        rw [List.getElem?_map, hc'] at hd
        cases hd
        exact ⟨F, Ext.refl s, .str (strOk_one k1 (List.mem_of_getElem? hc'))⟩, w⟩
def upto (lo : Int) (n : Nat) : List D := (List.range n).map fun k => .int (lo + (k : Nat))
theorem serve_range {K : PySem.W.Frag} {lo : Int} {n : Nat} {v : V} {src : D} : Serve K (Itr lo n) v src (upto lo n) := by
  have hl : (upto lo n).length = n := by simp [upto]
  refine ⟨fun i F H s r hi => ?_, fun i F H s r hi => ?_, fun i F H x H' s r y d hd => ?_⟩
  · rw [hl] at hi; exact hi
  · rw [hl] at hi; exact hi
  · obtain ⟨rfl, rfl⟩ := y
    unfold upto at hd
    rw [List.getElem?_map] at hd
    cases q : (List.range n)[i]? with
    | none => rw [q] at hd; cases hd
    | some j =>
      rw [q] at hd
      cases hd
      have : j = i := by
        have := (List.getElem?_eq_some_iff.mp q).2
        simpa using this.symm
      subst this
      exact ⟨F, Ext.refl s, .int _⟩
def range1I (ta : TDA) : TDI := fun δ Q E => ta δ (fun as δ1 => ∃ j, as = [.d (.int j)] ∧ -(2 ^ 62) ≤ j ∧ j < 2 ^ 62 ∧ Q (upto 0 j.toNat) δ1) E
theorem pid_range1 {tg a : Expr} {ta : TDA} {p pos : Pos} (hg : Gl X "range") (hm : X.mg "range" = none) (ha : PA X [a] (LA X.K c W ta)) (hs : starEach [a] X.env = [(false, eval a X.env)] := by rfl) : PI X tg (.Call (.Name "range" p) [a] [] pos) (LI X.K c W (range1I ta)) :=
  PI_imp (pi_range1 hg hm ha hs) fun σ H R ⟨δ, tmp, Qd, Ed, S, q, k, w⟩ => ⟨δ, tmp, _, _, S, q, fun vs as δ' F ow H' ⟨j, e, h1, h2, q'⟩ S' ra => by
    subst e
    cases ra with
    | d h t => cases t; cases h; exact ⟨j, rfl, h1, h2, k _ .non .non _ _ _ q' serve_range ⟨F, ow, S'.push .non⟩⟩, w⟩
/-! ### targets -/
abbrev TDG := D → DSt → (DSt → Prop) → Prop
/-- a target, of frozen things -/
def LG (K : PySem.W.Frag) (c : Fc) (vs : List Nat) (g : TDG) : TG := fun v σ H Q => ∃ δ tmp x Qd, Stt K c δ ((v, .d x) :: tmp) σ H ∧ g x δ Qd ∧ ∀ δ' σ' H', Qd δ' → Stt K c δ' tmp σ' H' → wipe σ' vs = wipe σ vs → Q σ' H'
theorem wipe_set {σ : L2.St} {i : Nat} {x : Option V} : ∀ {vs : List Nat}, i ∈ vs → wipe (σ.set i x) vs = wipe σ vs
  | v :: vs, h => by
    unfold wipe
    by_cases e : i ∈ vs
    · rw [wipe_set e]
    · have : i = v := (List.mem_cons.mp h).elim id fun z => absurd z e
      subst this
      have aux : ∀ (vs : List Nat), (wipe (σ.set i x) vs).set i none = (wipe σ vs).set i none := fun vs => by
        induction vs with
        | nil => unfold wipe; rw [List.set_set]
        | cons a r ih =>
          unfold wipe
          by_cases q : a = i
          · subst q; rw [List.set_set, List.set_set]; exact ih
          · rw [List.set_comm _ _ q, List.set_comm _ _ q, ih]
      exact aux vs
theorem PG_imp {e : Expr} {t t' : TG} (h : PG X e t) (f : ∀ v σ H Q, t' v σ H Q → t v σ H Q) : PG X e t' := ⟨fun pins s σ H x u Q I r q => h.run pins s σ H x u Q I r (f _ _ _ _ q)⟩
def nameG (i : Nat) : TDG := fun x δ Q => Q (δ.set i (some (.d x)))
theorem pgd_name {i : Nat} {vs : List Nat} {e : Expr} (h : PG X e (gName i)) (ni : i ∉ c.sl) (iv : i ∈ vs) : PG X e (LG X.K c vs (nameG i)) :=
  PG_imp h fun v σ H Q ⟨δ, tmp, x, Qd, ⟨F, ow, S⟩, q, k⟩ => k _ _ _ q (S.set' ni) (wipe_set iv)
/-- the items of a tuple to names -/
def namesG : List Nat → List D → DSt → (DSt → Prop) → Prop
  | [], [], δ, Q => Q δ
  | i :: is, x :: xs, δ, Q => namesG is xs (δ.set i (some (.d x))) Q
  | _, _, _, _ => False
def tupG (is : List Nat) : TDG := fun x δ Q => ∃ xs, x = .tup xs ∧ namesG is xs δ Q
def gNames : List Nat → TGs
  | [] => gNil
  | i :: is => gCons (gName i) (gNames is)
theorem names_run {K : PySem.W.Frag} {c : Fc} {Q : L2.St → Hp → Prop} {tmp : List (V × DV)} {ws : List Nat} {w0 : L2.St} : ∀ {is : List Nat} {xs : List D} {vs : List V} {δ : DSt} {σ : L2.St} {F H : Hp} {ow : Addr → Option Hold} {Qd : DSt → Prop}, (∀ i ∈ is, i ∉ c.sl ∧ i ∈ ws) → wipe σ ws = w0 → SttF K c F ow δ tmp σ H → RepL K F vs xs → namesG is xs δ Qd → (∀ δ' σ' H', Qd δ' → Stt K c δ' tmp σ' H' → wipe σ' ws = w0 → Q σ' H') → gNames is vs σ H Q
  | [], [], _, δ, σ, F, H, ow, Qd, _, hw, S, .nil, q, k => ⟨rfl, k _ _ _ q ⟨F, ow, S⟩ hw⟩
  | i :: is, x :: xs, _, δ, σ, F, H, ow, Qd, hn, hw, S, .cons r t, q, k => by
    refine ⟨_, _, rfl, ?_⟩
    show gNames is _ _ H Q
    rcases Nat.lt_or_ge i δ.length with hi | hi
    · obtain ⟨ow', S'⟩ := (S.push r).set hi (hn i List.mem_cons_self).1
      exact names_run (fun j hj => hn j (List.mem_cons_of_mem _ hj)) ((wipe_set (hn i List.mem_cons_self).2).trans hw) S' t q k
    · have q' : namesG is xs (δ.set i (some (.d x))) Qd := q
      rw [List.set_eq_of_length_le hi] at q'
      rw [List.set_eq_of_length_le (by rw [S.len]; exact hi)]
      exact names_run (fun j hj => hn j (List.mem_cons_of_mem _ hj)) hw S t q' k
  | [], _ :: _, _, _, _, _, _, _, _, _, _, _, _, q, _ => q.elim
  | _ :: _, [], _, _, _, _, _, _, _, _, _, _, _, q, _ => q.elim
theorem names_len {Q : DSt → Prop} : ∀ {is : List Nat} {xs : List D} {δ : DSt}, namesG is xs δ Q → xs.length = is.length
  | [], [], _, _ => rfl
  | _ :: is, _ :: xs, _, q => congrArg (· + 1) (names_len (is := is) (xs := xs) q)
  | [], _ :: _, _, q => q.elim
  | _ :: _, [], _, q => q.elim
theorem pgd_tup {is vs : List Nat} {e : Expr} {n : Nat} (h : PG X e (gTup X.K n (gNames is))) (hn : n = is.length) (ni : ∀ i ∈ is, i ∉ c.sl ∧ i ∈ vs) : PG X e (LG X.K c vs (tupG is)) :=
  PG_imp h fun v σ H Q ⟨δ, tmp, x, Qd, ⟨F, ow, S⟩, ⟨xs, e, q⟩, k⟩ => by
    subst e
    have r0 := S.top
    cases r0 with
    | tup s1 r1 =>
      refine ⟨_, _, rfl, SqT.of (S.fh _ _ s1), ?_, names_run ni rfl S.pop r1 q k⟩
      rw [r1.len, hn]
      exact names_len q
/-! ### for -/
def forD (g : TDG) (tb : TDS) (D : EndsD) : List DL.D → DSt → Prop
  | [], δ => D.nx δ
  | x :: xs, δ => g x δ fun δ1 => tb { D with nx := forD g tb D xs, ct := forD g tb D xs, bk := D.nx } δ1
def forS (ti : TDI) (g : TDG) (tb : TDS) : TDS := fun D δ => ti δ (fun xs δ1 => forD g tb D xs δ1) D.ex
theorem psd_for {tg iter : Expr} {body : List Stmt} {ti : TDI} {g : TDG} {tb : TDS} {pos : Pos} (hp : PassesOwn (model X.prog X.w) X.A X.env X.xe) (hc : X.calm = true) (hi : PI X tg iter (LI X.K c W ti)) {vs : List Nat} (hg : PG X tg (LG X.K c vs g)) (hb : PSs X body (LS X.K c W tb))
    (hs : ∀ x, foldedSetIterable iter X.env x = pure x := by intro _; rfl) : PS X (.For tg iter body [] pos) (LS X.K c W (forS ti g tb)) :=
  PS_imp (ps_for hp hc hi hg hb hs) fun D σ H ⟨δ, tmp, Dd, S, q, k, kr, kb, kc, w⟩ => by
    refine ⟨δ, tmp, _, _, S, q, fun J v src items δ1 H1 q1 sv S1 => ?_, w⟩
    refine ⟨fun i m σ H => m = items.length - i ∧ i ≤ items.length ∧ ∃ δ, Stt X.K c δ ((v, .d src) :: tmp) σ H ∧ forD g tb Dd (items.drop i) δ, ⟨items.length, by simp, Nat.zero_le _, δ1, S1, q1⟩, ?_⟩
    rintro i m σ2 H2 ⟨rfl, hi, δ2, ⟨F2, ow2, S2⟩, q2⟩
    by_cases hlt : i < items.length
    · refine .inr ⟨sv.go i F2 H2 S2.fh S2.top hlt, fun σ H => i + 1 ≤ items.length ∧ ∃ δ, Stt X.K c δ ((v, .d src) :: tmp) σ H ∧ forD g tb Dd (items.drop (i + 1)) δ, fun σ' H' h => ⟨items.length - (i + 1), by omega, rfl, h⟩, fun x H' y => ?_⟩
      obtain ⟨F3, e3, r3⟩ := sv.yld i F2 H2 x H' S2.fh S2.top y _ (List.getElem?_eq_getElem hlt)
      rw [List.drop_eq_getElem_cons hlt] at q2
      refine ⟨δ2, (v, .d src) :: tmp, _, _, ⟨F3, ow2, (S2.ext e3).push r3⟩, q2, fun δ4 σ4 H4 q4 S4 _ => ⟨δ4, (v, .d src) :: tmp, _, S4, q4, fun δ5 σ5 H5 q5 S5 => ⟨hlt, δ5, S5, q5⟩, fun u z δ5 σ5 H5 q5 ⟨F5, ow5, S5⟩ => ?_, fun δ5 σ5 H5 q5 ⟨F5, ow5, S5⟩ => k δ5 σ5 H5 q5 ⟨F5, ow5, S5.pop⟩, fun δ5 σ5 H5 q5 S5 => ⟨hlt, δ5, S5, q5⟩, w.push⟩⟩
      -- the answer is on top of what is walked
      obtain ⟨F6, S6⟩ : ∃ F6 ow6, SttF X.K c F6 ow6 δ5 ((u, z) :: tmp) σ5 H5 := by
        have tm := S5.tm
        cases z with
        | d y => exact ⟨F5, ow5, { S5.pop.pop with tm := ⟨tm.1, tm.2.2⟩ }⟩
        | own o =>
          obtain ⟨p, rfl, e, b, n, r⟩ := tm.1
          have S7 := S5.pop.pop.reown (ow' := owSet ow5 p (.t tmp.length)) (fun k a z _ => owSet_ne fun y => by subst y; rw [e] at z; cases z) (fun k a hk z _ => owSet_ne fun y => by
            subst y; rw [e] at z; cases z
            have : tmp.length + 1 < tmp.length := hk
            omega)
          exact ⟨F5, _, { S7 with tm := ⟨⟨p, rfl, owSet_at, b, .inl n.t, r⟩, S7.tm⟩ }⟩
      exact kr u z δ5 σ5 H5 q5 ⟨F6, S6⟩
    · have e : i = items.length := by omega
      subst e
      rw [List.drop_length] at q2
      exact .inl ⟨sv.stop _ F2 H2 S2.fh S2.top (Nat.le_refl _), k _ _ _ q2 ⟨F2, ow2, S2.pop⟩⟩
/-! ### while: the invariant is the reader's -/
def whileD (tc : TDT) (tb : TDS) : TDS := fun D δ => ∃ I : Nat → DSt → Prop, (∃ m, I m δ) ∧ ∀ m δ, I m δ → tc δ (fun b δ1 => if b = true then tb { D with nx := fun δ2 => ∃ m', m' < m ∧ I m' δ2, ct := fun δ2 => ∃ m', m' < m ∧ I m' δ2, bk := D.nx } δ1 else D.nx δ1) D.ex
theorem psd_while {e : Expr} {body : List Stmt} {tc : TDT} {tb : TDS} {pos : Pos} (hp : PassesOwn (model X.prog X.w) X.A X.env X.xe) (hc : PT X e (LT X.K c W tc)) (hb : PSs X body (LS X.K c W tb)) : PS X (.While e body [] pos) (LS X.K c W (whileD tc tb)) :=
  PS_imp (ps_while hp hc hb) fun D σ H ⟨δ, tmp, Dd, S, ⟨I, ⟨m0, i0⟩, turn⟩, k, kr, kb, kc, w⟩ => by
    refine ⟨fun m σ H => ∃ δ, Stt X.K c δ tmp σ H ∧ I m δ, ⟨m0, δ, S, i0⟩, ?_⟩
    rintro m σ2 H2 ⟨δ2, S2, i2⟩
    refine ⟨δ2, tmp, _, _, S2, turn m δ2 i2, fun b δ3 H3 q3 S3 => ?_, w⟩
    cases b with
    | false => exact k _ _ _ q3 S3
    | true => exact ⟨fun σ H => ∃ δ m', m' < m ∧ Stt X.K c δ tmp σ H ∧ I m' δ, fun σ' H' ⟨δ, m', h1, h2, h3⟩ => ⟨m', h1, δ, h2, h3⟩, δ3, tmp, _, S3, q3, fun δ4 σ4 H4 ⟨m', h1, h2⟩ S4 => ⟨δ4, m', h1, S4, h2⟩, kr, fun δ4 σ4 H4 q4 S4 => k _ _ _ q4 S4, fun δ4 σ4 H4 ⟨m', h1, h2⟩ S4 => ⟨δ4, m', h1, S4, h2⟩, w⟩
/-! ### list comprehensions -/
def wipeD (δ : DSt) : List Nat → DSt
  | [] => δ
  | v :: vs => (wipeD δ vs).set v none
abbrev W0 : WX := fun _ _ _ _ => False
abbrev noX : XD := fun _ _ => False
def lcD (g : TDG) (tt : TDT) (te : TD) (vs : List Nat) : List DL.D → List DL.D → DSt → (List DL.D → DSt → Prop) → Prop
  | [], acc, δ, Q => Q acc δ
  | x :: xs, acc, δ, Q => g x δ fun δ1 => tt δ1 (fun b δ2 => if b = true then te δ2 (fun y δ3 => acc.length < sizeLine ∧ lcD g tt te vs xs (acc ++ [y.toD]) (wipeD δ3 vs) Q) noX else lcD g tt te vs xs acc (wipeD δ2 vs) Q) noX
def compD (ti : TDI) (g : TDG) (tt : TDT) (te : TD) (vs : List Nat) : TD := fun δ Q E => ti δ (fun xs δ1 => lcD g tt te vs xs [] (wipeD δ1 vs) fun acc δ2 => Q (.own (.lst acc)) δ2) E
def yesD : TDT := fun δ Q _ => Q true δ
end
section
variable {K : PySem.W.Frag} {c : Fc} {F F' H H' : Hp} {ow : Addr → Option Hold} {δ : DSt} {tmp : List (V × DV)} {σ : L2.St} {i : Nat} {p : Addr}
theorem SttF.del (S : SttF K c F ow δ tmp σ H) (ni : i ∉ c.sl) : SttF K c F ow (δ.set i none) tmp (σ.set i none) H := by
  refine { S with len := by rw [List.length_set, List.length_set]; exact S.len, sl := fun j z q => ?_, ps := fun k j p q1 q2 => ?_ }
  · by_cases e : i = j
    · subst e
      rcases Nat.lt_or_ge i δ.length with h | h
      · rw [List.getElem?_set_self h] at q; cases q
      · rw [List.getElem?_eq_none (by rw [List.length_set]; exact h)] at q; cases q
    · rw [List.getElem?_set_ne e] at q ⊢
      exact S.sl j z q
  · rw [List.getElem?_set_ne (fun z => ni (by rw [z]; exact List.mem_of_getElem? q1))]
    exact S.ps k j p q1 q2
theorem SttF.wipe (S : SttF K c F ow δ tmp σ H) : ∀ {vs : List Nat}, (∀ i ∈ vs, i ∉ c.sl) → SttF K c F ow (wipeD δ vs) tmp (L2.wipe σ vs) H
  | [], _ => S
  | v :: vs, h => (S.wipe fun i hi => h i (List.mem_cons_of_mem _ hi)).del (h v List.mem_cons_self)
theorem wipeD_get : ∀ {vs : List Nat} {i : Nat} {x : DV}, (wipeD δ vs)[i]? = some (some x) → i ∉ vs
  | [], _, _, _ => fun h => nomatch h
  | v :: vs, i, x, e => fun h => by
    have e : ((wipeD δ vs).set v none)[i]? = some (some x) := e
    by_cases q : v = i
    · subst q
      rcases Nat.lt_or_ge v (wipeD δ vs).length with z | z
      · rw [List.getElem?_set_self z] at e; cases e
      · rw [List.getElem?_eq_none (by rw [List.length_set]; exact z)] at e; cases e
    · rw [List.getElem?_set_ne q] at e
      exact wipeD_get e ((List.mem_cons.mp h).elim (fun z => absurd z.symm q) id)
/-- the slots that are forgotten may be anything -/
theorem SttF.unwipe {vs : List Nat} (S : SttF K c F ow (wipeD δ vs) tmp (L2.wipe σ vs) H) (h : ∀ i ∈ vs, i ∉ c.sl) : SttF K c F ow (wipeD δ vs) tmp σ H := by
  refine { S with len := by rw [← S.len, wipe_length], sl := fun j z q => ?_, ps := fun k j p q1 q2 => ?_ }
  · obtain ⟨v, e, r⟩ := S.sl j z q
    rw [wipe_out (wipeD_get q)] at e
    exact ⟨v, e, r⟩
  · have := S.ps k j p q1 q2
    rwa [wipe_out fun z => h j z (List.mem_of_getElem? q1)] at this
/-- the own object on top of the stack is changed -/
theorem SttF.writeT {o o' : OC} {ob : HO} (S : SttF K c F ow δ ((.ref p, .own o) :: tmp) σ H) (r' : OwnRep K F (upd H p ob) p o') : SttF K c F ow δ ((.ref p, .own o') :: tmp) σ (upd H p ob) := by
  obtain ⟨p', e0, e, b, w, r⟩ := S.tm.1
  cases e0
  have keep : ∀ {h : Hold} {v : V} {x : DV}, RepV K c F H ow h v x → h ≠ .t tmp.length → RepV K c F (upd H p ob) ow h v x := fun {h v x} y ne => by
    cases x with
    | d z => exact y
    | own z =>
      obtain ⟨a, rfl, ea, ba, wa, ra⟩ := y
      exact ⟨a, rfl, ea, ba, wa, ra.mono (Same.refl F) (upd_ne fun t => by subst t; rw [e] at ea; cases ea; exact ne rfl)⟩
  have keepT : ∀ {l : List (V × DV)}, l.length ≤ tmp.length → RepTmp K c F H ow l → RepTmp K c F (upd H p ob) ow l := fun {l} => by
    induction l with
    | nil => exact fun _ _ => True.intro
    | cons a r ih =>
      obtain ⟨v, x⟩ := a
      exact fun hl y => ⟨keep y.1 (fun z => by have := Hold.t.inj z; have : r.length + 1 ≤ tmp.length := hl; omega), ih (Nat.le_of_succ_le hl) y.2⟩
  refine ⟨fun a u z => ?_, S.f0, S.fn, fun a u z n => ?_, fun a z => ?_, S.len, fun j z qz => ?_, ⟨⟨p, rfl, e, b, w, r'⟩, keepT (Nat.le_refl _) S.tm.2⟩, S.ps⟩
  · rw [upd_ne (ne_of_none z b)]
    exact S.fh _ _ z
  · rw [upd_ne (fun t => by subst t; rw [w.t] at z; cases z)]
    exact S.fr a u z n
  · by_cases t : a = p
    · subst t; rw [upd_same] at z; cases z
    · rw [upd_ne t] at z; exact S.up a z
  · obtain ⟨v, e2, r2⟩ := S.sl j z qz
    exact ⟨v, e2, keep r2 fun t => nomatch t⟩
end
section
variable {X : Cx} {c : Fc} {W : WX}
theorem lift_comp {K : PySem.W.Frag} {ti : TDI} {g : TDG} {tt : TDT} {te : TD} {vs : List Nat} (hv : ∀ i ∈ vs, i ∉ c.sl) : ∀ σ H Q, LE K c W (compD ti g tt te vs) σ H Q → tLc (LI K c W ti) (LG K c vs g) (LT K c W0 tt) (LE K c W0 te) vs σ H Q := fun σ H Q ⟨δ, tmp, Qd, Ed, S, q, k, w⟩ => by
  refine ⟨δ, tmp, _, _, S, q, fun J v src items δ1 H1 q1 sv ⟨F1, ow1, S1⟩ => ?_, w⟩
  intro D nD
  have S2 := (S1.wipe hv).pushNew (o := .lst []) nD ⟨[], upd_same, .nil⟩
  refine ⟨fun i m H => m = items.length - i ∧ i ≤ items.length ∧ ∃ δ acc, Stt K c (wipeD δ vs) ((.ref D, .own (.lst acc)) :: (v, .d src) :: tmp) (wipe σ vs) H ∧ lcD g tt te vs (items.drop i) acc (wipeD δ vs) fun acc δ2 => Qd (.own (.lst acc)) δ2,
    ⟨items.length, by simp, Nat.zero_le _, δ1, [], ⟨_, _, S2⟩, q1⟩, ?_⟩
  rintro i m H2 ⟨rfl, hi, δ2, acc, ⟨F2, ow2, S3⟩, q2⟩
  have src2 : Rep K F2 v src := S3.tm.2.1
  by_cases hlt : i < items.length
  · refine .inr ⟨sv.go i F2 H2 S3.fh src2 hlt, fun H => i + 1 ≤ items.length ∧ ∃ δ acc, Stt K c (wipeD δ vs) ((.ref D, .own (.lst acc)) :: (v, .d src) :: tmp) (wipe σ vs) H ∧ lcD g tt te vs (items.drop (i + 1)) acc (wipeD δ vs) fun acc δ2 => Qd (.own (.lst acc)) δ2,
      fun H' h => ⟨items.length - (i + 1), by omega, rfl, h⟩, fun x H' y => ?_⟩
    obtain ⟨F3, e3, r3⟩ := sv.yld i F2 H2 x H' S3.fh src2 y _ (List.getElem?_eq_getElem hlt)
    rw [List.drop_eq_getElem_cons hlt] at q2
    refine ⟨wipeD δ2 vs, (.ref D, .own (.lst acc)) :: (v, .d src) :: tmp, _, _, ⟨F3, ow2, (S3.ext e3).push r3⟩, q2, fun δ4 σ4 H4 q4 S4 hw => ?_⟩
    have hw' : wipe σ4 vs = wipe σ vs := by
      rw [hw]
      have idem : ∀ (l : List Nat), (∀ i ∈ l, i ∈ vs) → wipe (wipe σ l) vs = wipe σ vs := fun l => by
        induction l with
        | nil => exact fun _ => rfl
        | cons a r ih =>
          intro h
          show wipe ((wipe σ r).set a none) vs = _
          rw [wipe_set (h a List.mem_cons_self)]
          exact ih fun i hi => h i (List.mem_cons_of_mem _ hi)
      exact idem vs fun _ h => h
    refine ⟨hw', δ4, _, _, noX, S4, q4, fun b δ5 H5 q5 ⟨F5, ow5, S5⟩ => ?_, fun _ _ _ _ _ _ _ _ z => z.elim⟩
    cases b with
    | false =>
      have S6 := S5.wipe hv
      rw [hw'] at S6
      exact ⟨hlt, δ5, acc, ⟨_, _, S6⟩, q5⟩
    | true =>
      refine ⟨δ5, _, _, noX, ⟨F5, ow5, S5⟩, q5, fun u z δ6 H6 ⟨hz, q6⟩ ⟨F6, ow6, S6⟩ => ?_, fun _ _ _ _ _ _ _ _ z => z.elim⟩
      obtain ⟨F7, S7, s7⟩ := S6.top_frz
      obtain ⟨p', e0, _, _, _, ws, ep, rw'⟩ := S7.tm.2.1
      cases e0
      have S8 := S7.pop.writeT (o' := .lst (acc ++ [z.toD])) (ob := .lst (ws ++ [u])) ⟨_, upd_same, rw'.app (.cons S7.top .nil)⟩
      have S9 := S8.wipe hv
      rw [hw'] at S9
      exact ⟨ws, ep, by rw [rw'.len]; exact hz, hlt, δ6, _, ⟨_, _, S9⟩, q6⟩
  · have e : i = items.length := by omega
    subst e
    rw [List.drop_length] at q2
    refine .inl ⟨sv.stop _ F2 H2 S3.fh src2 (Nat.le_refl _), k _ _ _ _ q2 ?_⟩
    have S4 := S3.unwipe hv
    -- the list is moved down on the stack
    obtain ⟨p', e0, e, b, n, r⟩ := S4.tm.1
    cases e0
    have S5 := S4.pop.pop.reown (ow' := owSet ow2 D (.t tmp.length)) (fun k a z _ => owSet_ne fun y => by subst y; rw [e] at z; cases z) (fun k a hk z _ => owSet_ne fun y => by
      subst y; rw [e] at z; cases z
      have : tmp.length + 1 < tmp.length := hk
      omega)
    exact ⟨F2, _, { S5 with tm := ⟨⟨D, rfl, owSet_at, b, .inl n.t, r⟩, S5.tm⟩ }⟩
theorem PTs_imp {e : List Expr} {t t' : TT} (h : PTs X e t) (f : ∀ σ H Q, t' σ H Q → t σ H Q) : PTs X e t' := ⟨fun pins s σ H Q I q => h.run pins s σ H Q I (f _ _ _ q)⟩
theorem ptsd_nil : PTs X [] (LT X.K c W yesD) := PTs_imp pts_nil fun σ H Q ⟨δ, tmp, Qd, Ed, S, q, k, w⟩ => k _ _ _ q S
theorem ptsd_one {e : Expr} {t : TDT} (h : PT X e (LT X.K c W t)) : PTs X [e] (LT X.K c W t) := pts_one h
theorem pd_lc {elt tg iter : Expr} {ifs : List Expr} {scope : Scope} {own : List (Str × Nat)} {pos : Pos} {ti : TDI} {g : TDG} {tt : TDT} {te : TD} (hc : X.calm = true) (hN : X.N.Nodup) (hi : PI X tg iter (LI X.K c W ti)) (ok : BlkOk X.N X.env.scope scope own)
    (hg : ∀ (s : Shared) (H : Hp) (C : Addr) (cl : List (Str × Addr)) (fp : List Addr), PG (X.blk s H scope (compEnvC scope cl C X.env) fp) tg (LG X.K c (own.map (·.2)) g)) (ht : ∀ (s : Shared) (H : Hp) (C : Addr) (cl : List (Str × Addr)) (fp : List Addr), PTs (X.blk s H scope (compEnvC scope cl C X.env) fp) ifs (LT X.K c W0 tt))
    (he : ∀ (s : Shared) (H : Hp) (C : Addr) (cl : List (Str × Addr)) (fp : List Addr), PE (X.blk s H scope (compEnvC scope cl C X.env) fp) elt (LE X.K c W0 te)) (hv : ∀ i ∈ own.map (·.2), i ∉ c.sl) (hs : ∀ x, foldedSetIterable iter X.env x = pure x := by intro _; rfl) :
    PE X (.ListComp elt [⟨tg, iter, ifs, 0⟩] scope pos) (LE X.K c W (compD ti g tt te (own.map (·.2)))) := PE_imp (pe_lc hc hN hi ok hg ht he hs) (lift_comp hv)
/-- x = [..] on one line: the list is x's own, or frozen -/
def setLcD (i : Nat) (o : Bool) (t : TD) : TDS := fun D δ => t δ (fun x δ1 => D.nx (δ1.set i (some (asD o x)))) D.ex
theorem psd_setLc {i : Nat} {o : Bool} {y : Str} {py : Pos} {elt tg iter : Expr} {ifs : List Expr} {scope : Scope} {own : List (Str × Nat)} {pos spos : Pos} {ti : TDI} {g : TDG} {tt : TDT} {te : TD} (ni : i ∉ c.sl) (hc : X.calm = true) (hN : X.N.Nodup) (hy : X.N[i]? = some y) (hyl : X.env.scope.names.lookup y = some .local)
    (hsw : swapsWith (.ListComp elt [⟨tg, iter, ifs, 0⟩] scope pos) (some (.Name y py)) spos.line X.env = pure true) (hi : PI X tg iter (LI X.K c W ti)) (ok : BlkOk X.N X.env.scope scope own)
    (hg : ∀ (s : Shared) (H : Hp) (C : Addr) (cl : List (Str × Addr)) (fp : List Addr), PG (X.blk s H scope (compEnvC scope cl C X.env) fp) tg (LG X.K c (own.map (·.2)) g)) (ht : ∀ (s : Shared) (H : Hp) (C : Addr) (cl : List (Str × Addr)) (fp : List Addr), PTs (X.blk s H scope (compEnvC scope cl C X.env) fp) ifs (LT X.K c W0 tt))
    (he : ∀ (s : Shared) (H : Hp) (C : Addr) (cl : List (Str × Addr)) (fp : List Addr), PE (X.blk s H scope (compEnvC scope cl C X.env) fp) elt (LE X.K c W0 te)) (hv : ∀ i ∈ own.map (·.2), i ∉ c.sl) (hs : ∀ x, foldedSetIterable iter X.env x = pure x := by intro _; rfl) :
    PS X (.Assign [.Name y py] (.ListComp elt [⟨tg, iter, ifs, 0⟩] scope pos) spos) (LS X.K c W (setLcD i o (compD ti g tt te (own.map (·.2))))) :=
  PS_imp (ps_setLc (i := i) hc hN hy hyl hsw hi ok hg ht he hs) fun D σ H ⟨δ, tmp, Dd, S, q, k, kr, kb, kc, w⟩ => by
    show tLc _ _ _ _ _ σ H fun x H1 => gName i x σ H1 D.nx
    refine lift_comp hv _ _ _ ⟨δ, tmp, _, _, S, q, fun v x δ' H' q' ⟨F, ow, S'⟩ => ?_, w⟩
    obtain ⟨F', S2⟩ := S'.top_as o
    exact k _ _ _ q' (S2.set' ni)
end
end DL

set_option Elab.async false
set_option linter.all false
set_option maxRecDepth 100000
namespace DL
open PySem PySem.Spec PyProof.Rows L2
/-! ### a def's body keeps its promise -/
/-- the slots of the arguments that may change -/
def ownIx : List DV → Nat → List Nat
  | [], _ => []
  | .d _ :: r, k => ownIx r (k + 1)
  | .own _ :: r, k => k :: ownIx r (k + 1)
def startD (n : Nat) (as : List DV) : DSt := as.map some ++ List.replicate (n - as.length) none
def takeB (δ : DSt) : List Nat → List OC → Prop
  | [], os => os = []
  | i :: is, os => ∃ o r, os = o :: r ∧ δ[i]? = some (some (.own o)) ∧ takeB δ is r
def owOf : List DV → List V → Nat → Addr → Option Hold
  | .own _ :: as, .ref p :: vs, k => fun a => if a = p then some (.s k) else owOf as vs (k + 1) a
  | _ :: as, _ :: vs, k => owOf as vs (k + 1)
  | _, _, _ => fun _ => none
section
variable {K : PySem.W.Frag} {c : Fc} {F H : Hp}
theorem ArgsRep.len : ∀ {vs : List V} {as : List DV} {ps : List Addr}, ArgsRep K F H vs as ps → vs.length = as.length
  | _, _, _, .nil => rfl
  | _, _, _, .d _ t => congrArg (· + 1) t.len
  | _, _, _, .own _ _ _ t => congrArg (· + 1) t.len
theorem ArgsRep.plen : ∀ {vs : List V} {as : List DV} {ps : List Addr} {k : Nat}, ArgsRep K F H vs as ps → ps.length = (ownIx as k).length
  | _, _, _, _, .nil => rfl
  | _, _, _, k, .d _ t => t.plen (k := k + 1)
  | _, _, _, k, .own _ _ _ t => congrArg (· + 1) (t.plen (k := k + 1))
theorem owOf_in : ∀ {vs : List V} {as : List DV} {ps : List Addr} {k : Nat} {a : Addr} {h : Hold}, ArgsRep K F H vs as ps → owOf as vs k a = some h → a ∈ ps
  | _, _, _, _, _, _, .nil, e => nomatch e
  | _, _, _, k, a, h, .d _ t, e => owOf_in (k := k + 1) t e
  | _, _, _, k, a, h, .own (p := p) _ _ _ t, e => by
    have e : (if a = p then some (Hold.s k) else owOf _ _ (k + 1) a) = some h := e
    by_cases q : a = p
    · subst q; exact List.mem_cons_self
    · rw [if_neg q] at e; exact List.mem_cons_of_mem _ (owOf_in t e)
theorem ArgsRep.at' : ∀ {vs : List V} {as : List DV} {ps : List Addr} {k j : Nat} {x : DV}, ArgsRep K F H vs as ps → (∀ p ∈ ps, p ∈ c.ad) → (∀ i ∈ ownIx as k, i ∈ c.sl) → as[j]? = some x → ∃ v, vs[j]? = some v ∧ RepV K c F H (owOf as vs k) (.s (k + j)) v x
  | _, _, _, _, 0, _, .d h _, _, _, e => by cases e; exact ⟨_, rfl, h⟩
  | _, _, _, k, 0, _, .own n h _ _, hp, hs, e => by
    cases e
    exact ⟨_, rfl, _, rfl, if_pos rfl, n, .inr ⟨hp _ List.mem_cons_self, k, rfl, hs k List.mem_cons_self⟩, h⟩
  | _, _, _, k, j + 1, x, .d _ t, hp, hs, e => by
    obtain ⟨v, e1, r⟩ := t.at' (k := k + 1) (j := j) hp hs e
    refine ⟨v, e1, ?_⟩
    rw [show k + (j + 1) = k + 1 + j by omega]
    exact r
  | _, _, _, k, j + 1, x, .own (p := p) n h np t, hp, hs, e => by
    obtain ⟨v, e1, r⟩ := t.at' (k := k + 1) (j := j) (fun p hq => hp p (List.mem_cons_of_mem _ hq)) (fun i hi => hs i (List.mem_cons_of_mem _ hi)) e
    refine ⟨v, e1, ?_⟩
    rw [show k + (j + 1) = k + 1 + j by omega]
    refine r.reown fun q _ eq _ => ?_
    have : q ≠ p := fun z => np (by rw [← z]; exact owOf_in t eq)
    exact if_neg this
theorem ArgsRep.ix : ∀ {vs : List V} {as : List DV} {ps : List Addr} {k m i : Nat} {p : Addr}, ArgsRep K F H vs as ps → (ownIx as k)[m]? = some i → ps[m]? = some p → k ≤ i ∧ vs[i - k]? = some (.ref p)
  | _, _, _, k, m, i, p, .nil, e, _ => by simp [ownIx] at e
  | _, _, _, k, m, i, p, .d _ t, e, e' => by
    obtain ⟨h1, h2⟩ := t.ix (k := k + 1) e e'
    refine ⟨by omega, ?_⟩
    rw [show i - k = (i - (k + 1)) + 1 by omega]
    exact h2
  | _, _, _, k, 0, i, p, .own _ _ _ _, e, e' => by
    cases e; cases e'
    rw [Nat.sub_self]
    exact ⟨Nat.le_refl _, rfl⟩
  | _, _, _, k, m + 1, i, p, .own _ _ _ t, e, e' => by
    obtain ⟨h1, h2⟩ := t.ix (k := k + 1) (m := m) e e'
    refine ⟨by omega, ?_⟩
    rw [show i - k = (i - (k + 1)) + 1 by omega]
    exact h2
/-- at the entry -/
theorem entry {N : List Str} {vs : List V} {as : List DV} {ps : List Addr} (s : Same F H) (A : ArgsRep K F H vs as ps) : SttF K ⟨ownIx as 0, ps, F, H⟩ F (owOf as vs 0) (startD N.length as) [] (L2.start N vs) H := by
  have hl := A.len
  refine ⟨s, Same.refl F, fun a h => .inl h, fun a o e _ => e, fun a e => e, ?_, fun i x e => ?_, True.intro, fun m i p e1 e2 => ?_⟩
  · unfold L2.start startD
    rw [List.length_append, List.length_append, List.length_map, List.length_map, List.length_replicate, List.length_replicate, hl]
  · unfold startD at e
    rcases Nat.lt_or_ge i as.length with h | h
    · rw [List.getElem?_append_left (by rw [List.length_map]; exact h), List.getElem?_map, List.getElem?_eq_getElem h] at e
      have e := Option.some.inj (Option.some.inj e)
      obtain ⟨v, e1, r⟩ := A.at' (c := ⟨ownIx as 0, ps, F, H⟩) (k := 0) (j := i) (fun _ h => h) (fun _ h => h) (by rw [List.getElem?_eq_getElem h, e])
      refine ⟨v, ?_, by rw [Nat.zero_add] at r; exact r⟩
      unfold L2.start
      rw [List.getElem?_append_left (by rw [List.length_map, hl]; exact h), List.getElem?_map, e1]
      rfl
    · rw [List.getElem?_append_right (by rw [List.length_map]; exact h)] at e
      cases q : (List.replicate (N.length - as.length) (none : Option DV))[i - (as.map some).length]? with
      | none => rw [q] at e; cases e
      | some z =>
        rw [q] at e
        have := List.mem_of_getElem? q
        rw [(List.mem_replicate.mp this).2] at e
        cases e
  · obtain ⟨_, h⟩ := A.ix (k := 0) e1 e2
    have h : vs[i]? = some (.ref p) := h
    unfold L2.start
    rw [List.getElem?_append_left (by rw [List.length_map]; exact set_lt h), List.getElem?_map, h]
    rfl
theorem takeB_reps {F' H' : Hp} {ow : Addr → Option Hold} {δ : DSt} {tmp : List (V × DV)} {σ : L2.St} (S : SttF K c F' ow δ tmp σ H') : ∀ {is : List Nat} {ps : List Addr} {os : List OC}, ps.length = is.length → (∀ (k i : Nat) (p : Addr), is[k]? = some i → ps[k]? = some p → σ[i]? = some (some (.ref p))) → takeB δ is os → OwnsRep K F' H' ps os
  | [], [], _, _, _, e => by cases e; exact .nil
  | i :: is, p :: ps, _, hl, hs, ⟨o, r, e, ei, t⟩ => by
    subst e
    obtain ⟨v, e1, p', rfl, _, n, _, q⟩ := S.sl _ _ ei
    have e2 := hs 0 i p rfl rfl
    rw [e1] at e2
    cases e2
    exact .cons n q (takeB_reps S (Nat.succ.inj hl) (fun k i p a b => hs (k + 1) i p a b) t)
  | [], _ :: _, _, h, _, _ => nomatch h
  | _ :: _, [], _, h, _, _ => nomatch h
end
/-- what a def's end must bring -/
def endsD (sl : List Nat) (Qd : DV → List OC → Prop) (Ed : Ex → List OC → Prop) : EndsD where
  nx := fun δ => ∃ os, takeB δ sl os ∧ Qd (.d .non) os
  rt := fun x δ => ∃ os, takeB δ sl os ∧ Qd x os
  ex := fun x δ => ∃ os, takeB δ sl os ∧ Ed x os
section
variable {P : Program} {w : World} {K : PySem.W.Frag} {mg : Str → Option Value} {base : Heap}
theorem okD {x qual : Str} {st : Stmt} {f : Addr} {fd : FuncData} {N ps : List Str} {k : Nat} {sd : SpD} (G : Fun K x qual st f fd) (S : FnScope N ps (defScope st)) (sl : List Nat) (len : ∀ as Q E, sd as Q E → as.length = ps.length ∧ ownIx as 0 = sl)
    (hbody : ∃ t : TDS, (∀ (cdv : Value) (A : Around) (outer : List Env) (s : Shared) (H : Hp) (E : XK) (ad : List Addr) (F0 H0 : Hp), Room k (A.deeper (envOfC qual (defScope st) s.heap.objs.size f cdv)) →
        PSs (cxOf (L2.CX P w) P w K mg base N qual (defScope st) f cdv A outer s H E) (defBody st) (LS K ⟨sl, ad, F0, H0⟩ (fun cls d _ H => E cls d H) t)) ∧
      ∀ as Qd Ed, sd as Qd Ed → t (endsD sl Qd Ed) (startD N.length as)) :
    FnOk P w K mg base (L2.CX P w) (k + 1) f fd ps (spOf K sd) := by
  obtain ⟨t, ht, hq⟩ := hbody
  refine G.okX S (fun vs H Q E ⟨F, as, qs, Qd, Ed, _, A, h, _⟩ => by rw [A.len]; exact (len _ _ _ h).1) fun cdv A outer s H vs Q E hr ⟨F, as, qs, Qd, Ed, sm, ar, h, kq, ke⟩ => ?_
  have hsl := (len _ _ _ h).2
  have S0 := entry (N := N) sm ar
  rw [hsl] at S0
  have hpl : qs.length = sl.length := by rw [← hsl]; exact ar.plen
  have post : ∀ {δ' : DSt} {tmp : List (V × DV)} {σ' : L2.St} {F' H' : Hp} {ow' : Addr → Option Hold} {os : List OC}, SttF K ⟨sl, qs, F, H⟩ F' ow' δ' tmp σ' H' → takeB δ' sl os → Post K F H qs os F' H' := fun {δ' tmp σ' F' H' ow' os} S' tb =>
    ⟨S'.f0, S'.fh, S'.fr, S'.up, S'.fn, takeB_reps S' hpl S'.ps tb⟩
  refine ⟨_, ht cdv A outer s H E qs F H hr, startD N.length as, [], endsD sl Qd Ed, ⟨F, _, S0⟩, hq as Qd Ed h, fun δ' σ' H' ⟨os, tb, q⟩ ⟨F', ow', S'⟩ => ?_, fun v x δ' σ' H' ⟨os, tb, q⟩ ⟨F', ow', S'⟩ => ?_, fun _ _ _ z => z.elim, fun _ _ _ z => z.elim, fun x δ' σ' H' F' ow' cls d ⟨os, tb, q⟩ S' er => ?_⟩
  · exact kq .non (.d .non) os F' H' q (post S' tb) .non
  · refine kq v x os F' H' q (post S' tb) ?_
    cases x with
    | d y => exact S'.top
    | own o =>
      obtain ⟨p, rfl, e, b, n, r⟩ := S'.tm.1
      exact ⟨p, rfl, n.t, b, r⟩
  · exact ke cls d x os F' H' q (post S' tb) er
end
/-! ### own lists that change -/
section
variable {X : Cx} {c : Fc} {W : WX}
/-- xs[i] = e, xs the own list in slot j -/
def setItem (j : Nat) (ti te : TD) : TDS := fun D δ => ∃ o, δ[j]? = some (some (.own o)) ∧ te δ (fun y δ1 => ti δ1 (fun k δ2 => ∃ xs n m, δ2[j]? = some (some (.own (.lst xs))) ∧ k.toD = .int n ∧ ixN xs.length n = some m ∧ D.nx (δ2.set j (some (.own (.lst (xs.set m y.toD)))))) D.ex) D.ex
theorem psd_setItem {j : Nat} {x : Str} {e ei : Expr} {te ti : TD} {pos p2 p3 : Pos} (h : ∀ {te : TE} {g : TG}, PE X e te → PG X (.Subscript (.Name x p3) ei p2) g → PS X (.Assign [.Subscript (.Name x p3) ei p2] e pos) (tAsg te g))
    (hg : ∀ {to ti : TE} {t : TSet}, PE X (.Name x p3) to → PE X ei ti → PSet X t → PG X (.Subscript (.Name x p3) ei p2) (gSub to ti t)) (hv : PE X (.Name x p3) (tVar j)) (he : PE X e (LE X.K c W te)) (hi : PE X ei (LE X.K c W ti)) :
    PS X (.Assign [.Subscript (.Name x p3) ei p2] e pos) (LS X.K c W (setItem j ti te)) :=
  PS_imp (h he (hg hv hi set_list)) fun D σ H ⟨δ, tmp, Dd, ⟨F, ow, S⟩, ⟨o, eo, q⟩, k, kr, kb, kc, w⟩ => by
    obtain ⟨v, e1, p, rfl, _⟩ := S.sl _ _ eo
    refine ⟨δ, tmp, _, _, ⟨F, ow, S⟩, q, fun y d δ1 H1 q1 ⟨F1, ow1, S1⟩ => ?_, w⟩
    obtain ⟨F2, S2, _⟩ := S1.top_frz
    refine ⟨_, e1, δ1, _, _, _, ⟨F2, ow1, S2⟩, q1, fun u z δ2 H2 ⟨xs, n, m, ej, ek, em, q2⟩ ⟨F3, ow3, S3⟩ => ?_, w.push⟩
    obtain ⟨F4, S4, _⟩ := S3.top_frz
    rw [ek] at S4
    cases S4.top
    obtain ⟨v', e2, p', rfl, _, _, _, vs, ep, r⟩ := S4.sl _ _ ej
    rw [e1] at e2
    cases e2
    refine ⟨p, vs, n, m, rfl, rfl, ep, by rw [r.len]; exact em, k _ _ _ q2 ⟨F4, ow3, ?_⟩⟩
    exact (S4.pop.write (o' := .lst (xs.set m d.toD)) ej e1 ⟨_, upd_same, r.set S4.pop.top m⟩).pop
/-- a method of the own list in slot j: it changes, a value comes back -/
abbrev RDM := List D → List D → (D → List D → Prop) → Prop
def MtO (K : PySem.W.Frag) (r : V → List V → Hp → VK → Prop) (rd : RDM) : Prop := ∀ (p : Addr) (vs us : List V) (xs ds : List D) (F H : Hp) (Q : VK) (Qd : D → List D → Prop), Same F H → H p = some (.lst vs) → RepL K F vs xs → RepL K F us ds → rd xs ds Qd →
  (∀ v z ws zs, Qd z zs → Rep K F v z → RepL K F ws zs → Q v (upd H p (.lst ws))) → r (.ref p) us H Q
def methO (j : Nat) (rd : RDM) (ta : TDA) : TD := fun δ Q E => ∃ x0, δ[j]? = some (some (.own (.lst x0))) ∧ ta δ (fun as δ1 => ∃ ds xs, as = ds.map .d ∧ δ1[j]? = some (some (.own (.lst xs))) ∧ rd xs ds fun z zs => Q (.d z) (δ1.set j (some (.own (.lst zs))))) E
theorem pd_methO {j : Nat} {x m : Str} {es : List Expr} {ta : TDA} {r : V → List V → Hp → VK → Prop} {rd : RDM} {pos p2 p3 : Pos} (h : ∀ {to : TE} {t : TA}, PE X (.Name x p3) to → PA X es t → PE X (.Call (.Attribute (.Name x p3) m p2) es [] pos) (tBM X.K "list" r to t)) (hr : MtO X.K r rd)
    (hv : PE X (.Name x p3) (tVar j)) (ha : PA X es (LA X.K c W ta)) : PE X (.Call (.Attribute (.Name x p3) m p2) es [] pos) (LE X.K c W (methO j rd ta)) :=
  PE_imp (h hv ha) fun σ H Q ⟨δ, tmp, Qd, Ed, ⟨F, ow, S⟩, ⟨o, eo, q⟩, k, w⟩ => by
    obtain ⟨v, e1, p, rfl, _, _, _, vs0, ep0, _⟩ := S.sl _ _ eo
    refine ⟨_, e1, .inl ⟨rfl, vs0, SqL.of ep0⟩, δ, tmp, _, Ed, ⟨F, ow, S⟩, q, fun us as δ1 F1 ow1 H1 ⟨ds, xs, ea, ej, q1⟩ S1 ra => ?_, w⟩
    subst ea
    obtain ⟨v', e2, p', rfl, _, n, _, vs, ep, rr⟩ := S1.sl _ _ ej
    rw [e1] at e2
    cases e2
    exact hr p vs us xs ds F1 H1 Q _ S1.fh ep rr (args_d ra) q1 fun v z ws zs qz rz rws => k _ _ _ _ qz ⟨F1, ow1, (S1.write (o' := .lst zs) ej e1 ⟨_, upd_same, rws⟩).push rz⟩
end
section
variable {K : PySem.W.Frag}
abbrev appM : RDM := fun xs ds Q => ∃ d, ds = [d] ∧ xs.length < sizeLine ∧ Q .non (xs ++ [d])
theorem mo_append : MtO K rAppend appM := fun p vs us xs ds F H Q Qd s ep r ra ⟨d, e, hz, q⟩ k => by
  subst e
  cases ra with
  | cons ra t => cases t; exact ⟨p, vs, _, rfl, rfl, ep, by rw [r.len]; exact hz, k _ _ _ _ q .non (r.app (.cons ra .nil))⟩
abbrev popM : RDM := fun xs ds Q => ∃ i k d, ds = [.int i] ∧ -(2 ^ 63) ≤ i ∧ i < 2 ^ 63 ∧ seqIndex? i xs.length = some k ∧ xs[k]? = some d ∧ Q d (xs.eraseIdx k)
theorem mo_pop : MtO K rPopAt popM := fun p vs us xs ds F H Q Qd s ep r ra ⟨i, j, d, e, h1, h2, hk, hd, q⟩ k => by
  subst e
  cases ra with
  | cons ra t =>
    cases t; cases ra
    obtain ⟨v, ev, rv⟩ := r.get hd
    exact ⟨p, vs, i, j, v, rfl, rfl, ep, h1, h2, by rw [r.len]; exact hk, ev, k _ _ _ _ q rv (r.erase j)⟩
abbrev insM : RDM := fun xs ds Q => ∃ (i : Int) (d : DL.D), ds = [.int i, d] ∧ xs.length < sizeLine ∧ 0 ≤ i ∧ i < 2 ^ 63 ∧ Q .non (xs.take i.toNat ++ [d] ++ xs.drop i.toNat)
theorem mo_insert : MtO K (fun x vs H Q => ∃ (l : Addr) (xs : List V) (i : Int) (y : V), x = .ref l ∧ vs = [.int i, y] ∧ H l = some (.lst xs) ∧ xs.length < sizeLine ∧ 0 ≤ i ∧ i < 2 ^ 63 ∧
    Q .non (upd H l (.lst (xs.take i.toNat ++ [y] ++ xs.drop i.toNat)))) insM := fun p vs us xs ds F H Q Qd s ep r ra ⟨i, d, e, hz, h0, h1, q⟩ k => by
  subst e
  cases ra with
  | cons ra t =>
    cases t with
    | cons rd t => cases t; cases ra; exact ⟨p, vs, i, _, rfl, rfl, ep, by rw [r.len]; exact hz, h0, h1, k _ _ _ _ q .non (((r.take _).app (.cons rd .nil)).app (r.drop _))⟩
end
/-! ### what is raised -/
section
variable {X : Cx} {c : Fc} {W : WX}
theorem repF_zip {K : PySem.W.Frag} {F : Hp} : ∀ {ns : List Str} {vs : List V} {ds : List D}, RepL K F vs ds → RepF K F (ns.zip vs) (ns.zip ds)
  | [], _, _, .nil => .nil
  | [], _, _, .cons _ _ => .nil
  | n :: ns, _, _, .nil => .nil
  | n :: ns, _, _, .cons h t => .cons h (repF_zip t)
/-! ### try -/
end
end DL

set_option Elab.async false
set_option linter.all false
set_option maxRecDepth 100000
namespace DL
open PySem PySem.Spec PyProof.Rows L2
section
variable {X : Cx} {c : Fc} {W : WX}
/-! ### comparisons as tests -/
theorem ptd_cmp {a b : Expr} {op : CmpOp} {r : R2} {rd : RD2} {ta tb : TD} {pos : Pos} (ho : OpR X (compareOp op) r) (hd : Op2 X.K r rd) (ha : PE X a (LE X.K c W ta)) (hb : PE X b (LE X.K c W tb)) (hm : behindInMarks op b = false) : PT X (.Compare a [op] [b] pos) (LT X.K c W (tvD (opD rd ta tb))) :=
  PT_imp (pt_cmpR ho ha hb hm) fun σ H Q ⟨δ, tmp, Qd, Ed, S, q, k, w⟩ => lift_op hd σ H _ ⟨δ, tmp, _, Ed, S, q, fun v x δ' H' ⟨b, e, q'⟩ ⟨F, ow, S'⟩ => by
    subst e
    cases S'.top
    exact ⟨b, rfl, k _ _ _ q' ⟨F, ow, S'.pop⟩⟩, w⟩
theorem lift_chain {K : PySem.W.Frag} {r r' : R2} {rd rd' : RD2} {ta tb tc : TD} (hd : Op2 K r rd) (hd' : Op2 K r' rd') : ∀ σ H Q, LE K c W (chainD rd rd' ta tb tc) σ H Q → tChain r r' (LE K c W ta) (LE K c W tb) (LE K c W tc) σ H Q := fun σ H Q ⟨δ, tmp, Qd, Ed, S, t, k, w⟩ => by
  refine ⟨δ, tmp, _, Ed, S, t, fun x a δ1 H1 t1 S1 => ?_, w⟩
  refine ⟨δ1, _, _, Ed, S1, t1, fun y b δ2 H2 t2 ⟨F, ow, S2⟩ => ?_, w.push⟩
  obtain ⟨F', S3, _⟩ := S2.top_frz2
  refine hd x y _ _ F' H2 _ _ S3.fh S3.pop.top S3.top t2 fun v dv F2 H3 ⟨kk, e, q⟩ m => ?_
  subst e
  cases m with
  | d e r =>
    cases r
    refine ⟨kk, rfl, ?_⟩
    have S4 := S3.ext e
    cases kk with
    | false => exact k _ _ _ _ q ⟨F2, ow, S4.pop.pop.push (.bl _)⟩
    | true =>
      have S5 : SttF K c F2 ow δ2 ((y, .d b.toD) :: tmp) σ H3 := S4.pop.pop.push S4.top
      refine ⟨δ2, _, _, Ed, ⟨F2, ow, S5⟩, q, fun u z δ3 H4 q2 ⟨F5, ow5, S6⟩ => ?_, w.push⟩
      obtain ⟨F7, S7, s7⟩ := S6.top_frz
      exact hd' y u _ _ F7 H4 Q _ S7.fh S7.pop.top S7.top q2 fun v dv F8 H5 q3 m => k _ _ _ _ q3 (m.stt S7.pop.pop)
theorem ptd_chain {a b e : Expr} {op op' : CmpOp} {r r' : R2} {rd rd' : RD2} {ta tb tc : TD} {pos : Pos} (ho : OpR X (compareOp op) r) (hd : Op2 X.K r rd) (ho' : OpR X (compareOp op') r') (hd' : Op2 X.K r' rd') (ha : PE X a (LE X.K c W ta)) (hb : PE X b (LE X.K c W tb)) (hc : PE X e (LE X.K c W tc)) (hm : lastMarks [op, op'] [b, e] = false) :
    PT X (.Compare a [op, op'] [b, e] pos) (LT X.K c W (tvD (chainD rd rd' ta tb tc))) :=
  PT_imp (pt_chain ho ho' ha hb hc (hm := hm)) fun σ H Q ⟨δ, tmp, Qd, Ed, S, q, k, w⟩ => lift_chain hd hd' σ H _ ⟨δ, tmp, _, Ed, S, q, fun v x δ' H' ⟨b, e, q'⟩ ⟨F, ow, S'⟩ => by
    subst e
    cases S'.top
    exact ⟨b, rfl, k _ _ _ q' ⟨F, ow, S'.pop⟩⟩, w⟩
/-! ### a, b = e -/
def unpackD (t : TD) (g : TDG) : TDS := fun D δ => t δ (fun x δ1 => g x.toD δ1 D.nx) D.ex
theorem psd_unpack {tg e : Expr} {t : TD} {g : TDG} {vs : List Nat} {pos : Pos} (he : PE X e (LE X.K c W t)) (hg : PG X tg (LG X.K c vs g)) (h : ∀ {te : TE} {g : TG}, PE X e te → PG X tg g → PS X (.Assign [tg] e pos) (tAsg te g)) : PS X (.Assign [tg] e pos) (LS X.K c W (unpackD t g)) :=
  PS_imp (h he hg) fun D σ H ⟨δ, tmp, Dd, S, q, k, kr, kb, kc, w⟩ => ⟨δ, tmp, _, _, S, q, fun v x δ' H' q' ⟨F, ow, S'⟩ => by
    obtain ⟨F2, S2, _⟩ := S'.top_frz
    exact ⟨δ', tmp, _, _, ⟨F2, ow, S2⟩, q', fun δ3 σ3 H3 q3 S3 _ => k _ _ _ q3 S3⟩, w⟩
/-! ### lists and tuples, whichever it is -/
/-! ### enumerate, zip: pairs -/
def enumL (xs : List D) : List D := xs.zipIdx.map fun p => .tup [.int (p.2 : Nat), p.1]
def zipL (xs ys : List D) : List D := (xs.zip ys).map fun p => .tup [p.1, p.2]
theorem serve_enum {K : PySem.W.Frag} {p : Addr} {src : D} {items : List D} (e : src = .lst items ∨ src = .ro items) : Serve K (Ite K p) (.ref p) src (enumL items) := by
  have sq : ∀ {F H : Hp}, Same F H → Rep K F (.ref p) src → ∃ vs, SqL K H p vs ∧ RepL K F vs items := fun {F H} s r => by
    rcases e with rfl | rfl
    · cases r with | lst s1 r1 => exact ⟨_, s.seq (SqL.of s1), r1⟩
    · cases r with | ro s1 r1 => exact ⟨_, s.seq s1, r1⟩
  have hl : (enumL items).length = items.length := by simp [enumL]
  refine ⟨fun i F H s r hi => ?_, fun i F H s r hi => ?_, fun i F H x H' s r y d hd => ?_⟩
  · obtain ⟨vs, h, rl⟩ := sq s r
    rw [hl] at hi
    obtain ⟨v, e, _⟩ := rl.get (List.getElem?_eq_getElem hi)
    exact ⟨vs, v, h, e⟩
  · obtain ⟨vs, h, rl⟩ := sq s r
    exact ⟨vs, h, by rw [rl.len, ← hl]; exact hi⟩
  · obtain ⟨vs, h, rl⟩ := sq s r
    obtain ⟨T, z, rfl, nT, rfl, y⟩ := y
    have hi : i < items.length := by rw [← hl]; exact set_lt hd
    obtain ⟨v, e, rv⟩ := rl.get (List.getElem?_eq_getElem hi)
    rw [y vs h] at e
    cases e
    have : d = .tup [.int (i : Nat), items[i]] := by
      unfold enumL at hd
      rw [List.getElem?_map, List.getElem?_zipIdx, List.getElem?_eq_getElem hi] at hd
      simpa using hd.symm
    subst this
    exact ⟨_, Ext.new s nT, .tup upd_same (.cons (.int _) (.cons (rv.mono (same_upd (Same.refl F) (s.free nT))) .nil))⟩
def enumI (ta : TDA) : TDI := fun δ Q E => ta δ (fun as δ1 => ∃ x xs, as = [.d x] ∧ (x = .lst xs ∨ x = .ro xs) ∧ Q (enumL xs) δ1) E
theorem pid_enum {e : Expr} {ta : TDA} {p pos tpos : Pos} {elts : List Expr} {kk : Nat} (hg : Gl X "enumerate") (hm : X.mg "enumerate" = none) (ha : PA X [e] (LA X.K c W ta)) (hs : starEach [e] X.env = [(false, eval e X.env)] := by rfl) : PI X (.Tuple elts kk tpos) (.Call (.Name "enumerate" p) [e] [] pos) (LI X.K c W (enumI ta)) :=
  PI_imp (pi_enum hg hm ha hs) fun σ H R ⟨δ, tmp, Qd, Ed, S, q, k, w⟩ => ⟨δ, tmp, _, _, S, q, fun vs as δ' F ow H' ⟨x, xs, e, hx, q'⟩ S' ra => by
    subst e
    cases ra with
    | d h t =>
      cases t
      have h0 := h
      rcases hx with rfl | rfl
      · cases h with | lst s1 r1 => exact ⟨_, _, rfl, S'.fh.seq (SqL.of s1), k _ _ _ _ _ _ q' (serve_enum (.inl rfl)) ⟨F, ow, S'.push h0⟩⟩
      · cases h with | ro s1 r1 => exact ⟨_, _, rfl, S'.fh.seq s1, k _ _ _ _ _ _ q' (serve_enum (.inr rfl)) ⟨F, ow, S'.push h0⟩⟩, w⟩
/-! ### slices -/
abbrev TDO := DSt → (Option Int → DSt → Prop) → XD → Prop
def LO (K : PySem.W.Frag) (c : Fc) (W : WX) (t : TDO) : TO := fun σ H Q => ∃ δ tmp Qd Ed, Stt K c δ tmp σ H ∧ t δ Qd Ed ∧ (∀ i δ' H', Qd i δ' → Stt K c δ' tmp σ H' → Q i H') ∧ WD K c W tmp Ed
theorem PO_imp {e : Option Expr} {t t' : TO} (h : PO X e t) (f : ∀ σ H Q, t' σ H Q → t σ H Q) : PO X e t' := ⟨fun pins s σ H Q I q => h.run pins s σ H Q I (f _ _ _ q)⟩
def noneO : TDO := fun δ Q _ => Q none δ
def someO (t : TD) : TDO := fun δ Q E => t δ (fun x δ1 => ∃ i, x.toD = .int i ∧ Q (some i) δ1) E
theorem pod_none : PO X none (LO X.K c W noneO) := PO_imp po_none fun σ H Q ⟨δ, tmp, Qd, Ed, S, q, k, w⟩ => k _ _ _ q S
theorem pod_some {e : Expr} {t : TD} (he : PE X e (LE X.K c W t)) : PO X (some e) (LO X.K c W (someO t)) := PO_imp (po_some he) fun σ H Q ⟨δ, tmp, Qd, Ed, S, q, k, w⟩ =>
  ⟨δ, tmp, _, Ed, S, q, fun v x δ' H' ⟨i, e, q'⟩ ⟨F, ow, S'⟩ => by
    obtain ⟨F2, S2, _⟩ := S'.top_frz
    rw [e] at S2
    cases S2.top
    exact ⟨i, rfl, k _ _ _ q' ⟨F2, ow, S2.pop⟩⟩, w⟩
abbrev RDS := D → Option Int → Option Int → (DV → Prop) → Prop
def SlD (K : PySem.W.Frag) (r : V → Option Int → Option Int → Hp → VK → Prop) (rd : RDS) : Prop := ∀ x a lo hi F H Q Qd, Same F H → Rep K F x a → rd a lo hi Qd → (∀ v dv F' H', Qd dv → Made K F H F' H' v dv → Q v H') → r x lo hi H Q
def sliceD (rd : RDS) (t : TD) (tl th : TDO) : TD := fun δ Q E => t δ (fun x δ1 => tl δ1 (fun l δ2 => th δ2 (fun h δ3 => rd x.toD l h fun z => Q z δ3) E) E) E
theorem pd_sliceR {e : Expr} {lo hi : Option Expr} {r : V → Option Int → Option Int → Hp → VK → Prop} {rd : RDS} {t : TD} {tl th : TDO} {p2 pos : Pos} (hr : SlR X r) (hd : SlD X.K r rd) (he : PE X e (LE X.K c W t)) (hl : PO X lo (LO X.K c W tl)) (hh : PO X hi (LO X.K c W th)) :
    PE X (.Subscript e (.Slice lo hi none p2) pos) (LE X.K c W (sliceD rd t tl th)) := PE_imp (pe_slice hr he hl hh) fun σ H Q ⟨δ, tmp, Qd, Ed, S, q, k, w⟩ =>
  ⟨δ, tmp, _, Ed, S, q, fun v x δ1 H1 q1 S1 => ⟨δ1, _, _, Ed, S1, q1, fun l δ2 H2 q2 S2 => ⟨δ2, _, _, Ed, S2, q2, fun h δ3 H3 q3 ⟨F, ow, S3⟩ => by
    obtain ⟨F2, S4, _⟩ := S3.top_frz
    exact hd v _ l h F2 H3 Q _ S4.fh S4.top q3 fun u dv F5 H5 q5 m => k _ _ _ _ q5 (m.stt S4.pop), w.push⟩, w.push⟩, w⟩
abbrev sliceL : RDS := fun a lo hi Q => ∃ xs, (a = .lst xs ∨ a = .ro xs) ∧ Q (.own (.lst (cutD xs lo hi)))
theorem sld_list {K : PySem.W.Frag} : SlD K (rSlL K) sliceL := fun x a lo hi F H Q Qd s r ⟨xs, e, q⟩ k => by
  rcases e with rfl | rfl
  · cases r with | lst s1 r1 => exact ⟨_, _, rfl, s.seq (SqL.of s1), fun p n => k _ _ _ _ q (made_list n s (r1.cut lo hi))⟩
  · cases r with | ro s1 r1 => exact ⟨_, _, rfl, s.seq s1, fun p n => k _ _ _ _ q (made_list n s (r1.cut lo hi))⟩
theorem pd_slice {e : Expr} {lo hi : Option Expr} {t : TD} {tl th : TDO} {p2 pos : Pos} (he : PE X e (LE X.K c W t)) (hl : PO X lo (LO X.K c W tl)) (hh : PO X hi (LO X.K c W th)) : PE X (.Subscript e (.Slice lo hi none p2) pos) (LE X.K c W (sliceD sliceL t tl th)) := pd_sliceR sl_list sld_list he hl hh
/-! ### dicts by tuples of ints and texts -/
/-- a tuple of ints and texts as a key -/
def keyD : List Key → D := fun ks => .tup (ks.map fun | .inl i => .int i | .inr x => .str x)
theorem keyD_V {K : PySem.W.Frag} {F H : Hp} {v : V} {ks : List Key} (s : Same F H) (r : Rep K F v (keyD ks)) : ∃ b, v = .ref b ∧ H b = some (.tup (ks.map kV)) := by
  unfold keyD at r
  cases r with
  | tup s1 r1 =>
    refine ⟨_, rfl, ?_⟩
    rw [s _ _ s1]
    congr 2
    exact repL_map (f := kV) (fun {F v a} r => by cases a <;> (cases r; rfl)) r1
def valD (kvs : List (List Key × D)) (k : List Key) : Option D := (kvs.find? fun p => decide (p.1 = k)).map (·.2)
def putT (kvs : List (List Key × D)) (k : List Key) (d : D) : List (List Key × D) := if (valD kvs k).isSome then kvs.map (fun p => if p.1 = k then (p.1, d) else p) else kvs ++ [(k, d)]
end
end DL

set_option Elab.async false
set_option linter.all false
set_option maxRecDepth 100000
/-! readings step by step -/
namespace DR
open PySem PySem.Spec PyProof.Rows L2 DL
section
variable {δ : DSt} {Q : DK} {E : XD} {D : EndsD}
theorem seq {t u : TDS} (h : t { D with nx := u D } δ) : seqD t u D δ := h
theorem next (h : D.nx δ) : nextD D δ := h
theorem drop {t : TD} (h : t δ (fun _ δ1 => D.nx δ1) D.ex) : dropD t D δ := h
theorem ret {t : TD} (h : t δ D.rt D.ex) : retD t D δ := h
theorem set {i : Nat} {t : TD} (h : t δ (fun x δ1 => D.nx (δ1.set i (some (.d x.toD)))) D.ex) : setD i t D δ := h
theorem setO {i : Nat} {t : TD} (h : t δ (fun x δ1 => D.nx (δ1.set i (some x))) D.ex) : DL.setO i t D δ := h
theorem setLc {i : Nat} {o : Bool} {t : TD} (h : t δ (fun x δ1 => D.nx (δ1.set i (some (asD o x)))) D.ex) : setLcD i o t D δ := h
theorem par {i j : Nat} {oi oj : Bool} {t : TDK} (h : t δ (fun xs δ1 => ∃ x y, xs = [x, y] ∧ D.nx ((δ1.set j (some (asD oj y))).set i (some (asD oi x)))) D.ex) : parD i j oi oj t D δ := h
theorem unpack {t : TD} {g : TDG} (h : t δ (fun x δ1 => g x.toD δ1 D.nx) D.ex) : unpackD t g D δ := h
theorem nilk {Q : List DV → DSt → Prop} (h : Q [] δ) : nilK δ Q E := h
theorem consk {t : TD} {r : TDK} {Q : List DV → DSt → Prop} (h : t δ (fun x δ1 => r δ1 (fun xs δ2 => Q (x :: xs) δ2) E) E) : consK t r δ Q E := h
theorem if_ {c : TDT} {t u : TDS} (h : c δ (fun b δ1 => if b = true then t D δ1 else u D δ1) D.ex) : ifD c t u D δ := h
theorem ifE {c : TDT} {t u : TD} (h : c δ (fun b δ1 => if b = true then t δ1 Q E else u δ1 Q E) E) : ifExpD c t u δ Q E := h
theorem not {t : TDT} {Q : Bool → DSt → Prop} (h : t δ (fun b δ1 => Q (!b) δ1) E) : notD t δ Q E := h
theorem and {t u : TDT} {Q : Bool → DSt → Prop} (h : t δ (fun b δ1 => if b = true then u δ1 Q E else Q false δ1) E) : andD t u δ Q E := h
theorem or {t u : TDT} {Q : Bool → DSt → Prop} (h : t δ (fun b δ1 => if b = true then Q true δ1 else u δ1 Q E) E) : orD t u δ Q E := h
theorem tv {t : TD} {Q : Bool → DSt → Prop} (h : t δ (fun x δ1 => ∃ b, x = .d (.bl b) ∧ Q b δ1) E) : tvD t δ Q E := h
theorem notv {t : TD} (h : t δ (fun x δ1 => ∃ b, x = .d (.bl b) ∧ Q (.d (.bl (!b))) δ1) E) : notV t δ Q E := h
theorem andv {t u : TD} (h : t δ (fun x δ1 => ∃ b, x = .d (.bl b) ∧ if b = true then u δ1 Q E else Q (.d (.bl false)) δ1) E) : andV t u δ Q E := h
theorem orv {t u : TD} (h : t δ (fun x δ1 => ∃ b, x = .d (.bl b) ∧ if b = true then Q (.d (.bl true)) δ1 else u δ1 Q E) E) : orV t u δ Q E := h
theorem const {d : DL.D} (h : Q (.d d) δ) : constD d δ Q E := h
theorem var {i : Nat} {x : DL.D} (e : δ[i]? = some (some (.d x))) (h : Q (.d x) δ) : varD i δ Q E := ⟨x, e, h⟩
theorem fvar {i : Nat} {x : DV} (e : δ[i]? = some (some x)) (h : Q (.d x.toD) (δ.set i (some (.d x.toD)))) : fvarD i δ Q E := ⟨x, e, h⟩
theorem mvar {i : Nat} {x : DV} (e : δ[i]? = some (some x)) (h : Q x (δ.set i none)) : mvarD i δ Q E := ⟨x, e, h⟩
theorem op {rd : RD2} {ta tb : TD} (h : ta δ (fun x δ1 => tb δ1 (fun y δ2 => rd x.toD y.toD fun z => Q z δ2) E) E) : opD rd ta tb δ Q E := h
theorem chain {rd rd' : RD2} {ta tb tc : TD} (h : ta δ (fun x δ1 => tb δ1 (fun y δ2 => rd x.toD y.toD fun z => ∃ k, z = .d (.bl k) ∧ if k = true then tc δ2 (fun w δ3 => rd' y.toD w.toD fun z' => Q z' δ3) E else Q (.d (.bl false)) δ2) E) E) : chainD rd rd' ta tb tc δ Q E := h
theorem neg {t : TD} (h : t δ (fun x δ1 => ∃ i, x.toD = .int i ∧ Q (.d (.int (-i))) δ1) E) : negD t δ Q E := h
theorem nil {Q : List AV → DSt → Prop} (h : Q [] δ) : nilD δ Q E := h
theorem cons {t : TD} {r : TDA} {Q : List AV → DSt → Prop} (h : t δ (fun x δ1 => r δ1 (fun as δ2 => Q (.d x.toD :: as) δ2) E) E) : consD t r δ Q E := h
theorem consO {i : Nat} {r : TDA} {Q : List AV → DSt → Prop} (h : r δ (fun as δ2 => Q (.o i :: as) δ2) E) : DL.consO i r δ Q E := h
theorem call {sd : SpD} {ta : TDA} (h : ta δ (fun as δ1 => ∃ xs, argsOf δ1 as xs ∧ (slotsOf as).Nodup ∧ sd xs (fun r os => Q r (putBack δ1 (slotsOf as) os)) (fun x os => E x (putBack δ1 (slotsOf as) os))) E) : callD sd ta δ Q E := h
theorem built {rd : RDN} {ta : TDA} (h : ta δ (fun as δ1 => ∃ ds, as = ds.map .d ∧ rd ds fun z => Q z δ1) E) : builtD rd ta δ Q E := h
theorem builtO {i : Nat} {rd : RDNs} {xs : List DL.D} (e : δ[i]? = some (some (.own (.lst xs)))) (h : rd [.lst xs] fun z => NoStr z ∧ Q (.d z) δ) : DL.builtO i rd δ Q E := ⟨xs, e, h⟩
theorem tup {ta : TDA} (h : ta δ (fun as δ1 => ∃ ds, as = ds.map .d ∧ ds.length ≤ sizeLine ∧ Q (.d (.tup ds)) δ1) E) : tupD ta δ Q E := h
theorem lst {ta : TDA} (h : ta δ (fun as δ1 => ∃ ds, as = ds.map .d ∧ ds.length ≤ sizeLine ∧ Q (.own (.lst ds)) δ1) E) : lstD ta δ Q E := h
theorem ixo {i : Nat} {t : TD} {o : OC} (e : δ[i]? = some (some (.own o))) (h : t δ (fun k δ1 => ∃ xs j d, δ1[i]? = some (some (.own (.lst xs))) ∧ k.toD = .int j ∧ atI xs j = some d ∧ Q (.d d) δ1) E) : ixO i t δ Q E := ⟨o, e, h⟩
theorem setItem {j : Nat} {ti te : TD} {o : OC} (e : δ[j]? = some (some (.own o))) (h : te δ (fun y δ1 => ti δ1 (fun k δ2 => ∃ xs n m, δ2[j]? = some (some (.own (.lst xs))) ∧ k.toD = .int n ∧ ixN xs.length n = some m ∧ D.nx (δ2.set j (some (.own (.lst (xs.set m y.toD)))))) D.ex) D.ex) : DL.setItem j ti te D δ := ⟨o, e, h⟩
theorem meth {j : Nat} {rd : RDM} {ta : TDA} {x0 : List DL.D} (e : δ[j]? = some (some (.own (.lst x0)))) (h : ta δ (fun as δ1 => ∃ ds xs, as = ds.map .d ∧ δ1[j]? = some (some (.own (.lst xs))) ∧ rd xs ds fun z zs => Q (.d z) (δ1.set j (some (.own (.lst zs))))) E) : methO j rd ta δ Q E := ⟨x0, e, h⟩
theorem fld {C : Addr} {f : Str} {t : TD} (h : t δ (fun o δ1 => ∃ fs d, o.toD = .obj C fs ∧ fs.lookup f = some d ∧ Q (.d d) δ1) E) : fldD C f t δ Q E := h
theorem fldo {C : Addr} {i : Nat} {f : Str} {fs : List (Str × DL.D)} {d : DL.D} (e : δ[i]? = some (some (.own (.ins C fs)))) (l : fs.lookup f = some d) (h : Q (.d d) δ) : fldO C i f δ Q E := ⟨fs, d, e, l, h⟩
theorem fldset {C : Addr} {i : Nat} {f : Str} {t : TD} (h : t δ (fun y δ1 => ∃ fs, δ1[i]? = some (some (.own (.ins C fs))) ∧ fs.length < 1000 ∧ D.nx (δ1.set i (some (.own (.ins C (putD f y.toD fs)))))) D.ex) : fldSet C i f t D δ := h
theorem methd {C : Addr} {m : Str} {sd : SpD} {to : TD} {ta : TDA} (h : to δ (fun o δ1 => ∃ fs, o.toD = .obj C fs ∧ fs.lookup m = none ∧ ta δ1 (fun as δ2 => ∃ xs, argsOf δ2 as xs ∧ (slotsOf as).Nodup ∧
  sd (.d (.obj C fs) :: xs) (fun r os => Q r (putBack δ2 (slotsOf as) os)) (fun x os => E x (putBack δ2 (slotsOf as) os))) E) E) : methD C m sd to ta δ Q E := h
theorem for_ {ti : TDI} {g : TDG} {tb : TDS} (h : ti δ (fun xs δ1 => forD g tb D xs δ1) D.ex) : forS ti g tb D δ := h
theorem comp {ti : TDI} {g : TDG} {tt : TDT} {te : TD} {vs : List Nat} (h : ti δ (fun xs δ1 => lcD g tt te vs xs [] (wipeD δ1 vs) fun acc δ2 => Q (.own (.lst acc)) δ2) E) : compD ti g tt te vs δ Q E := h
theorem yes {Q : Bool → DSt → Prop} (h : Q true δ) : yesD δ Q E := h
theorem nameg {i : Nat} {x : DL.D} {Q : DSt → Prop} (h : Q (δ.set i (some (.d x)))) : nameG i x δ Q := h
theorem tupg {is : List Nat} {xs : List DL.D} {Q : DSt → Prop} (h : namesG is xs δ Q) : tupG is (.tup xs) δ Q := ⟨xs, rfl, h⟩
theorem namesC {i : Nat} {is : List Nat} {x : DL.D} {xs : List DL.D} {Q : DSt → Prop} (h : namesG is xs (δ.set i (some (.d x))) Q) : namesG (i :: is) (x :: xs) δ Q := h
theorem namesN {Q : DSt → Prop} (h : Q δ) : namesG [] [] δ Q := h
theorem listi {t : TD} {Q : List DL.D → DSt → Prop} (h : t δ (fun x δ1 => ∃ xs, (x.toD = .lst xs ∨ x.toD = .ro xs) ∧ Q xs δ1) E) : listI t δ Q E := h
theorem tupi {t : TD} {Q : List DL.D → DSt → Prop} (h : t δ (fun x δ1 => ∃ xs, x.toD = .tup xs ∧ Q xs δ1) E) : tupI t δ Q E := h
theorem stri {t : TD} {Q : List DL.D → DSt → Prop} (h : t δ (fun x δ1 => ∃ z, x.toD = .str z ∧ Q (z.cps.toList.map fun ch => .str ⟨#[ch]⟩) δ1) E) : strI t δ Q E := h
theorem range1 {ta : TDA} {Q : List DL.D → DSt → Prop} (h : ta δ (fun as δ1 => ∃ j, as = [.d (.int j)] ∧ -(2 ^ 62) ≤ j ∧ j < 2 ^ 62 ∧ Q (upto 0 j.toNat) δ1) E) : range1I ta δ Q E := h
theorem iteT {A B : Prop} (h : A) : if true = true then A else B := h
theorem iteF {A B : Prop} (h : B) : if false = true then A else B := h
theorem nit {A B : Prop} (h : B) : if (!true) = true then A else B := h
theorem nif {A B : Prop} (h : A) : if (!false) = true then A else B := h
/-- an open test -/
theorem split {p : Prop} [Decidable p] {A B : Prop} (h1 : p → A) (h2 : ¬ p → B) : if decide p = true then A else B := by
  by_cases h : p
  · rw [if_pos (decide_eq_true h)]; exact h1 h
  · rw [if_neg (by rw [decide_eq_false h]; exact Bool.false_ne_true)]; exact h2 h
theorem splitN {p : Prop} [Decidable p] {A B : Prop} (h1 : p → B) (h2 : ¬ p → A) : if (!decide p) = true then A else B := by
  by_cases h : p
  · rw [if_neg (by rw [decide_eq_true h]; exact Bool.false_ne_true)]; exact h1 h
  · rw [if_pos (by rw [decide_eq_false h]; rfl)]; exact h2 h
theorem splitB {b : Bool} {A B : Prop} (h1 : b = true → A) (h2 : b = false → B) : if b = true then A else B := by
  cases b
  · exact h2 rfl
  · exact h1 rfl
end
theorem args_n {δ : DSt} : argsOf δ [] [] := rfl
theorem args_d {δ : DSt} {x : DL.D} {r : List AV} {t : List DV} (h : argsOf δ r t) : argsOf δ (.d x :: r) (.d x :: t) := ⟨t, rfl, h⟩
theorem args_o {δ : DSt} {i : Nat} {o : OC} {r : List AV} {t : List DV} (e : δ[i]? = some (some (.own o))) (h : argsOf δ r t) : argsOf δ (.o i :: r) (.own o :: t) := ⟨o, t, e, rfl, h⟩
theorem nost_i {i : Int} : NoStr (.int i) := fun _ e => nomatch e
theorem nost_b {b : Bool} : NoStr (.bl b) := fun _ e => nomatch e
theorem start {t : TDS} {D : EndsD} {δ δ' : DSt} (e : δ = δ') (h : t D δ') : t D δ := by rw [e]; exact h
theorem tk_n {δ : DSt} : takeB δ [] [] := rfl
theorem tk_c {δ : DSt} {i : Nat} {is : List Nat} {o : OC} {os : List OC} (e : δ[i]? = some (some (.own o))) (h : takeB δ is os) : takeB δ (i :: is) (o :: os) := ⟨o, os, rfl, e, h⟩
theorem rt {sl : List Nat} {Qd : DV → List OC → Prop} {Ed : Ex → List OC → Prop} {x : DV} {δ : DSt} {os : List OC} (t : takeB δ sl os) (q : Qd x os) : (endsD sl Qd Ed).rt x δ := ⟨os, t, q⟩
theorem nx {sl : List Nat} {Qd : DV → List OC → Prop} {Ed : Ex → List OC → Prop} {δ : DSt} {os : List OC} (t : takeB δ sl os) (q : Qd (.d .non) os) : (endsD sl Qd Ed).nx δ := ⟨os, t, q⟩
end DR
namespace DL
open PySem PySem.Spec PyProof.Rows L2
/-- a def as its callers know it -/
structure DefD (P : Program) (w : World) (K : PySem.W.Frag) (mg : Str → Option Value) (base : Heap) (x : Str) (k : Nat) (ps : List Str) (sd : SpD) where
  f : Addr
  fd : FuncData
  ok : FnOk P w K mg base (L2.CX P w) k f fd ps (spOf K sd)
  mg : mg x = some (.ref f)
  kp : PySem.W.keepIn K (.ref f) = true
  b : Binds K fd ps []
end DL

set_option Elab.async false
set_option linter.all false
set_option maxRecDepth 100000
namespace DL
open PySem PySem.Spec PyProof.Rows L2
/-! ### dicts by tuples -/
section
variable {K : PySem.W.Frag} {F H : Hp}
theorem repT_get {k : List Key} : ∀ {vs : List (List Key × V)} {ds : List (List Key × D)}, RepT K F vs ds → (valD ds k = none → valV vs k = none) ∧ ∀ d, valD ds k = some d → ∃ v, valV vs k = some v ∧ Rep K F v d
  | _, _, .nil => ⟨fun _ => rfl, fun d h => nomatch h⟩
  | _, _, .cons (n := n) (v := v) (d := d) (vs := vs) (ds := ds) h t => by
    by_cases e : n = k
    · have e1 : valD ((n, d) :: ds) k = some d := by simp [valD, List.find?_cons, e]
      rw [e1, valV_pos (p := (n, v)) e]
      exact ⟨(fun z => nomatch z), fun d z => by cases z; exact ⟨v, rfl, h⟩⟩
    · have e1 : valD ((n, d) :: ds) k = valD ds k := by simp [valD, List.find?_cons, e]
      rw [e1, valV_neg (p := (n, v)) e]
      exact repT_get t
theorem repT_some {k : List Key} {vs : List (List Key × V)} {ds : List (List Key × D)} (r : RepT K F vs ds) : (valV vs k).isSome = (valD ds k).isSome := by
  cases q : valD ds k with
  | none => rw [(repT_get r).1 q]; rfl
  | some d => obtain ⟨v, e, _⟩ := (repT_get r).2 d q; rw [e]; rfl
theorem repT_len : ∀ {vs : List (List Key × V)} {ds : List (List Key × D)}, RepT K F vs ds → vs.length = ds.length
  | _, _, .nil => rfl
  | _, _, .cons _ t => congrArg (· + 1) (repT_len t)
theorem repT_map {k : List Key} {v : V} {d : D} (h : Rep K F v d) : ∀ {vs : List (List Key × V)} {ds : List (List Key × D)}, RepT K F vs ds → RepT K F (vs.map fun kv => if kv.1 = k then (kv.1, v) else kv) (ds.map fun p => if p.1 = k then (p.1, d) else p)
  | _, _, .nil => .nil
  | _, _, .cons (n := n) a t => by
    rw [List.map_cons, List.map_cons]
    by_cases e : n = k
    · rw [if_pos (show (n, _).1 = k from e), if_pos (show (n, _).1 = k from e)]; exact .cons h (repT_map h t)
    · rw [if_neg (show ¬ (n, _).1 = k from e), if_neg (show ¬ (n, _).1 = k from e)]; exact .cons a (repT_map h t)
theorem repT_app {k : List Key} {v : V} {d : D} (h : Rep K F v d) : ∀ {vs : List (List Key × V)} {ds : List (List Key × D)}, RepT K F vs ds → RepT K F (vs ++ [(k, v)]) (ds ++ [(k, d)])
  | _, _, .nil => .cons h .nil
  | _, _, .cons a t => .cons a (repT_app h t)
theorem repT_put {k : List Key} {v : V} {d : D} {vs : List (List Key × V)} {ds : List (List Key × D)} (h : Rep K F v d) (r : RepT K F vs ds) : RepT K F (putK vs k v) (putT ds k d) := by
  unfold putK putT
  rw [valV_any, repT_some r]
  cases (valD ds k).isSome
  · rw [if_neg Bool.false_ne_true, if_neg Bool.false_ne_true]; exact repT_app h r
  · rw [if_pos rfl, if_pos rfl]; exact repT_map h r
end
section
variable {X : Cx} {c : Fc} {W : WX}
def newTD : TD := fun δ Q _ => Q (.own (.dT [])) δ
theorem pd_newT {e : Expr} (h : PE X e tDNewT) : PE X e (LE X.K c W newTD) := PE_imp h fun σ H Q ⟨δ, tmp, Qd, Ed, ⟨F, ow, S⟩, q, k, w⟩ => fun p n =>
  k _ _ _ _ q ⟨F, _, S.pushNew (o := .dT []) n ⟨[], upd_same, .nil⟩⟩
def getO (j : Nat) (ti : TD) : TD := fun δ Q E => ∃ o, δ[j]? = some (some (.own o)) ∧ ti δ (fun k δ1 => ∃ kvs ks d, δ1[j]? = some (some (.own (.dT kvs))) ∧ k.toD = keyD ks ∧ valD kvs ks = some d ∧ Q (.d d) δ1) E
theorem pd_getO {j : Nat} {x : Str} {i : Expr} {ti : TD} {pos px : Pos} (h : ∀ {to ti : TE}, PE X (.Name x px) to → PE X i ti → PE X (.Subscript (.Name x px) i pos) (tDGet to ti)) (hv : PE X (.Name x px) (tVar j)) (hi : PE X i (LE X.K c W ti)) : PE X (.Subscript (.Name x px) i pos) (LE X.K c W (getO j ti)) :=
  PE_imp (h hv hi) fun σ H Q ⟨δ, tmp, Qd, Ed, ⟨F, ow, S⟩, ⟨o, eo, q⟩, k, w⟩ => by
    obtain ⟨v, e1, p, rfl, _⟩ := S.sl _ _ eo
    refine ⟨_, e1, δ, tmp, _, Ed, ⟨F, ow, S⟩, q, fun u y δ1 H1 ⟨kvs, ks, d, ej, ek, ed, q1⟩ ⟨F1, ow1, S1⟩ => ?_, w⟩
    obtain ⟨F2, S2, _⟩ := S1.top_frz
    obtain ⟨v', e2, p', rfl, _, _, _, vs, ep, r⟩ := S2.sl _ _ ej
    rw [e1] at e2
    cases e2
    rw [ek] at S2
    obtain ⟨b, rfl, eb⟩ := keyD_V S2.fh S2.top
    obtain ⟨z, ez, rz⟩ := (repT_get r).2 d ed
    refine ⟨p, z, rfl, ?_, k _ _ _ _ q1 ⟨F2, ow1, S2.pop.push rz⟩⟩
    rw [← ez]
    exact DGet.t ep eb
def getF (to ti : TD) : TD := fun δ Q E => to δ (fun o δ1 => ti δ1 (fun k δ2 => ∃ kvs ks d, o.toD = .dT kvs ∧ k.toD = keyD ks ∧ valD kvs ks = some d ∧ Q (.d d) δ2) E) E
theorem pd_get {o i : Expr} {to ti : TD} {pos : Pos} (h : ∀ {to ti : TE}, PE X o to → PE X i ti → PE X (.Subscript o i pos) (tDGet to ti)) (ho : PE X o (LE X.K c W to)) (hi : PE X i (LE X.K c W ti)) : PE X (.Subscript o i pos) (LE X.K c W (getF to ti)) :=
  PE_imp (h ho hi) fun σ H Q ⟨δ, tmp, Qd, Ed, S, q, k, w⟩ => ⟨δ, tmp, _, Ed, S, q, fun u x δ1 H1 q1 S1 => ⟨δ1, _, _, Ed, S1, q1, fun t y δ2 H2 ⟨kvs, ks, d, eo, ek, ed, q2⟩ ⟨F, ow, S2⟩ => by
    obtain ⟨F3, S3, _⟩ := S2.top_frz2
    rw [eo, ek] at S3
    obtain ⟨b, rfl, eb⟩ := keyD_V S3.fh S3.top
    have r0 := S3.pop.top
    cases r0 with
    | dT s r =>
      obtain ⟨z, ez, rz⟩ := (repT_get r).2 d ed
      exact ⟨_, z, rfl, .inr ⟨_, ks, b, rd_mono S3.fh s, rfl, eb, ez.symm⟩, k _ _ _ _ q2 ⟨F3, ow, S3.pop.pop.push rz⟩⟩, w.push⟩, w⟩
def putS (j : Nat) (te ti : TD) : TDS := fun D δ => te δ (fun v δ1 => (∃ o, δ1[j]? = some (some (.own o))) ∧ ti δ1 (fun k δ2 => ∃ kvs ks, δ2[j]? = some (some (.own (.dT kvs))) ∧ k.toD = keyD ks ∧ kvs.length < sizeLine ∧ D.nx (δ2.set j (some (.own (.dT (putT kvs ks v.toD)))))) D.ex) D.ex
theorem psd_put {j : Nat} {x : Str} {i e : Expr} {te ti : TD} {A : Prop} {pos pos' px : Pos} (hu : A) (h : ∀ {to ti tv : TE}, PE X (.Name x px) to → PE X i ti → PE X e tv → PS X (.Assign [.Subscript (.Name x px) i pos'] e pos) (sDPut to ti tv)) (hv : PE X (.Name x px) (tVar j)) (he : PE X e (LE X.K c W te)) (hi : PE X i (LE X.K c W ti)) :
    PS X (.Assign [.Subscript (.Name x px) i pos'] e pos) (LS X.K c W (putS j te ti)) :=
  PS_imp (h hv hi he) fun D σ H ⟨δ, tmp, Dd, S, q, k, kr, kb, kc, w⟩ => ⟨δ, tmp, _, _, S, q, fun u y δ1 H1 ⟨⟨o, eo⟩, q1⟩ ⟨F1, ow1, S1⟩ => by
    obtain ⟨F2, S2, _⟩ := S1.top_frz
    obtain ⟨v, e1, p, rfl, _⟩ := S2.sl _ _ eo
    refine ⟨_, e1, δ1, _, _, _, ⟨F2, ow1, S2⟩, q1, fun t z δ2 H2 ⟨kvs, ks, ej, ek, hl, q2⟩ ⟨F3, ow3, S3⟩ => ?_, w.push⟩
    obtain ⟨F4, S4, _⟩ := S3.top_frz
    rw [ek] at S4
    obtain ⟨b, rfl, eb⟩ := keyD_V S4.fh S4.top
    obtain ⟨v', e2, p', rfl, _, _, _, vs, ep, r⟩ := S4.sl _ _ ej
    rw [e1] at e2
    cases e2
    refine ⟨p, _, rfl, DPut.t ep eb (by rw [repT_len r]; exact hl), k _ _ _ q2 ⟨F4, ow3, ?_⟩⟩
    exact (S4.pop.write (o' := .dT (putT kvs ks y.toD)) ej e1 ⟨_, upd_same, repT_put S4.pop.top r⟩).pop, w⟩
def inO (j : Nat) (n : Bool) (ti : TD) : TD := fun δ Q E => ti δ (fun k δ1 => ∃ kvs ks, δ1[j]? = some (some (.own (.dT kvs))) ∧ k.toD = keyD ks ∧ Q (.d (.bl (n != (valD kvs ks).isSome))) δ1) E
theorem dget_o {K : PySem.W.Frag} {F H : Hp} {p b : Addr} {ks : List Key} {vs : List (List Key × V)} {ds : List (List Key × D)} (r : RepT K F vs ds) (ep : Rd H p (.dT vs)) (eb : H b = some (.tup (ks.map kV))) : ∃ o, DGet H p (.ref b) o ∧ o.isSome = (valD ds ks).isSome :=
  ⟨_, .inr ⟨vs, ks, b, ep, rfl, eb, rfl⟩, repT_some r⟩
theorem inO_run {K : PySem.W.Frag} {j : Nat} {n : Bool} {ti : TD} {f : Bool → Bool} (hf : ∀ b, f b = (n != b)) : ∀ σ H Q, LE K c W (inO j n ti) σ H Q → (LE K c W ti) σ H fun y H1 => tVar j σ H1 fun x H2 => ∃ a o, x = .ref a ∧ DGet H2 a y o ∧ Q (.bl (f o.isSome)) H2 := fun σ H Q ⟨δ, tmp, Qd, Ed, S, q, k, w⟩ =>
  ⟨δ, tmp, _, Ed, S, q, fun u y δ1 H1 ⟨kvs, ks, ej, ek, q1⟩ ⟨F1, ow1, S1⟩ => by
    obtain ⟨F2, S2, _⟩ := S1.top_frz
    rw [ek] at S2
    obtain ⟨b, rfl, eb⟩ := keyD_V S2.fh S2.top
    obtain ⟨v', e2, p', rfl, _, _, _, vs, ep, r⟩ := S2.sl _ _ ej
    obtain ⟨o, g, eo⟩ := dget_o r (.inl ep) eb
    exact ⟨_, e2, p', o, rfl, g, k _ _ _ _ (by rw [hf, eo]; exact q1) ⟨F2, ow1, S2.pop.push (.bl _)⟩⟩, w⟩
theorem ptd_inO_t {j : Nat} {x : Str} {i : Expr} {ti : TD} {pos px : Pos} (h : ∀ {ty td : TE}, PE X i ty → PE X (.Name x px) td → PT X (.Compare i [.In] [.Name x px] pos) (tB (tDIn ty td))) (hi : PE X i (LE X.K c W ti)) (hv : PE X (.Name x px) (tVar j)) : PT X (.Compare i [.In] [.Name x px] pos) (LT X.K c W (tvD (inO j false ti))) :=
  PT_imp (h hi hv) fun σ H Q ⟨δ, tmp, Qd, Ed, S, q, k, w⟩ => inO_run (j := j) (n := false) (ti := ti) (f := id) (fun b => by cases b <;> rfl) σ H (fun v H1 => ∃ b, v = .bl b ∧ Q b H1) ⟨δ, tmp, (fun x δ1 => ∃ b, x = .d (.bl b) ∧ Qd b δ1), Ed, S, q, fun v x δ' H' ⟨b, e, q'⟩ ⟨F, ow, S'⟩ => by
    subst e
    cases S'.top
    exact ⟨b, rfl, k _ _ _ q' ⟨F, ow, S'.pop⟩⟩, w⟩
theorem ptd_inO_f {j : Nat} {x : Str} {i : Expr} {ti : TD} {pos px : Pos} (h : ∀ {ty td : TE}, PE X i ty → PE X (.Name x px) td → PT X (.Compare i [.NotIn] [.Name x px] pos) (tB (tDNotIn ty td))) (hi : PE X i (LE X.K c W ti)) (hv : PE X (.Name x px) (tVar j)) : PT X (.Compare i [.NotIn] [.Name x px] pos) (LT X.K c W (tvD (inO j true ti))) :=
  PT_imp (h hi hv) fun σ H Q ⟨δ, tmp, Qd, Ed, S, q, k, w⟩ => inO_run (j := j) (n := true) (ti := ti) (f := fun b => !b) (fun b => by cases b <;> rfl) σ H (fun v H1 => ∃ b, v = .bl b ∧ Q b H1) ⟨δ, tmp, (fun x δ1 => ∃ b, x = .d (.bl b) ∧ Qd b δ1), Ed, S, q, fun v x δ' H' ⟨b, e, q'⟩ ⟨F, ow, S'⟩ => by
    subst e
    cases S'.top
    exact ⟨b, rfl, k _ _ _ q' ⟨F, ow, S'.pop⟩⟩, w⟩
/-- a dict that changes no more -/
def inF (n : Bool) (ti td : TD) : TD := fun δ Q E => ti δ (fun k δ1 => td δ1 (fun o δ2 => ∃ kvs ks, o.toD = .dT kvs ∧ k.toD = keyD ks ∧ Q (.d (.bl (n != (valD kvs ks).isSome))) δ2) E) E
theorem inF_run {K : PySem.W.Frag} {n : Bool} {ti td : TD} {f : Bool → Bool} (hf : ∀ b, f b = (n != b)) : ∀ σ H Q, LE K c W (inF n ti td) σ H Q → (LE K c W ti) σ H fun y H1 => (LE K c W td) σ H1 fun x H2 => ∃ a o, x = .ref a ∧ DGet H2 a y o ∧ Q (.bl (f o.isSome)) H2 := fun σ H Q ⟨δ, tmp, Qd, Ed, S, q, k, w⟩ =>
  ⟨δ, tmp, _, Ed, S, q, fun u y δ1 H1 q1 S1 => ⟨δ1, _, _, Ed, S1, q1, fun t o δ2 H2 ⟨kvs, ks, eo, ek, q2⟩ ⟨F2, ow2, S2⟩ => by
    obtain ⟨F3, S3, _⟩ := S2.top_frz2
    rw [eo, ek] at S3
    obtain ⟨b, rfl, eb⟩ := keyD_V S3.fh S3.pop.top
    have r0 := S3.top
    cases r0 with
    | dT s r =>
      obtain ⟨ov, g, eov⟩ := dget_o r (rd_mono S3.fh s) eb
      exact ⟨_, ov, rfl, g, k _ _ _ _ (by rw [hf, eov]; exact q2) ⟨F3, ow2, S3.pop.pop.push (.bl _)⟩⟩, w.push⟩, w⟩
theorem ptd_inF_f {i o : Expr} {ti td : TD} {pos : Pos} (h : ∀ {ty td : TE}, PE X i ty → PE X o td → PT X (.Compare i [.NotIn] [o] pos) (tB (tDNotIn ty td))) (hi : PE X i (LE X.K c W ti)) (ho : PE X o (LE X.K c W td)) : PT X (.Compare i [.NotIn] [o] pos) (LT X.K c W (tvD (inF true ti td))) :=
  PT_imp (h hi ho) fun σ H Q ⟨δ, tmp, Qd, Ed, S, q, k, w⟩ => inF_run (n := true) (ti := ti) (td := td) (f := fun b => !b) (fun b => by cases b <;> rfl) σ H (fun v H1 => ∃ b, v = .bl b ∧ Q b H1) ⟨δ, tmp, (fun x δ1 => ∃ b, x = .d (.bl b) ∧ Qd b δ1), Ed, S, q, fun v x δ' H' ⟨b, e, q'⟩ ⟨F, ow, S'⟩ => by
    subst e
    cases S'.top
    exact ⟨b, rfl, k _ _ _ q' ⟨F, ow, S'.pop⟩⟩, w⟩
/-! ### a property that raises nothing -/
def propD (C : Addr) (sd : SpD) (to : TD) : TD := fun δ Q E => to δ (fun o δ1 => ∃ fs, o.toD = .obj C fs ∧ sd [.d (.obj C fs)] (fun r os => Q r δ1) (fun _ _ => False)) E
theorem pd_prop {e : Expr} {C p f0 : Addr} {f : Str} {k : Nat} {fd : FuncData} {ps : List Str} {sd : SpD} {to : TD} {pos : Pos} (he : PE X e (LE X.K c W to)) (cl : Cls X.K C) (hp : PropOf X.K C f p f0) (G : FnOk X.prog X.w X.K X.mg X.base (L2.CX X.prog X.w) k f0 fd ps (spOf X.K sd)) (hr : Room (k + 1) X.A) (hb : Binds X.K fd ps [])
    (hab : attributeBase e f X.env (eval e X.env) = eval e X.env) : PE X (.Attribute e f pos) (LE X.K c W (propD C sd to)) :=
  PE_imp (pe_prop he cl hp G hr hb .nil (passL (X := X.nox)) hab) fun σ H Q ⟨δ, tmp, Qd, Ed, S, q, k, w⟩ => ⟨δ, tmp, _, Ed, S, q, fun v o δ1 H1 ⟨fs, eo, q1⟩ ⟨F, ow, S1⟩ => by
    obtain ⟨F2, S2, _⟩ := S1.top_frz
    rw [eo] at S2
    have r0 := S2.top
    cases r0 with
    | @obj a _ dx vs _ s h =>
      exact ⟨a, dx, vs, rfl, S2.fh _ _ s, F2, _, [], _, _, S2.fh, .d S2.top .nil, q1, fun v r os F' H' q P rr => k v r _ H' q (ret_push (is := []) S2.pop rfl (fun k i p e => by simp at e) List.nodup_nil P rr), fun _ _ _ _ _ _ z _ _ => z.elim⟩, w⟩
end
end DL

set_option Elab.async false
set_option linter.all false
set_option maxRecDepth 100000
/-! loops by what stays true -/
namespace DR
open PySem PySem.Spec PyProof.Rows L2 DL
theorem cut {t u : TDS} {D : EndsD} {δ : DSt} (I : DSt → Prop) (h1 : ∀ N : DSt → Prop, (∀ δ, I δ → N δ) → t { D with nx := N } δ) (h2 : ∀ δ, I δ → u D δ) : seqD t u D δ := h1 _ h2
theorem icut {ti : TDI} {E : XD} {δ : DSt} {Q : List DL.D → DSt → Prop} (I : List DL.D → DSt → Prop) (h1 : ∀ N : List DL.D → DSt → Prop, (∀ xs δ, I xs δ → N xs δ) → ti δ N E) (h2 : ∀ xs δ, I xs δ → Q xs δ) : ti δ Q E := h1 _ h2
theorem for_inv {g : TDG} {tb : TDS} {D : EndsD} {xs : List DL.D} {δ : DSt} (I : Nat → DSt → Prop) (h0 : I 0 δ)
    (hs : ∀ i x δ (N : DSt → Prop), xs[i]? = some x → I i δ → (∀ δ', I (i + 1) δ' → N δ') → g x δ (fun δ1 => tb { D with nx := N, ct := N, bk := D.nx } δ1))
    (hn : ∀ δ, I xs.length δ → D.nx δ) : forD g tb D xs δ := by
  have go : ∀ (m i : Nat) δ, i + m = xs.length → I i δ → forD g tb D (xs.drop i) δ := fun m => by
    induction m with
    | zero =>
      intro i δ e h
      have e : i = xs.length := e
      subst e
      rw [List.drop_length]
      exact hn δ h
    | succ m ih =>
      intro i δ e h
      have hl : i < xs.length := by omega
      rw [List.drop_eq_getElem_cons hl]
      exact hs i _ δ _ (List.getElem?_eq_getElem hl) h fun δ' h' => ih (i + 1) δ' (by omega) h'
  exact go xs.length 0 δ (Nat.zero_add _) h0
theorem lc_inv {g : TDG} {tt : TDT} {te : TD} {vs : List Nat} {xs : List DL.D} {δ : DSt} {Q : List DL.D → DSt → Prop} (J : Nat → List DL.D → DSt → Prop) (h0 : J 0 [] δ)
    (hs : ∀ i x acc δ (N : List DL.D → DSt → Prop), xs[i]? = some x → J i acc δ → (∀ acc' δ', J (i + 1) acc' δ' → N acc' δ') →
      g x δ (fun δ1 => tt δ1 (fun b δ2 => if b = true then te δ2 (fun y δ3 => acc.length < sizeLine ∧ N (acc ++ [y.toD]) (wipeD δ3 vs)) noX else N acc (wipeD δ2 vs)) noX))
    (hn : ∀ acc δ, J xs.length acc δ → Q acc δ) : lcD g tt te vs xs [] δ Q := by
  have go : ∀ (m i : Nat) acc δ, i + m = xs.length → J i acc δ → lcD g tt te vs (xs.drop i) acc δ Q := fun m => by
    induction m with
    | zero =>
      intro i acc δ e h
      have e : i = xs.length := e
      subst e
      rw [List.drop_length]
      exact hn acc δ h
    | succ m ih =>
      intro i acc δ e h
      have hl : i < xs.length := by omega
      rw [List.drop_eq_getElem_cons hl]
      exact hs i _ acc δ (fun a d => lcD g tt te vs (xs.drop (i + 1)) a d Q) (List.getElem?_eq_getElem hl) h fun acc' δ' h' => ih (i + 1) acc' δ' (by omega) h'
  exact go xs.length 0 [] δ (Nat.zero_add _) h0
end DR

set_option Elab.async false
set_option linter.all false
set_option maxRecDepth 100000
namespace DR
open PySem PySem.Spec PyProof.Rows L2 DL
theorem map_at {α β : Type} {f : α → β} {l : List α} {i : Nat} {y : β} (h : (l.map f)[i]? = some y) : ∃ x, l[i]? = some x ∧ y = f x := by
  rw [List.getElem?_map] at h
  cases q : l[i]? with
  | none => rw [q] at h; cases h
  | some x => rw [q] at h; cases h; exact ⟨x, rfl, rfl⟩
theorem at_lt {α : Type} {l : List α} {i : Nat} {x : α} (h : l[i]? = some x) : i < l.length := by
  rcases Nat.lt_or_ge i l.length with h1 | h1
  · exact h1
  · rw [List.getElem?_eq_none h1] at h; cases h
/-- the items stand for others -/
theorem lc_filterM {α : Type} {g : TDG} {tt : TDT} {te : TD} {vs : List Nat} {l : List α} {r : α → DL.D} {δ : DSt} {Q : List DL.D → DSt → Prop} (f : α → Option DL.D)
    (hs : ∀ x (acc : List DL.D) (N : List DL.D → DSt → Prop), x ∈ l → acc.length < l.length → N (acc ++ (f x).toList) δ →
      g (r x) δ (fun δ1 => tt δ1 (fun b δ2 => if b = true then te δ2 (fun y δ3 => acc.length < sizeLine ∧ N (acc ++ [y.toD]) (wipeD δ3 vs)) noX else N acc (wipeD δ2 vs)) noX))
    (hn : Q (l.filterMap f) δ) : lcD g tt te vs (l.map r) [] δ Q := by
  refine lc_inv (fun i acc δ' => δ' = δ ∧ acc = (l.take i).filterMap f) ⟨rfl, by rw [List.take_zero]; rfl⟩ (fun i x acc δ' N hx ⟨e1, e2⟩ k => ?_) fun acc δ' ⟨e1, e2⟩ => by subst e1; rw [e2, List.length_map, List.take_length]; exact hn
  subst e1
  obtain ⟨x, hy, rfl⟩ := map_at hx
  have hl := at_lt hy
  have hle : acc.length ≤ i := by
    rw [e2]
    exact Nat.le_trans (List.length_filterMap_le ..) (by rw [List.length_take]; exact Nat.min_le_left ..)
  refine hs x acc N (List.mem_of_getElem? hy) (by omega) (k _ _ ⟨rfl, ?_⟩)
  rw [List.take_succ, hy, List.filterMap_append, ← e2]
  show _ = acc ++ [x].filterMap f
  cases e : f x <;> simp [e]
theorem lc_mapM {α : Type} {g : TDG} {tt : TDT} {te : TD} {vs : List Nat} {l : List α} {r : α → DL.D} {δ : DSt} {Q : List DL.D → DSt → Prop} (f : α → DL.D)
    (hs : ∀ x (acc : List DL.D) (N : List DL.D → DSt → Prop), x ∈ l → acc.length < l.length → N (acc ++ [f x]) δ →
      g (r x) δ (fun δ1 => tt δ1 (fun b δ2 => if b = true then te δ2 (fun y δ3 => acc.length < sizeLine ∧ N (acc ++ [y.toD]) (wipeD δ3 vs)) noX else N acc (wipeD δ2 vs)) noX))
    (hn : Q (l.map f) δ) : lcD g tt te vs (l.map r) [] δ Q :=
  lc_filterM (fun x => some (f x)) (fun x acc N hx hl n => hs x acc N hx hl n) (by rw [List.filterMap_eq_map']; exact hn)
end DR
namespace DR
open PySem PySem.Spec PyProof.Rows L2 DL
section
variable {δ : DSt} {Q : DK} {E : XD} {D : EndsD}
theorem newT (h : Q (.own (.dT [])) δ) : newTD δ Q E := h
theorem getO {j : Nat} {ti : TD} {o : OC} (e : δ[j]? = some (some (.own o))) (h : ti δ (fun k δ1 => ∃ kvs ks d, δ1[j]? = some (some (.own (.dT kvs))) ∧ k.toD = keyD ks ∧ valD kvs ks = some d ∧ Q (.d d) δ1) E) : DL.getO j ti δ Q E := ⟨o, e, h⟩
theorem getF {to ti : TD} (h : to δ (fun o δ1 => ti δ1 (fun k δ2 => ∃ kvs ks d, o.toD = .dT kvs ∧ k.toD = keyD ks ∧ valD kvs ks = some d ∧ Q (.d d) δ2) E) E) : DL.getF to ti δ Q E := h
theorem put {j : Nat} {te ti : TD} (h : te δ (fun v δ1 => (∃ o, δ1[j]? = some (some (.own o))) ∧ ti δ1 (fun k δ2 => ∃ kvs ks, δ2[j]? = some (some (.own (.dT kvs))) ∧ k.toD = keyD ks ∧ kvs.length < sizeLine ∧ D.nx (δ2.set j (some (.own (.dT (putT kvs ks v.toD)))))) D.ex) D.ex) : putS j te ti D δ := h
theorem inO {j : Nat} {n : Bool} {ti : TD} (h : ti δ (fun k δ1 => ∃ kvs ks, δ1[j]? = some (some (.own (.dT kvs))) ∧ k.toD = keyD ks ∧ Q (.d (.bl (n != (valD kvs ks).isSome))) δ1) E) : DL.inO j n ti δ Q E := h
theorem inF {n : Bool} {ti td : TD} (h : ti δ (fun k δ1 => td δ1 (fun o δ2 => ∃ kvs ks, o.toD = .dT kvs ∧ k.toD = keyD ks ∧ Q (.d (.bl (n != (valD kvs ks).isSome))) δ2) E) E) : DL.inF n ti td δ Q E := h
theorem prop {C : Addr} {sd : SpD} {to : TD} (h : to δ (fun o δ1 => ∃ fs, o.toD = .obj C fs ∧ sd [.d (.obj C fs)] (fun r os => Q r δ1) (fun _ _ => False)) E) : propD C sd to δ Q E := h
end
end DR
/-! own objects lent to a def that doesn't change them, for an answer without addresses -/
namespace DL
open PySem PySem.Spec PyProof.Rows L2
def Pln : D → Prop
  | .non => True
  | .bl _ => True
  | .int _ => True
  | .str _ => True
  | .ty _ => True
  | .adr _ => True
  | _ => False
def PlnV : DV → Prop
  | .d x => Pln x
  | .own (.lst ds) => ∀ d ∈ ds, Pln d
  | .own (.ins _ fs) => ∀ p ∈ fs, Pln p.2
  | .own (.dT kvs) => ∀ p ∈ kvs, Pln p.2
  | .own (.dK kvs) => ∀ p ∈ kvs, Pln p.2
  | .own (.tab _ _) => False
section
variable {K : PySem.W.Frag} {F F' F'' H H' : Hp}
theorem Pln.rep {v : V} {d : D} (p : Pln d) (r : Rep K F v d) : Rep K F' v d := by
  cases r with
  | non => exact .non
  | bl b => exact .bl b
  | int i => exact .int i
  | str k => exact .str k
  | ty n => exact .ty n
  | adr a => exact .adr a
  | _ => exact p.elim
theorem pln_l : ∀ {vs : List V} {ds : List D}, (∀ d ∈ ds, Pln d) → RepL K F vs ds → RepL K F' vs ds
  | _, _, _, .nil => .nil
  | _, _, h, .cons r t => .cons ((h _ List.mem_cons_self).rep r) (pln_l (fun d hd => h d (List.mem_cons_of_mem _ hd)) t)
theorem pln_f : ∀ {vs : List (Str × V)} {ds : List (Str × D)}, (∀ p ∈ ds, Pln p.2) → RepF K F vs ds → RepF K F' vs ds
  | _, _, _, .nil => .nil
  | _, _, h, .cons r t => .cons ((h _ List.mem_cons_self).rep r) (pln_f (fun d hd => h d (List.mem_cons_of_mem _ hd)) t)
theorem pln_t : ∀ {vs : List (List Key × V)} {ds : List (List Key × D)}, (∀ p ∈ ds, Pln p.2) → RepT K F vs ds → RepT K F' vs ds
  | _, _, _, .nil => .nil
  | _, _, h, .cons r t => .cons ((h _ List.mem_cons_self).rep r) (pln_t (fun d hd => h d (List.mem_cons_of_mem _ hd)) t)
theorem pln_k : ∀ {vs : List (Key × V)} {ds : List (Key × D)}, (∀ p ∈ ds, Pln p.2) → RepK K F vs ds → RepK K F' vs ds
  | _, _, _, .nil => .nil
  | _, _, h, .cons r t => .cons ((h _ List.mem_cons_self).rep r) (pln_k (fun d hd => h d (List.mem_cons_of_mem _ hd)) t)
theorem PlnV.own {p : Addr} {o : OC} (h : PlnV (.own o)) (r : OwnRep K F H p o) : OwnRep K F' H p o := by
  cases o with
  | lst ds => obtain ⟨vs, e, r⟩ := r; exact ⟨vs, e, pln_l h r⟩
  | ins C fs => obtain ⟨dx, vs, e, r⟩ := r; exact ⟨dx, vs, e, pln_f h r⟩
  | dT kvs => obtain ⟨vs, e, r⟩ := r; exact ⟨vs, e, pln_t h r⟩
  | dK kvs => obtain ⟨vs, e, r⟩ := r; exact ⟨vs, e, pln_k h r⟩
  | tab P q => exact h.elim
/-- the own objects among the arguments -/
def ownsIn : List DV → List OC
  | [] => []
  | .d _ :: r => ownsIn r
  | .own o :: r => o :: ownsIn r
def frzV (x : DV) : DV := .d x.toD
theorem lend : ∀ {vs : List V} {as : List DV} {ps : List Addr}, Same F H → ArgsRep K F H vs as ps →
    ∃ F1, Same F F1 ∧ Same F1 H ∧ ArgsRep K F1 H vs (as.map frzV) [] ∧ (∀ a, F1 a ≠ none → F a ≠ none ∨ a ∈ ps) ∧ OwnsRep K F H ps (ownsIn as) ∧ (∀ p ∈ ps, F p = none)
  | _, _, _, s, .nil => ⟨F, Same.refl F, s, .nil, fun a h => .inl h, .nil, fun p h => nomatch h⟩
  | _, _, _, s, .d h t => by
    obtain ⟨F1, s1, s2, a, n, o, q⟩ := lend s t
    exact ⟨F1, s1, s2, .d (h.mono s1) a, n, o, q⟩
  | _, _, _, s, .own (p := p) (o := o) n h np t => by
    obtain ⟨F1, s1, s2, a, n1, os, q⟩ := lend s t
    have hp : F1 p = none := by
      cases z : F1 p with
      | none => rfl
      | some u => exact ((n1 p (by rw [z]; exact fun y => nomatch y)).elim (fun y => y n) np).elim
    obtain ⟨u, eu, r⟩ := (h.mono (H' := H) s1 rfl).freeze hp s2
    have sF : Same F1 (upd F1 p u) := same_upd (Same.refl F1) hp
    refine ⟨upd F1 p u, s1.trans sF, same_upd1 s2 eu, .d r ?_, fun b hb => ?_, .cons n h os, fun b hb => (List.mem_cons.mp hb).elim (fun e => by rw [e]; exact n) (q b)⟩
    · exact go sF a
    · by_cases e : b = p
      · exact .inr (by rw [e]; exact List.mem_cons_self)
      · rw [upd_ne e] at hb
        exact (n1 b hb).imp id (List.mem_cons_of_mem _)
where
  go {F1 F2 : Hp} (s : Same F1 F2) : ∀ {vs : List V} {as : List DV} {ps : List Addr}, ArgsRep K F1 H vs (as.map frzV) ps → ArgsRep K F2 H vs (as.map frzV) ps
    | _, [], _, .nil => .nil
    | _, _ :: _, _, .d h t => .d (h.mono s) (go s t)
/-- a promise for lent arguments -/
def lent (sd : SpD) : SpD := fun as Q _ => sd (as.map frzV) (fun r os => os = [] ∧ PlnV r ∧ Q r (ownsIn as)) (fun _ _ => False)
theorem spOf_lent {sd : SpD} (vs : List V) (H : Hp) (Q : VK) (E : XK) (h : spOf K (lent sd) vs H Q E) : spOf K sd vs H Q E := by
  obtain ⟨F, as, ps, Qd, Ed, s, ar, hs, kq, ke⟩ := h
  obtain ⟨F1, s1, s2, a, n1, os, np⟩ := lend s ar
  refine ⟨F1, as.map frzV, [], _, _, s2, a, hs, fun v x os' F' H' ⟨_, hp, hq⟩ P r => ?_, fun _ _ _ _ _ _ z _ _ => z.elim⟩
  have sFF' := s1.trans P.f
  let F'' : Hp := fun b => if b ∈ ps then none else F' b
  have f1 : ∀ b, b ∈ ps → F'' b = none := fun b h => if_pos h
  have f2 : ∀ b, b ∉ ps → F'' b = F' b := fun b h => if_neg h
  have sF : Same F F'' := fun b u e => by
    have hb : b ∉ ps := fun z => by rw [np b z] at e; cases e
    rw [f2 b hb]
    exact sFF' _ _ e
  refine kq v x _ F'' H' hq ⟨sF, fun b u e => ?_, fun b u e _ => P.fr b u e (fun z => nomatch z), P.up, fun b hb => ?_, ?_⟩ ?_
  · by_cases hb : b ∈ ps
    · rw [f1 b hb] at e; cases e
    · rw [f2 b hb] at e; exact P.fh _ _ e
  · by_cases hb' : b ∈ ps
    · rw [f1 b hb'] at hb; exact (hb rfl).elim
    · rw [f2 b hb'] at hb
      exact (P.nw b hb).elim (fun z => (n1 b z).elim .inl fun y => (hb' y).elim) .inr
  · have go : ∀ {qs : List Addr} {us : List OC}, (∀ q ∈ qs, q ∈ ps) → OwnsRep K F H qs us → OwnsRep K F'' H' qs us := fun {qs us} hq o => by
      induction o with
      | nil => exact .nil
      | @cons q o qs us n h t ih =>
        refine .cons (f1 _ (hq _ List.mem_cons_self)) (h.mono sF ?_) (ih fun q h => hq q (List.mem_cons_of_mem _ h))
        cases e : H q with
        | none => exact absurd e h.has
        | some u => exact P.fr q u e (fun z => nomatch z)
    exact go (fun _ h => h) os
  · cases x with
    | d y => exact hp.rep r
    | own o =>
      obtain ⟨p, e, n, b, q⟩ := r
      refine ⟨p, e, n, ?_, hp.own q⟩
      by_cases hb : p ∈ ps
      · exact f1 p hb
      · rw [f2 p hb]; exact b
theorem FnOk.lent {P : Program} {w : World} {mg : Str → Option Value} {base : Heap} {k : Nat} {f : Addr} {fd : FuncData} {ps : List Str} {sd : SpD} (G : FnOk P w K mg base (L2.CX P w) k f fd ps (spOf K sd)) : FnOk P w K mg base (L2.CX P w) k f fd ps (spOf K (lent sd)) := G.imp spOf_lent
end
end DL

set_option Elab.async false
set_option linter.all false
set_option maxRecDepth 100000
namespace DL
open PySem PySem.Spec PyProof.Rows L2
section
variable {X : Cx} {c : Fc} {W : WX}
/-! ### a list or a tuple -/
def seqO (t : TD) : TDI := fun δ Q E => listI t δ Q E ∨ tupI t δ Q E
theorem pid_seq {tg e : Expr} {t : TD} (he : PE X e (LE X.K c W t)) : PI X tg e (LI X.K c W (seqO t)) :=
  ⟨fun pins s σ H R I ⟨δ, tmp, Qd, Ed, S, q, k, w⟩ => q.elim (fun q => (pid_list he).run pins s σ H R I ⟨δ, tmp, Qd, Ed, S, q, k, w⟩) fun q => (pid_tup he).run pins s σ H R I ⟨δ, tmp, Qd, Ed, S, q, k, w⟩⟩
/-! ### zip -/
theorem zip_at {xs ys : List D} {i : Nat} {d : D} (h : (zipL xs ys)[i]? = some d) : ∃ x y, xs[i]? = some x ∧ ys[i]? = some y ∧ d = .tup [x, y] := by
  unfold zipL at h
  rw [List.getElem?_map] at h
  cases q : (xs.zip ys)[i]? with
  | none => rw [q] at h; cases h
  | some p =>
    rw [q] at h
    cases h
    obtain ⟨a, b⟩ := p
    obtain ⟨h1, h2⟩ := List.getElem?_zip_eq_some.mp q
    exact ⟨a, b, h1, h2, rfl⟩
theorem zip_len {xs ys : List D} : (zipL xs ys).length = min xs.length ys.length := by simp [zipL]
theorem row_l {K : PySem.W.Frag} {F H : Hp} {p : Addr} {x : D} {xs : List D} (e : x = .lst xs ∨ x = .ro xs) (s : Same F H) (r : Rep K F (.ref p) x) : ∃ vs, SqL K H p vs ∧ RepL K F vs xs := by
  rcases e with rfl | rfl
  · cases r with | lst s1 r1 => exact ⟨_, s.seq (SqL.of s1), r1⟩
  · cases r with | ro s1 r1 => exact ⟨_, s.seq s1, r1⟩
theorem row_t {K : PySem.W.Frag} {F H : Hp} {p : Addr} {xs : List D} (s : Same F H) (r : Rep K F (.ref p) (.tup xs)) : ∃ vs, SqT K H p vs ∧ RepL K F vs xs := by
  cases r with | tup s1 r1 => exact ⟨_, SqT.of (s _ _ s1), r1⟩
theorem gho2 {K : PySem.W.Frag} {F : Hp} {v : V} {a b : V} {x y : D} (r : Rep K F v (.gho [a, b] [x, y])) : Rep K F a x ∧ Rep K F b y := by
  cases r with
  | gho h =>
    cases h with
    | cons h1 t =>
      cases t with
      | cons h2 t => exact ⟨h1, h2⟩
theorem serve_zip {K : PySem.W.Frag} {a b : Addr} {x y : D} {xs ys : List D} (ex : x = .lst xs ∨ x = .ro xs) (ey : y = .lst ys ∨ y = .ro ys) : Serve K (Itz K a b) (.int 0) (.gho [.ref a, .ref b] [x, y]) (zipL xs ys) := by
  refine ⟨fun i F H s r hi => ?_, fun i F H s r hi => ?_, fun i F H z H' s r q d hd => ?_⟩
  · obtain ⟨vs, h1, l1⟩ := row_l ex s (gho2 r).1
    obtain ⟨us, h2, l2⟩ := row_l ey s (gho2 r).2
    rw [zip_len] at hi
    obtain ⟨v, e1, _⟩ := l1.get (List.getElem?_eq_getElem (show i < xs.length by omega))
    obtain ⟨u, e2, _⟩ := l2.get (List.getElem?_eq_getElem (show i < ys.length by omega))
    exact ⟨vs, us, v, u, h1, h2, e1, e2⟩
  · obtain ⟨vs, h1, l1⟩ := row_l ex s (gho2 r).1
    obtain ⟨us, h2, l2⟩ := row_l ey s (gho2 r).2
    rw [zip_len] at hi
    exact ⟨vs, us, h1, h2, by rw [l1.len, l2.len]; omega⟩
  · obtain ⟨vs, h1, l1⟩ := row_l ex s (gho2 r).1
    obtain ⟨us, h2, l2⟩ := row_l ey s (gho2 r).2
    obtain ⟨T, v, u, rfl, nT, rfl, y1, y2⟩ := q
    obtain ⟨d1, d2, g1, g2, rfl⟩ := zip_at hd
    obtain ⟨v', e1, r1⟩ := l1.get g1
    obtain ⟨u', e2, r2⟩ := l2.get g2
    rw [y1 vs h1] at e1
    rw [y2 us h2] at e2
    cases e1; cases e2
    have sF : Same F (upd F T (.tup [v, u])) := same_upd (Same.refl F) (s.free nT)
    exact ⟨_, Ext.new s nT, .tup upd_same (.cons (r1.mono sF) (.cons (r2.mono sF) .nil))⟩
theorem serve_zipT {K : PySem.W.Frag} {a b : Addr} {xs ys : List D} : Serve K (RZ.ItzT K a b) (.int 0) (.gho [.ref a, .ref b] [.tup xs, .tup ys]) (zipL xs ys) := by
  refine ⟨fun i F H s r hi => ?_, fun i F H s r hi => ?_, fun i F H z H' s r q d hd => ?_⟩
  · obtain ⟨vs, h1, l1⟩ := row_t s (gho2 r).1
    obtain ⟨us, h2, l2⟩ := row_t s (gho2 r).2
    rw [zip_len] at hi
    obtain ⟨v, e1, _⟩ := l1.get (List.getElem?_eq_getElem (show i < xs.length by omega))
    obtain ⟨u, e2, _⟩ := l2.get (List.getElem?_eq_getElem (show i < ys.length by omega))
    exact ⟨vs, us, v, u, h1, h2, e1, e2⟩
  · obtain ⟨vs, h1, l1⟩ := row_t s (gho2 r).1
    obtain ⟨us, h2, l2⟩ := row_t s (gho2 r).2
    rw [zip_len] at hi
    exact ⟨vs, us, h1, h2, by rw [l1.len, l2.len]; omega⟩
  · obtain ⟨vs, h1, l1⟩ := row_t s (gho2 r).1
    obtain ⟨us, h2, l2⟩ := row_t s (gho2 r).2
    obtain ⟨T, v, u, rfl, nT, rfl, y1, y2⟩ := q
    obtain ⟨d1, d2, g1, g2, rfl⟩ := zip_at hd
    obtain ⟨v', e1, r1⟩ := l1.get g1
    obtain ⟨u', e2, r2⟩ := l2.get g2
    rw [y1 vs h1] at e1
    rw [y2 us h2] at e2
    cases e1; cases e2
    have sF : Same F (upd F T (.tup [v, u])) := same_upd (Same.refl F) (s.free nT)
    exact ⟨_, Ext.new s nT, .tup upd_same (.cons (r1.mono sF) (.cons (r2.mono sF) .nil))⟩
def zipI (ta : TDA) : TDI := fun δ Q E => ta δ (fun as δ1 => ∃ x y xs ys, as = [.d x, .d y] ∧ (((x = .lst xs ∨ x = .ro xs) ∧ (y = .lst ys ∨ y = .ro ys)) ∨ (x = .tup xs ∧ y = .tup ys)) ∧ Q (zipL xs ys) δ1) E
theorem pid_zip {e e2 : Expr} {ta : TDA} {p pos tpos : Pos} {elts : List Expr} {kk : Nat} (hg : Gl X "zip") (hm : X.mg "zip" = none) (ha : PA X [e, e2] (LA X.K c W ta))
    (hs : starEach [e, e2] X.env = (false, eval e X.env) :: starEach [e2] X.env := by rfl) (hpl : (backTo pos (starEach [e2] X.env)).any (·.1) = false := by rfl) : PI X (.Tuple elts kk tpos) (.Call (.Name "zip" p) [e, e2] [] pos) (LI X.K c W (zipI ta)) :=
  PI_imp (RZ.pi_zipA hg hm ha hs hpl) fun σ H R ⟨δ, tmp, Qd, Ed, S, q, k, w⟩ => ⟨δ, tmp, _, _, S, q, fun vs as δ' F ow H' ⟨x, y, xs, ys, e, hx, q'⟩ S' ra => by
    subst e
    cases ra with
    | d h t =>
      cases t with
      | d h2 t =>
        cases t
        rcases hx with ⟨hx, hy⟩ | ⟨rfl, rfl⟩
        · have h0 := h
          have h20 := h2
          obtain ⟨a, us, rfl, g1, _⟩ := h.row (xs := xs) (by rcases hx with e | e <;> rw [e] <;> rfl)
          obtain ⟨b, ws, rfl, g2, _⟩ := h2.row (xs := ys) (by rcases hy with e | e <;> rw [e] <;> rfl)
          obtain ⟨us, g1, _⟩ := row_l hx S'.fh h
          obtain ⟨ws, g2, _⟩ := row_l hy S'.fh h2
          exact ⟨a, b, us, ws, rfl, .inl ⟨g1, g2, k _ _ _ _ _ _ q' (serve_zip hx hy) ⟨F, ow, S'.push (.gho (.cons h0 (.cons h20 .nil)))⟩⟩⟩
        · have h0 := h
          have h20 := h2
          cases h with
          | tup s1 r1 =>
            cases h2 with
            | tup s2 r2 => exact ⟨_, _, _, _, rfl, .inr ⟨SqT.of (S'.fh _ _ s1), SqT.of (S'.fh _ _ s2), k _ _ _ _ _ _ q' serve_zipT ⟨F, ow, S'.push (.gho (.cons h0 (.cons h20 .nil)))⟩⟩⟩, w⟩
end
end DL
namespace DR
open PySem PySem.Spec PyProof.Rows L2 DL
section
variable {δ : DSt} {E : XD} {Q : List DL.D → DSt → Prop}
theorem zipi {ta : TDA} (h : ta δ (fun as δ1 => ∃ x y xs ys, as = [.d x, .d y] ∧ (((x = .lst xs ∨ x = .ro xs) ∧ (y = .lst ys ∨ y = .ro ys)) ∨ (x = .tup xs ∧ y = .tup ys)) ∧ Q (zipL xs ys) δ1) E) : zipI ta δ Q E := h
theorem seqL {t : TD} (h : listI t δ Q E) : seqO t δ Q E := .inl h
theorem seqT {t : TD} (h : tupI t δ Q E) : seqO t δ Q E := .inr h
end
end DR

set_option Elab.async false
set_option linter.all false
set_option maxRecDepth 100000
namespace DL
open PySem PySem.Spec PyProof.Rows L2
section
variable {K : PySem.W.Frag} {F : Hp}
abbrev isiTS (K : PySem.W.Frag) : RDNs := fun ds Q => ∃ x cs t us b, ds = [x, .tup cs] ∧ ClsDs cs us ∧ TyD K x t ∧ PySem.W.kitAny K t us = some b ∧ Q (.bl b)
theorem cn_isiT : CallNs K (rIsiT K) (isiTS K) := fun xs ds F H Q Qd s r ⟨x, cs, t, us, b, e, hc, ht, hk, q⟩ k => by
  subst e
  cases r with
  | cons r t =>
    cases t with
    | cons r2 t =>
      cases t
      cases r2 with
      | tup s1 r1 => exact ⟨_, _, _, _, us, b, rfl, s _ _ s1, clsDs_v r1 hc, tyD_x s r ht, hk, k _ _ q rfl⟩
end
end DL

set_option Elab.async false
set_option linter.all false
set_option maxRecDepth 100000
namespace DL
open PySem PySem.Spec PyProof.Rows L2
theorem repL_str {K : PySem.W.Frag} {F : Hp} {l : List Str} {vs : List V} (r : RepL K F vs (l.map .str)) : vs = l.map V.str := repL_map (fun r => by cases r; rfl) r
section
variable {X : Cx} {c : Fc} {W : WX}
/-- len(set(t)) of a tuple of texts -/
def lenSetD (t : TD) : TD := fun δ Q E => t δ (fun x δ1 => ∃ xs : List Str, x.toD = .tup (xs.map .str) ∧ xs.length ≤ 1000 ∧ Q (.d (.int ((RS.uniq xs).length : Nat))) δ1) E
theorem pd_lenSet {e a : Expr} {t : TD} (h : ∀ {ta : TE}, PE X a ta → PE X e (RS.tLenSetT X.K ta)) (ha : PE X a (LE X.K c W t)) : PE X e (LE X.K c W (lenSetD t)) :=
  PE_imp (h ha) fun σ H Q ⟨δ, tmp, Qd, Ed, S, q, k, w⟩ => ⟨δ, tmp, _, Ed, S, q, fun v x δ1 H1 ⟨xs, ex, hl, q1⟩ ⟨F, ow, S1⟩ => by
    obtain ⟨F2, S2, _⟩ := S1.top_frz
    rw [ex] at S2
    have r := S2.top
    cases r with
    | tup s1 r1 =>
      have e := repL_str r1
      subst e
      exact ⟨_, xs, rfl, SqT.of (S2.fh _ _ s1), hl, k _ _ _ _ q1 ⟨F2, ow, S2.pop.push (.int _)⟩⟩, w⟩
end
end DL
namespace DR
open PySem PySem.Spec PyProof.Rows L2 DL
theorem lenSet {δ : DSt} {Q : DK} {E : XD} {t : TD} (h : t δ (fun x δ1 => ∃ xs : List Str, x.toD = .tup (xs.map .str) ∧ xs.length ≤ 1000 ∧ Q (.d (.int ((RS.uniq xs).length : Nat))) δ1) E) : lenSetD t δ Q E := h
end DR

set_option Elab.async false
set_option linter.all false
set_option maxRecDepth 100000
namespace DL
open PySem PySem.Spec PyProof.Rows L2
def lc2D (g : TDG) (tt : TDT) (ti1 : TDI) (g1 : TDG) (tt1 : TDT) (te : TD) (vs vs1 : List Nat) : List DL.D → List DL.D → DSt → (List DL.D → DSt → Prop) → Prop
  | [], acc, δ, Q => Q acc δ
  | x :: xs, acc, δ, Q => g x δ fun δ1 => tt δ1 (fun b δ2 => if b = true then ti1 δ2 (fun ys δ3 => lcD g1 tt1 te vs1 ys acc (wipeD δ3 vs1) fun acc' δ4 => lc2D g tt ti1 g1 tt1 te vs vs1 xs acc' (wipeD δ4 vs) Q) noX else lc2D g tt ti1 g1 tt1 te vs vs1 xs acc (wipeD δ2 vs) Q) noX
def comp2D (ti : TDI) (g : TDG) (tt : TDT) (ti1 : TDI) (g1 : TDG) (tt1 : TDT) (te : TD) (vs vs1 : List Nat) : TD := fun δ Q E => ti δ (fun xs δ1 => lc2D g tt ti1 g1 tt1 te vs vs1 xs [] (wipeD δ1 vs) fun acc δ2 => Q (.own (.lst acc)) δ2) E
section
variable {K : PySem.W.Frag} {c : Fc} {W : WX} {F H : Hp} {ow : Addr → Option Hold} {δ : DSt} {tmp : List (V × DV)} {σ : L2.St} {p : Addr} {o : OC} {v : V} {d : D}
/-- data beneath an own object -/
theorem SttF.swap (S : SttF K c F ow δ ((v, .d d) :: (.ref p, .own o) :: tmp) σ H) : ∃ ow', SttF K c F ow' δ ((.ref p, .own o) :: (v, .d d) :: tmp) σ H := by
  obtain ⟨p', e0, e, b, n, r⟩ := S.tm.2.1
  cases e0
  have S5 := S.pop.pop.reown (ow' := owSet ow p (.t (tmp.length + 1))) (fun k a z _ => owSet_ne fun y => by subst y; rw [e] at z; cases z) (fun k a hk z _ => owSet_ne fun y => by
    subst y; rw [e] at z; cases z
    exact absurd hk (Nat.lt_irrefl _))
  have S6 := S5.push S.top
  exact ⟨_, { S6 with tm := ⟨⟨p, rfl, owSet_at, b, .inl n.t, r⟩, S6.tm⟩ }⟩
/-- the own object on top moves down over data -/
theorem SttF.down (S : SttF K c F ow δ ((.ref p, .own o) :: (v, .d d) :: tmp) σ H) : ∃ ow', SttF K c F ow' δ ((.ref p, .own o) :: tmp) σ H := by
  obtain ⟨p', e0, e, b, n, r⟩ := S.tm.1
  cases e0
  have S5 := S.pop.pop.reown (ow' := owSet ow p (.t tmp.length)) (fun k a z _ => owSet_ne fun y => by subst y; rw [e] at z; cases z) (fun k a hk z _ => owSet_ne fun y => by
    subst y; rw [e] at z; cases z
    have : tmp.length + 1 < tmp.length := hk
    omega)
  exact ⟨_, { S5 with tm := ⟨⟨p, rfl, owSet_at, b, .inl n.t, r⟩, S5.tm⟩ }⟩
theorem wipe_idem {σ : L2.St} {vs : List Nat} : ∀ (l : List Nat), (∀ i ∈ l, i ∈ vs) → wipe (wipe σ l) vs = wipe σ vs := fun l => by
  induction l with
  | nil => exact fun _ => rfl
  | cons a r ih =>
    intro h
    show wipe ((wipe σ r).set a none) vs = _
    rw [wipe_set (h a List.mem_cons_self)]
    exact ih fun i hi => h i (List.mem_cons_of_mem _ hi)
/-- the loop of a comprehension, the list on top of the stack -/
theorem lc_loop {g : TDG} {tt : TDT} {te : TD} {vs : List Nat} {J : It} {src : D} {items acc0 : List D} {δ0 : DSt} {Qf : List D → DSt → Prop} {Nx : Hp → Prop} {D : Addr} (hv : ∀ i ∈ vs, i ∉ c.sl) (sv : Serve K J v src items)
    (S0 : Stt K c (wipeD δ0 vs) ((.ref D, .own (.lst acc0)) :: (v, .d src) :: tmp) (wipe σ vs) H) (q0 : lcD g tt te vs items acc0 (wipeD δ0 vs) Qf)
    (fin : ∀ acc δ H', Qf acc (wipeD δ vs) → Stt K c (wipeD δ vs) ((.ref D, .own (.lst acc)) :: (v, .d src) :: tmp) (wipe σ vs) H' → Nx H') :
    ∃ W1 : Nat → Nat → Hp → Prop, (∃ m, W1 0 m H) ∧ ∀ j k H, W1 j k H →
      (J.stop j H ∧ Nx H) ∨ (J.go j H ∧ ∃ Nx1 : Hp → Prop, (∀ H', Nx1 H' → ∃ k', k' < k ∧ W1 (j + 1) k' H') ∧ ∀ x H', J.yld j H x H' → LG K c vs g x (wipe σ vs) H' fun σ3 H5 => wipe σ3 vs = wipe σ vs ∧ LT K c W0 tt σ3 H5 fun b H6 =>
        if b = true then LE K c W0 te σ3 H6 fun y H7 => ∃ acc, H7 D = some (.lst acc) ∧ acc.length < sizeLine ∧ Nx1 (upd H7 D (.lst (acc ++ [y]))) else Nx1 H6) := by
  refine ⟨fun i m H => m = items.length - i ∧ i ≤ items.length ∧ ∃ δ acc, Stt K c (wipeD δ vs) ((.ref D, .own (.lst acc)) :: (v, .d src) :: tmp) (wipe σ vs) H ∧ lcD g tt te vs (items.drop i) acc (wipeD δ vs) Qf,
    ⟨items.length, by simp, Nat.zero_le _, δ0, acc0, S0, q0⟩, ?_⟩
  rintro i m H2 ⟨rfl, hi, δ2, acc, ⟨F2, ow2, S3⟩, q2⟩
  have src2 : Rep K F2 v src := S3.tm.2.1
  by_cases hlt : i < items.length
  · refine .inr ⟨sv.go i F2 H2 S3.fh src2 hlt, fun H => i + 1 ≤ items.length ∧ ∃ δ acc, Stt K c (wipeD δ vs) ((.ref D, .own (.lst acc)) :: (v, .d src) :: tmp) (wipe σ vs) H ∧ lcD g tt te vs (items.drop (i + 1)) acc (wipeD δ vs) Qf,
      fun H' h => ⟨items.length - (i + 1), by omega, rfl, h⟩, fun x H' y => ?_⟩
    obtain ⟨F3, e3, r3⟩ := sv.yld i F2 H2 x H' S3.fh src2 y _ (List.getElem?_eq_getElem hlt)
    rw [List.drop_eq_getElem_cons hlt] at q2
    refine ⟨wipeD δ2 vs, (.ref D, .own (.lst acc)) :: (v, .d src) :: tmp, _, _, ⟨F3, ow2, (S3.ext e3).push r3⟩, q2, fun δ4 σ4 H4 q4 S4 hw => ?_⟩
    have hw' : wipe σ4 vs = wipe σ vs := by
      rw [hw]
      exact wipe_idem vs fun _ h => h
    refine ⟨hw', δ4, _, _, noX, S4, q4, fun b δ5 H5 q5 ⟨F5, ow5, S5⟩ => ?_, fun _ _ _ _ _ _ _ _ z => z.elim⟩
    cases b with
    | false =>
      have S6 := S5.wipe hv
      rw [hw'] at S6
      exact ⟨hlt, δ5, acc, ⟨_, _, S6⟩, q5⟩
    | true =>
      refine ⟨δ5, _, _, noX, ⟨F5, ow5, S5⟩, q5, fun u z δ6 H6 ⟨hz, q6⟩ ⟨F6, ow6, S6⟩ => ?_, fun _ _ _ _ _ _ _ _ z => z.elim⟩
      obtain ⟨F7, S7, s7⟩ := S6.top_frz
      obtain ⟨p', e0, _, _, _, ws, ep, rw'⟩ := S7.tm.2.1
      cases e0
      have S8 := S7.pop.writeT (o' := .lst (acc ++ [z.toD])) (ob := .lst (ws ++ [u])) ⟨_, upd_same, rw'.app (.cons S7.top .nil)⟩
      have S9 := S8.wipe hv
      rw [hw'] at S9
      exact ⟨ws, ep, by rw [rw'.len]; exact hz, hlt, δ6, _, ⟨_, _, S9⟩, q6⟩
  · have e : i = items.length := by omega
    subst e
    rw [List.drop_length] at q2
    exact .inl ⟨sv.stop _ F2 H2 S3.fh src2 (Nat.le_refl _), fin acc δ2 H2 q2 ⟨_, _, S3⟩⟩
theorem lift_comp2 {ti ti1 : TDI} {g g1 : TDG} {tt tt1 : TDT} {te : TD} {vs vs1 : List Nat} (hv : ∀ i ∈ vs, i ∉ c.sl) (h1 : ∀ i ∈ vs1, i ∈ vs) : ∀ σ H Q, LE K c W (comp2D ti g tt ti1 g1 tt1 te vs vs1) σ H Q →
    tLc2 (LI K c W ti) (LG K c vs g) (LT K c W0 tt) (LI K c W0 ti1) (LG K c vs1 g1) (LT K c W0 tt1) (LE K c W0 te) vs vs1 σ H Q := fun σ H Q ⟨δ, tmp, Qd, Ed, S, q, k, w⟩ => by
  have hv1 : ∀ i ∈ vs1, i ∉ c.sl := fun i hi => hv i (h1 i hi)
  refine ⟨δ, tmp, _, _, S, q, fun J v src items δ1 H1 q1 sv ⟨F1, ow1, S1⟩ => ?_, w⟩
  intro D nD
  have S2 := (S1.wipe hv).pushNew (o := .lst []) nD ⟨[], upd_same, .nil⟩
  refine ⟨fun i m H => m = items.length - i ∧ i ≤ items.length ∧ ∃ δ acc, Stt K c (wipeD δ vs) ((.ref D, .own (.lst acc)) :: (v, .d src) :: tmp) (wipe σ vs) H ∧ lc2D g tt ti1 g1 tt1 te vs vs1 (items.drop i) acc (wipeD δ vs) fun acc δ2 => Qd (.own (.lst acc)) δ2,
    ⟨items.length, by simp, Nat.zero_le _, δ1, [], ⟨_, _, S2⟩, q1⟩, ?_⟩
  rintro i m H2 ⟨rfl, hi, δ2, acc, ⟨F2, ow2, S3⟩, q2⟩
  have src2 : Rep K F2 v src := S3.tm.2.1
  by_cases hlt : i < items.length
  · refine .inr ⟨sv.go i F2 H2 S3.fh src2 hlt, fun H => i + 1 ≤ items.length ∧ ∃ δ acc, Stt K c (wipeD δ vs) ((.ref D, .own (.lst acc)) :: (v, .d src) :: tmp) (wipe σ vs) H ∧ lc2D g tt ti1 g1 tt1 te vs vs1 (items.drop (i + 1)) acc (wipeD δ vs) fun acc δ2 => Qd (.own (.lst acc)) δ2,
      fun H' h => ⟨items.length - (i + 1), by omega, rfl, h⟩, fun x H' y => ?_⟩
    obtain ⟨F3, e3, r3⟩ := sv.yld i F2 H2 x H' S3.fh src2 y _ (List.getElem?_eq_getElem hlt)
    rw [List.drop_eq_getElem_cons hlt] at q2
    refine ⟨wipeD δ2 vs, (.ref D, .own (.lst acc)) :: (v, .d src) :: tmp, _, _, ⟨F3, ow2, (S3.ext e3).push r3⟩, q2, fun δ4 σ4 H4 q4 S4 hw => ?_⟩
    have hw' : wipe σ4 vs = wipe σ vs := by
      rw [hw]
      exact wipe_idem vs fun _ h => h
    refine ⟨hw', δ4, _, _, noX, S4, q4, fun b δ5 H5 q5 ⟨F5, ow5, S5⟩ => ?_, fun _ _ _ _ _ _ _ _ z => z.elim⟩
    cases b with
    | false =>
      have S6 := S5.wipe hv
      rw [hw'] at S6
      exact ⟨hlt, δ5, acc, ⟨_, _, S6⟩, q5⟩
    | true =>
      refine ⟨δ5, _, _, noX, ⟨F5, ow5, S5⟩, q5, fun J1 v1 src1 items1 δ6 H6 q6 sv1 ⟨F6, ow6, S6⟩ => ?_, fun _ _ _ _ _ _ _ _ z => z.elim⟩
      obtain ⟨ow7, S7⟩ := S6.swap
      refine lc_loop hv1 sv1 ⟨F6, ow7, S7.wipe hv1⟩ q6 fun acc' δ8 H8 q8 ⟨F8, ow8, S8⟩ => ?_
      obtain ⟨ow9, S9⟩ := S8.down
      have S10 := S9.wipe hv
      rw [wipe_idem vs1 h1, hw'] at S10
      exact ⟨hlt, _, acc', ⟨_, _, S10⟩, q8⟩
  · have e : i = items.length := by omega
    subst e
    rw [List.drop_length] at q2
    refine .inl ⟨sv.stop _ F2 H2 S3.fh src2 (Nat.le_refl _), k _ _ _ _ q2 ?_⟩
    obtain ⟨ow4, S4⟩ := (S3.unwipe hv).down
    exact ⟨F2, ow4, S4⟩
end
section
variable {X : Cx} {c : Fc} {W : WX}
theorem pd_lc2 {elt tg iter tg1 iter1 : Expr} {ifs ifs1 : List Expr} {scope : Scope} {own : List (Str × Nat)} {vs1 : List Nat} {pos : Pos} {ti ti1 : TDI} {g g1 : TDG} {tt tt1 : TDT} {te : TD} (hc : X.calm = true) (hN : X.N.Nodup) (hi : PI X tg iter (LI X.K c W ti)) (ok : BlkOk X.N X.env.scope scope own) (hv1 : ∀ i ∈ vs1, i ∈ own.map (·.2))
    (hg : ∀ (s : Shared) (H : Hp) (C : Addr) (cl : List (Str × Addr)) (fp : List Addr), PG (X.blk s H scope (compEnvC scope cl C X.env) fp) tg (LG X.K c (own.map (·.2)) g)) (ht : ∀ (s : Shared) (H : Hp) (C : Addr) (cl : List (Str × Addr)) (fp : List Addr), PTs (X.blk s H scope (compEnvC scope cl C X.env) fp) ifs (LT X.K c W0 tt))
    (hi1 : ∀ (s : Shared) (H : Hp) (C : Addr) (cl : List (Str × Addr)) (fp : List Addr), PI (X.blk s H scope (compEnvC scope cl C X.env) fp) tg1 iter1 (LI X.K c W0 ti1))
    (hg1 : ∀ (s : Shared) (H : Hp) (C : Addr) (cl : List (Str × Addr)) (fp : List Addr), PG (X.blk s H scope (compEnvC scope cl C X.env) fp) tg1 (LG X.K c vs1 g1)) (ht1 : ∀ (s : Shared) (H : Hp) (C : Addr) (cl : List (Str × Addr)) (fp : List Addr), PTs (X.blk s H scope (compEnvC scope cl C X.env) fp) ifs1 (LT X.K c W0 tt1))
    (he : ∀ (s : Shared) (H : Hp) (C : Addr) (cl : List (Str × Addr)) (fp : List Addr), PE (X.blk s H scope (compEnvC scope cl C X.env) fp) elt (LE X.K c W0 te)) (hv : ∀ i ∈ own.map (·.2), i ∉ c.sl) (hs : ∀ x, foldedSetIterable iter X.env x = pure x := by intro _; rfl) (hs1 : ∀ env x, foldedSetIterable iter1 env x = pure x := by intro _ _; rfl) :
    PE X (.ListComp elt [⟨tg, iter, ifs, 0⟩, ⟨tg1, iter1, ifs1, 0⟩] scope pos) (LE X.K c W (comp2D ti g tt ti1 g1 tt1 te (own.map (·.2)) vs1)) := PE_imp (pe_lc2 hc hN hi ok hv1 hg ht hi1 hg1 ht1 he hs hs1) (lift_comp2 hv hv1)
end
end DL
namespace DR
open PySem PySem.Spec PyProof.Rows L2 DL
theorem comp2 {δ : DSt} {Q : DK} {E : XD} {ti ti1 : TDI} {g g1 : TDG} {tt tt1 : TDT} {te : TD} {vs vs1 : List Nat} (h : ti δ (fun xs δ1 => lc2D g tt ti1 g1 tt1 te vs vs1 xs [] (wipeD δ1 vs) fun acc δ2 => Q (.own (.lst acc)) δ2) E) : comp2D ti g tt ti1 g1 tt1 te vs vs1 δ Q E := h
/-- behind what is there already -/
theorem lc_filterA {α : Type} {g : TDG} {tt : TDT} {te : TD} {vs : List Nat} {r : α → DL.D} {δ : DSt} (f : α → Option DL.D) {n : Nat} : ∀ {l : List α} {acc0 : List DL.D} {Q : List DL.D → DSt → Prop}, acc0.length + l.length ≤ n →
    (∀ x (acc : List DL.D) (N : List DL.D → DSt → Prop), x ∈ l → acc.length < n → N (acc ++ (f x).toList) δ →
      g (r x) δ (fun δ1 => tt δ1 (fun b δ2 => if b = true then te δ2 (fun y δ3 => acc.length < sizeLine ∧ N (acc ++ [y.toD]) (wipeD δ3 vs)) noX else N acc (wipeD δ2 vs)) noX)) →
    Q (acc0 ++ l.filterMap f) δ → lcD g tt te vs (l.map r) acc0 δ Q
  | [], acc0, Q, _, _, hn => by rw [List.filterMap_nil, List.append_nil] at hn; exact hn
  | x :: l, acc0, Q, hl, hs, hn => by
    rw [List.length_cons] at hl
    refine hs x acc0 (fun a d => lcD g tt te vs (l.map r) a d Q) List.mem_cons_self (by omega) ?_
    refine lc_filterA f (n := n) (l := l) ?_ (fun y acc N hy => hs y acc N (List.mem_cons_of_mem _ hy)) ?_
    · rw [List.length_append]
      cases f x <;> (simp; omega)
    · rw [List.append_assoc]
      have e : (f x).toList ++ l.filterMap f = (x :: l).filterMap f := by
        rw [List.filterMap_cons]
        cases f x <;> rfl
      rw [e]
      exact hn
theorem lc2_flatM {α : Type} {g : TDG} {tt : TDT} {ti1 : TDI} {g1 : TDG} {tt1 : TDT} {te : TD} {vs vs1 : List Nat} {r : α → DL.D} {δ : DSt} (f : α → List DL.D) : ∀ {l : List α} {acc0 : List DL.D} {Q : List DL.D → DSt → Prop},
    (∀ x (acc : List DL.D) (N : List DL.D → DSt → Prop), x ∈ l → acc.length ≤ acc0.length + (l.flatMap f).length → N (acc ++ f x) δ →
      g (r x) δ (fun δ1 => tt δ1 (fun b δ2 => if b = true then ti1 δ2 (fun ys δ3 => lcD g1 tt1 te vs1 ys acc (wipeD δ3 vs1) fun acc' δ4 => N acc' (wipeD δ4 vs)) noX else N acc (wipeD δ2 vs)) noX)) →
    Q (acc0 ++ l.flatMap f) δ → lc2D g tt ti1 g1 tt1 te vs vs1 (l.map r) acc0 δ Q
  | [], acc0, Q, _, hn => by rw [List.flatMap_nil, List.append_nil] at hn; exact hn
  | x :: l, acc0, Q, hs, hn => by
    refine hs x acc0 (fun a d => lc2D g tt ti1 g1 tt1 te vs vs1 (l.map r) a d Q) List.mem_cons_self (by omega) ?_
    refine lc2_flatM f (fun y acc N hy hl => hs y acc N (List.mem_cons_of_mem _ hy) ?_) ?_
    · rw [List.flatMap_cons, List.length_append]
      rw [List.length_append] at hl
      omega
    · rw [List.append_assoc, ← List.flatMap_cons]
      exact hn
end DR

set_option Elab.async false
set_option linter.all false
set_option maxRecDepth 100000
namespace DL
open PySem PySem.Spec PyProof.Rows L2
theorem units65 {k : Nat} {A : Around} (r : Room k A) : A.units + 65 < cLine := by have := r.un; omega
section
variable {X : Cx} {c : Fc} {W : WX}
/-- x in xs, xs the own list in slot j: items of any depth -/
def inLO (j : Nat) (n : Bool) (ti : TD) : TD := fun δ Q E => ti δ (fun x δ1 => ∃ xs, δ1[j]? = some (some (.own (.lst xs))) ∧ Cmp x.toD ∧ Cmp (.lst xs) ∧ Q (.d (.bl (n != ((pyL xs).any fun z => PyData.eqv z x.toD.py)))) δ1) E
theorem inLO_run {K : PySem.W.Frag} {j : Nat} {n : Bool} {ti : TD} {r : R2} (hr : ∀ x y H Q d ds, Dp K H x d → Dp K H y (.list ds) → SeqAt.shaped d = true → SeqAt.shaped (.list ds) = true → Q (V.bl (n != (ds.any fun z => PyData.eqv z d))) H → r x y H Q) : ∀ σ H Q, LE K c W (inLO j n ti) σ H Q → tOp r (LE K c W ti) (tVar j) σ H Q :=
  fun σ H Q ⟨δ, tmp, Qd, Ed, S, q, k, w⟩ => ⟨δ, tmp, _, Ed, S, q, fun u y δ1 H1 ⟨xs, ej, cx, cl, q1⟩ ⟨F1, ow1, S1⟩ => by
    obtain ⟨F2, S2, _⟩ := S1.top_frz
    obtain ⟨v', e2, p', rfl, _, _, _, vs, ep, rl⟩ := S2.sl _ _ ej
    have hl : isPyL xs = true := cl.1
    have lay : SeqAt.shaped (D.py (.lst xs)) = true := by
      unfold SeqAt.shaped
      rw [decide_eq_true cl.2]
      have := rl.lay hl
      simp only [D.py, PyData.canLay0]
      rw [this]
      rfl
    exact ⟨_, e2, hr u (.ref p') H1 Q y.toD.py (pyL xs) (dp_mono S2.fh (S2.top.dp cx.1)) (.lst (SqL.of ep) (dpAll_mono S2.fh (rl.dp hl))) (S2.top.shp cx) lay (k _ _ _ _ q1 ⟨F2, ow1, S2.pop.push (.bl _)⟩)⟩, w⟩
theorem ptd_inLO_t {j : Nat} {x : Str} {i : Expr} {ti : TD} {pos px : Pos} (hu : X.A.units + 65 < cLine) (hi : PE X i (LE X.K c W ti)) (hv : PE X (.Name x px) (tVar j)) : PT X (.Compare i [.In] [.Name x px] pos) (LT X.K c W (tvD (inLO j false ti))) :=
  PT_imp (pt_cmpR (op_inD hu) hi hv rfl) fun σ H Q ⟨δ, tmp, Qd, Ed, S, q, k, w⟩ => inLO_run (j := j) (n := false) (ti := ti) (fun x y H Q d ds h1 h2 h3 h4 h5 => ⟨d, ds, h1, h2, h3, h4, by rw [Bool.false_bne] at h5; exact h5⟩) σ H _ ⟨δ, tmp, (fun x δ1 => ∃ b, x = .d (.bl b) ∧ Qd b δ1), Ed, S, q, fun v x δ' H' ⟨b, e, q'⟩ ⟨F, ow, S'⟩ => by
    subst e
    cases S'.top
    exact ⟨b, rfl, k _ _ _ q' ⟨F, ow, S'.pop⟩⟩, w⟩
end
end DL
namespace DR
open PySem PySem.Spec PyProof.Rows L2 DL
theorem inLO {δ : DSt} {Q : DK} {E : XD} {j : Nat} {n : Bool} {ti : TD} (h : ti δ (fun x δ1 => ∃ xs, δ1[j]? = some (some (.own (.lst xs))) ∧ Cmp x.toD ∧ Cmp (.lst xs) ∧ Q (.d (.bl (n != ((pyL xs).any fun z => PyData.eqv z x.toD.py)))) δ1) E) : DL.inLO j n ti δ Q E := h
theorem enumi {δ : DSt} {E : XD} {Q : List DL.D → DSt → Prop} {ta : TDA} (h : ta δ (fun as δ1 => ∃ x xs, as = [.d x] ∧ (x = .lst xs ∨ x = .ro xs) ∧ Q (enumL xs) δ1) E) : enumI ta δ Q E := h
theorem enum_at {xs : List DL.D} {i : Nat} {d : DL.D} (h : (enumL xs)[i]? = some d) : ∃ x, xs[i]? = some x ∧ d = .tup [.int (i : Nat), x] := by
  unfold enumL at h
  rw [List.getElem?_map, List.getElem?_zipIdx] at h
  cases q : xs[i]? with
  | none => rw [q] at h; cases h
  | some x =>
    rw [q] at h
    refine ⟨x, rfl, ?_⟩
    simpa using h.symm
theorem enum_len {xs : List DL.D} : (enumL xs).length = xs.length := by simp [enumL]
end DR

set_option Elab.async false
set_option linter.all false
set_option maxRecDepth 100000
/-! several except clauses, each with a name -/
namespace DL
open PySem PySem.Spec PyProof.Rows L2
section
variable {X : Cx} {bd : List Stmt} {g : ExceptHandler} {gs : List ExceptHandler} {qs : List Clause} {pos : Pos} {tb : WX → TS} {out : WX}
end
/-! in data -/
end DL
namespace DR
open PySem PySem.Spec PyProof.Rows L2 DL
end DR

set_option Elab.async false
set_option linter.all false
set_option maxRecDepth 100000
/-! operators, subscripts and comparisons by own defs -/
namespace DL
open PySem PySem.Spec PyProof.Rows L2
section
variable {X : Cx} {k : Nat} {f C : Addr} {fd : FuncData} {ps : List Str} {sp : Sp} {E : L2.St → XK} {a b : Expr} {ta tb : TE} {pos : Pos} {r : L2.St → R2}
/-- as OpR, but what is raised may be wished for at the slots -/
def OpS (X : Cx) (g : Value → Value → Sem Value) (r : L2.St → R2) : Prop := ∀ (pins : List (Addr × Obj)) (t : Shared) (τ : L2.St) (G : Hp) (x y : V) (v u : Value) (Q : VK), Inv X pins τ G t → RelV x v → RelV y u → r τ x y G Q → wpAny (model X.prog X.w) X.A (g v u) (EP X pins τ Q) X.xe t
def tOpS (r : L2.St → R2) (ta tb : TE) : TE := fun τ G Q => ta τ G fun x G1 => tb τ G1 fun y G2 => r τ x y G2 Q
theorem pe_opS {op : Operator} (ho : OpS X (binaryOp op) r) (ha : PE X a ta) (hb : PE X b tb) : PE X (.BinOp a op b pos) (tOpS r ta tb) :=
  ⟨fun pins t τ G Q I h => wpAny_BinOp (binT ha hb I h fun v u t2 x y G2 I2 rx ry q => ho pins t2 τ G2 x y v u Q I2 rx ry q)⟩
/-- both of the class C -/
def rBoth (C : Addr) (sp : Sp) (E : L2.St → XK) : L2.St → R2 := fun τ x y G Q => ∃ p d us q e ws, x = .ref p ∧ y = .ref q ∧ G p = some (.ins C d us) ∧ G q = some (.ins C e ws) ∧ sp [x, y] G Q (E τ)
theorem op_both {op : Operator} (sf : PySem.W.selfFirst X.K C = true) (hs : PySem.W.findIn X.K (.ref C) (PySem.dunder op.info.2) = some (some (.ref f))) (hf : PySem.W.isFn X.K (.ref f) = true) (F : FnOk X.prog X.w X.K X.mg X.base (L2.CX X.prog X.w) k f fd ps sp) (room : Room k X.A) (bd : Binds X.K fd ps [])
    (hx : ∀ τ, PassesAt (L2.CX X.prog X.w) X τ (E τ)) : OpS X (binaryOp op) (rBoth C sp E) := by
  rintro pins t τ G x y v u Q I rx ry ⟨p, d, us, q, e, ws, rfl, rfl, hp, hq, h⟩
  obtain rfl : v = Value.ref p := rx
  obtain rfl : u = Value.ref q := ry
  obtain ⟨_, O, _⟩ := ins_get I.hok hp
  obtain ⟨_, J, _⟩ := O.look
  obtain ⟨_, O2, _⟩ := ins_get I.hok hq
  obtain ⟨_, J2, _⟩ := O2.look
  obtain ⟨_, fr⟩ := I.fr
  refine PySem.W.binop_K (op := op) fr I.ok.mod.kin J J2.type sf hs hf ?_
  exact wpAny_mono (run_fnS (E := E) F room bd (hx τ) I (.cons (show RelV (V.ref p) (Value.ref p) from rfl) (.cons (show RelV (V.ref q) (Value.ref q) from rfl) .nil)) h) (fun z t2 ⟨y, G2, I2, ry, qy⟩ => SlX.cmpback ry ⟨y, G2, I2, ry, qy⟩) fun _ _ z => z
/-- x[y] by an own __getitem__ -/
def rGetI (C : Addr) (sp : Sp) (E : L2.St → XK) : L2.St → R2 := fun τ x y G Q => ∃ p d us, x = .ref p ∧ G p = some (.ins C d us) ∧ sp [x, y] G Q (E τ)
structure GetI (K : PySem.W.Frag) (C f : Addr) : Prop where
  at_ : PySem.W.findIn K (.ref C) "__getitem__" = some (some (.ref f))
  fi : PySem.W.fnIn K f = true
  fn : PySem.W.isFn K (.ref f) = true
theorem pe_getI (gi : GetI X.K C f) (F : FnOk X.prog X.w X.K X.mg X.base (L2.CX X.prog X.w) k f fd ps sp) (room : Room (k + 1) X.A) (bd : Binds X.K fd ps []) (hx : ∀ τ, PassesAt (L2.CX X.prog X.w) X τ (E τ)) (ha : PE X a ta) (hb : PE X b tb)
    (hs : ∀ p (i : Value), subscripted b true (.ref p) i = runValue (.builtin "lifetime.subscript" ⟨[.ref p, i], []⟩)) : PE X (.Subscript a b pos) (tOpS (rGetI C sp E) ta tb) := by
  refine ⟨fun pins t τ G Q I h => Subscript_ (binT ha hb I h fun v u t2 x y G2 I2 rx ry q => ?_)⟩
  obtain ⟨p, d, us, rfl, hp, h⟩ := q
  obtain rfl : v = Value.ref p := rx
  obtain ⟨_, O, _⟩ := ins_get I2.hok hp
  obtain ⟨_, J, _⟩ := O.look
  obtain ⟨_, fr⟩ := I2.fr
  refine PySem.W.sub_K fr I2.ok.mod.kin J gi.at_ gi.fi gi.fn ?_ (hs p u)
  have rr : Vals [V.ref p, y] [Value.ref p, u] := .cons rfl (.cons ry .nil)
  have hl : [Value.ref p, u].length = ps.length := by rw [← rr.length]; exact F.len _ _ _ _ h
  have b' := bd t2 [Value.ref p, u] I2.kIn (by rw [List.append_nil]; exact hl)
  rw [List.append_nil] at b'
  refine wpAny_call (codeAny_mono (F.run X.A.in1 X.stack t2 G2 ⟨[Value.ref p, u], []⟩ _ _ _ (E τ) room.in1 I2.env0.in1 b' rr h) fun fin t3 hq => ?_)
  cases fin with
  | error e => exact hx τ pins _ _ e t3 I2 hq
  | ok fl =>
    cases fl with
    | ret z => exact I2.after hq
    | next => exact hq.elim
    | brk => exact hq.elim
    | cont => exact hq.elim
end
section
variable {K : PySem.W.Frag} {c : Fc} {W : WX} {F H : Hp} {ow : Addr → Option Hold} {δ : DSt} {tmp : List (V × DV)} {σ : L2.St} {Q : VK} {Qd : DK} {Ed : XD} {sd : SpD}
theorem RepL.args : ∀ {vs : List V} {ds : List D}, RepL K F vs ds → ArgsRep K F H vs (ds.map .d) []
  | _, _, .nil => .nil
  | _, _, .cons h t => .d h t.args
/-- a call with data alone -/
theorem lift_data {vs : List V} {ds : List D} (S : SttF K c F ow δ tmp σ H) (r : RepL K F vs ds) (h : sd (ds.map .d) (fun r _ => Qd r δ) (fun x _ => Ed x δ)) (k : ∀ v x δ' H', Qd x δ' → Stt K c δ' ((v, x) :: tmp) σ H' → Q v H') (w : WD K c W tmp Ed) : spOf K sd vs H Q (WE W σ) :=
  ⟨F, _, [], _, _, S.fh, r.args, h, fun v x os F' H' q P rr => k v x δ H' q (ret_push (is := []) (ps := []) S rfl (fun _ _ _ z => nomatch z) .nil P rr), fun cls d x os F' H' q P er => w x δ σ H' F' ow cls d q (S.called (is := []) (ps := []) rfl (fun _ _ _ z => nomatch z) .nil P) er⟩
end
section
variable {X : Cx} {c : Fc} {W : WX} {k : Nat} {f C : Addr} {fd : FuncData} {ps : List Str} {sd : SpD} {a b : Expr} {ta tb : TD} {pos : Pos}
/-- a op b by an own def of the class of both -/
def bothD (C : Addr) (sd : SpD) (ta tb : TD) : TD := fun δ Q E => ta δ (fun x δ1 => tb δ1 (fun y δ2 => ∃ fs gs, x.toD = .obj C fs ∧ y.toD = .obj C gs ∧ sd [.d (.obj C fs), .d (.obj C gs)] (fun r _ => Q r δ2) (fun x _ => E x δ2)) E) E
structure BinOf (K : PySem.W.Frag) (C : Addr) (op : Operator) (f : Addr) : Prop where
  sf : PySem.W.selfFirst K C = true
  at_ : PySem.W.findIn K (.ref C) (PySem.dunder op.info.2) = some (some (.ref f))
  fn : PySem.W.isFn K (.ref f) = true
theorem pd_both {op : Operator} (B : BinOf X.K C op f) (G : FnOk X.prog X.w X.K X.mg X.base (L2.CX X.prog X.w) k f fd ps (spOf X.K sd)) (hr : Room k X.A) (hb : Binds X.K fd ps []) (tk : Takes X W) (he : PE X a (LE X.K c W ta)) (hg : PE X b (LE X.K c W tb)) :
    PE X (.BinOp a op b pos) (LE X.K c W (bothD C sd ta tb)) :=
  PE_imp (pe_opS (op_both (E := WE W) B.sf B.at_ B.fn G hr hb fun τ => passAt tk τ) he hg) fun σ H Q ⟨δ, tmp, Qd, Ed, S, t, k, w⟩ =>
    ⟨δ, tmp, _, Ed, S, t, fun v x δ1 H1 t1 S1 => ⟨δ1, _, _, Ed, S1, t1, fun u y δ2 H2 ⟨fs, gs, ex, ey, t2⟩ ⟨F, ow, S2⟩ => by
      obtain ⟨F', S3, _⟩ := S2.top_frz2
      rw [ex, ey] at S3
      have r1 := S3.pop.top
      have r2 := S3.top
      have both : ∃ p q, v = .ref p ∧ u = .ref q := by
        cases r1; cases r2; exact ⟨_, _, rfl, rfl⟩
      obtain ⟨p, q, rfl, rfl⟩ := both
      have s1 : ∃ d us, H2 p = some (.ins C d us) := by cases r1 with | obj s _ => exact ⟨_, _, S3.fh _ _ s⟩
      have s2 : ∃ d us, H2 q = some (.ins C d us) := by cases r2 with | obj s _ => exact ⟨_, _, S3.fh _ _ s⟩
      obtain ⟨d1, us1, h1⟩ := s1
      obtain ⟨d2, us2, h2⟩ := s2
      exact ⟨p, d1, us1, q, d2, us2, rfl, rfl, h1, h2, lift_data (ds := [.obj C fs, .obj C gs]) S3.pop.pop (.cons r1 (.cons r2 .nil)) t2 k w⟩, w.push⟩, w⟩
/-- a[b] by an own def -/
def subD (C : Addr) (sd : SpD) (ta tb : TD) : TD := fun δ Q E => ta δ (fun x δ1 => tb δ1 (fun y δ2 => ∃ fs, x.toD = .obj C fs ∧ sd [.d (.obj C fs), .d y.toD] (fun r _ => Q r δ2) (fun x _ => E x δ2)) E) E
theorem pd_sub (gi : GetI X.K C f) (G : FnOk X.prog X.w X.K X.mg X.base (L2.CX X.prog X.w) k f fd ps (spOf X.K sd)) (hr : Room (k + 1) X.A) (hb : Binds X.K fd ps []) (tk : Takes X W) (he : PE X a (LE X.K c W ta)) (hg : PE X b (LE X.K c W tb))
    (hs : ∀ p (i : Value), subscripted b true (.ref p) i = runValue (.builtin "lifetime.subscript" ⟨[.ref p, i], []⟩)) : PE X (.Subscript a b pos) (LE X.K c W (subD C sd ta tb)) :=
  PE_imp (pe_getI (E := WE W) gi G hr hb (fun τ => passAt tk τ) he hg hs) fun σ H Q ⟨δ, tmp, Qd, Ed, S, t, k, w⟩ =>
    ⟨δ, tmp, _, Ed, S, t, fun v x δ1 H1 t1 S1 => ⟨δ1, _, _, Ed, S1, t1, fun u y δ2 H2 ⟨fs, ex, t2⟩ ⟨F, ow, S2⟩ => by
      obtain ⟨F', S3, _⟩ := S2.top_frz2
      rw [ex] at S3
      have r1 := S3.pop.top
      have r2 := S3.top
      have one : ∃ p, v = .ref p := by cases r1; exact ⟨_, rfl⟩
      obtain ⟨p, rfl⟩ := one
      have s1 : ∃ d us, H2 p = some (.ins C d us) := by cases r1 with | obj s _ => exact ⟨_, _, S3.fh _ _ s⟩
      obtain ⟨d1, us1, h1⟩ := s1
      exact ⟨p, d1, us1, rfl, h1, lift_data (ds := [.obj C fs, y.toD]) S3.pop.pop (.cons r1 (.cons r2 .nil)) t2 k w⟩, w.push⟩, w⟩
end
end DL
namespace DR
open PySem PySem.Spec PyProof.Rows L2 DL
theorem sub {C : Addr} {sd : SpD} {ta tb : TD} {δ : DSt} {Q : DK} {E : XD} (h : ta δ (fun x δ1 => tb δ1 (fun y δ2 => ∃ fs, x.toD = .obj C fs ∧ sd [.d (.obj C fs), .d y.toD] (fun r _ => Q r δ2) (fun x _ => E x δ2)) E) E) : subD C sd ta tb δ Q E := h
end DR

set_option Elab.async false
set_option linter.all false
set_option maxRecDepth 100000
/-! == and != by an own def; classes called with keywords; defs with a star; classmethods -/
namespace DL
open PySem PySem.Spec PyProof.Rows L2
/-! ### == -/
/-- what stands on the right -/
inductive RightV (K : PySem.W.Frag) (G : Hp) (C : Addr) : V → Value → Prop where
  | val {y : V} {t : Value} (h : TyX K G y t) : RightV K G C y t
  | own {q e : Addr} {ws : List (Str × V)} (h : G q = some (.ins C e ws)) : RightV K G C (.ref q) (.ref C)
def rEqC (K : PySem.W.Frag) (C : Addr) (sp : Sp) : R2 := fun x y G Q => ∃ p d us t, x = .ref p ∧ G p = some (.ins C d us) ∧ RightV K G C y t ∧ PySem.W.notFirst K C t = true ∧ sp [x, y] G Q (fun _ _ _ => False)
section
variable {X : Cx} {k : Nat} {f C : Addr} {fd : FuncData} {ps : List Str} {sp : Sp}
theorem op_eqC (hs : PySem.W.findIn X.K (.ref C) "__eq__" = some (some (.ref f))) (hf : PySem.W.isFn X.K (.ref f) = true) (F : FnOk X.prog X.w X.K X.mg X.base (L2.CX X.prog X.w) k f fd ps sp) (room : Room k X.A) (bd : Binds X.K fd ps []) : OpR X (compareOp .Eq) (rEqC X.K C sp) := by
  rintro pins t τ G x y v u Q I rx ry ⟨p, d, us, ty, rfl, hp, hy, hn, h⟩
  obtain rfl : v = Value.ref p := rx
  obtain ⟨_, O, _⟩ := ins_get I.hok hp
  obtain ⟨_, J, _⟩ := O.look
  obtain ⟨_, fr⟩ := I.fr
  have look : PySem.W.Looks (model X.prog X.w) t.heap (typeOf u) ty := by
    cases hy with
    | val z =>
      obtain ⟨_, Z, z, _⟩ := kit_of I ry z
      exact Z.ty _ _ I.kIn z
    | own z =>
      obtain rfl : u = Value.ref _ := ry
      obtain ⟨_, O2, _⟩ := ins_get I.hok z
      obtain ⟨_, J2, _⟩ := O2.look
      exact J2.type
  refine PySem.W.cmp_K (op := .Eq) room.units0 fr I.ok.mod.kin J look hn hs hf ?_
  have run := run_fnS (E := WE W0) (CX := L2.CX X.prog X.w) (σ := τ) F room bd (passAt takes0 τ) I (.cons (show RelV (V.ref p) (Value.ref p) from rfl) (.cons ry .nil)) h
  exact wpAny_mono run (fun z t2 ⟨y, G2, I2, ry, qy⟩ => SlX.cmpback ry ⟨y, G2, I2, ry, qy⟩) fun _ _ z => z
end
/-! ### != -/
theorem ns_mg {K : PySem.W.Frag} {h : Heap} {N : Addr} {mg : Str → Option Value} {n : Str} {v : Value} (hX : K.In h) (hG : h.Ns N mg) (e : PySem.W.nsIn K N n = some (some v)) : mg n = some v := by
  obtain ⟨ob, es, ep, ho, hd, _, hf⟩ := hG
  unfold PySem.W.nsIn at e
  split at e
  · rename_i c d es2 n2 sl q
    cases ho.symm.trans (hX _ _ q)
    cases hd
    split at e
    · rename_i en he
      cases e
      rw [← hf]
      unfold nsFind findBy
      rw [← Array.find?_toList, he]
      rfl
    · split at e <;> cases e
  · cases e
/-- the class's own dict has __eq__ and no __ne__ -/
structure NeOf (K : PySem.W.Frag) (C f : Addr) : Prop where
  cls : ∃ nm q N bs hdct sn sub ab col dd k0 k1 k2 k3 k5 newId, K.lookup C = some (excClassObj nm q C N bs [.type "object"] hdct sn sub ab col dd k0 k1 k2 k3 k5 newId) ∧ PySem.W.nsOkIn K N = true ∧ PySem.W.nsIn K N "__eq__" = some (some (.ref f)) ∧ PySem.W.nsIn K N "__ne__" = some none
  fn : ∃ of, K.lookup f = some of ∧ of.cls = .type "function"
def rNeC (C : Addr) (sp : Sp) : R2 := fun x y G Q => ∃ p d us q e ws, x = .ref p ∧ y = .ref q ∧ G p = some (.ins C d us) ∧ G q = some (.ins C e ws) ∧ sp [x, y] G (fun z G2 => ∃ b, z = .bl b ∧ Q (.bl (!b)) G2) (fun _ _ _ => False)
section
variable {X : Cx} {k : Nat} {f C : Addr} {fd : FuncData} {ps : List Str} {sp : Sp}
theorem op_neC (N : NeOf X.K C f) (F : FnOk X.prog X.w X.K X.mg X.base (L2.CX X.prog X.w) k f fd ps sp) (room : Room (k + 1) X.A) (bd : Binds X.K fd ps []) : OpR X (compareOp .NotEq) (rNeC C sp) := by
  rintro pins t τ G x y v u Q I rx ry ⟨p, d, us, q, e, ws, rfl, rfl, hp, hq, h⟩
  obtain rfl : v = Value.ref p := rx
  obtain rfl : u = Value.ref q := ry
  obtain ⟨_, O, _⟩ := ins_get I.hok hp
  obtain ⟨_, J, _⟩ := O.look
  obtain ⟨_, O2, _⟩ := ins_get I.hok hq
  obtain ⟨_, J2, _⟩ := O2.look
  obtain ⟨nm, qn, NS, bs, hdct, sn, sub, ab, col, dd, k0, k1, k2, k3, k5, newId, hC, hN, hE, hNe⟩ := N.cls
  obtain ⟨of, hf, hfc⟩ := N.fn
  have ns : t.heap.Ns NS (t.heap.nsMap NS) := .of_isNs (PySem.W.isNs_of_in I.kIn hN)
  have own : t.heap.OwnEqNoNe p C f "object" [.type "object"] := ⟨_, of, nm, qn, NS, bs, hdct, sn, sub, ab, col, dd, k0, k1, k2, k3, k5, newId, _, _, J.1, J.2, I.kIn _ _ hC, ns, ns_mg I.kIn ns hE, I.kIn _ _ hf, hfc, PySem.F.cmp_object.mro, PySem.F.cmp_object.eq.lookup, PySem.W.ns_none_of I.kIn ns hNe⟩
  have rr : Vals [V.ref p, V.ref q] [Value.ref p, Value.ref q] := .cons rfl (.cons rfl .nil)
  have hl : [Value.ref p, Value.ref q].length = ps.length := by rw [← rr.length]; exact F.len _ _ _ _ h
  have b' := bd t [Value.ref p, Value.ref q] I.kIn (by rw [List.append_nil]; exact hl)
  rw [List.append_nil] at b'
  have run : wpAny (model X.prog X.w) X.A.in1 (call (.ref f) [.ref p, .ref q]) (fun z t2 => ∃ b, z = .bool b ∧ EP X pins τ Q (.bool (!b)) t2) X.xe t := by
    refine wpAny_call (codeAny_mono (F.run X.A.in1 X.stack t G ⟨[Value.ref p, Value.ref q], []⟩ _ _ _ _ room.in1 I.env0.in1 b' rr h) fun fin t2 z => ?_)
    cases fin with
    | error e => exact passAt (W := W0) takes0 τ pins _ _ e t2 I z
    | ok fl =>
      cases fl with
      | ret w =>
        obtain ⟨y, G2, J3, ry, b, ey, q2⟩ := I.after z
        subst ey
        exact ⟨b, ry, ⟨V.bl (!b), G2, J3, rfl, q2⟩⟩
      | next => exact z.elim
      | brk => exact z.elim
      | cont => exact z.elim
  obtain ⟨hh, gl, gd, tk, os⟩ := t
  exact compareOp_ne_ownEq PySem.F.cmp_object own J2.1 J2.2 (by have := room.units; omega) run
end
section
variable {K : PySem.W.Frag} {F H F' H' : Hp} {C : Addr} {sd : SpD}
theorem Post.ext (P : Post K F H [] [] F' H') : Ext F H F' H' := ⟨P.f, fun a u e => P.fr a u e (fun z => nomatch z), P.fh, P.nw⟩
theorem Post.nil {os : List OC} (P : Post K F H [] os F' H') : os = [] := by cases P.os; rfl
/-- what may stand on the right of an own == -/
def RightD (K : PySem.W.Frag) (C : Addr) (b : D) : Prop := (∃ gs, b = .obj C gs ∧ PySem.W.notFirst K C (.ref C) = true) ∨ ∃ t, TyD K b t ∧ PySem.W.notFirst K C t = true
abbrev eqC (K : PySem.W.Frag) (C : Addr) (sd : SpD) : RD2 := fun a b Q => ∃ fs, a = .obj C fs ∧ RightD K C b ∧ sd [.d a, .d b] (fun r _ => ∃ t, r = .d (.bl t) ∧ Q (.d (.bl t))) (fun _ _ => False)
theorem op2_eqC : Op2 K (rEqC K C (spOf K sd)) (eqC K C sd) := fun x y a b F H Q Qd s rx ry ⟨fs, ea, hb, h⟩ kq => by
  subst ea
  have one : ∃ p, x = .ref p := by cases rx; exact ⟨_, rfl⟩
  obtain ⟨p, rfl⟩ := one
  have s1 : ∃ d us, H p = some (.ins C d us) := by cases rx with | obj s1 _ => exact ⟨_, _, s _ _ s1⟩
  obtain ⟨d, us, hp⟩ := s1
  have hy : ∃ t, RightV K H C y t ∧ PySem.W.notFirst K C t = true := by
    rcases hb with ⟨gs, rfl, hn⟩ | ⟨t, ht, hn⟩
    · cases ry with | obj s2 _ => exact ⟨_, .own (s _ _ s2), hn⟩
    · exact ⟨t, .val (tyD_x s ry ht), hn⟩
  obtain ⟨t, h1, h2⟩ := hy
  refine ⟨p, d, us, t, rfl, hp, h1, h2, F, _, [], _, _, s, (RepL.cons rx (.cons ry .nil)).args, h, fun v r os F' H' ⟨t, er, q⟩ P rr => ?_, fun _ _ _ _ _ _ z _ _ => z.elim⟩
  subst er
  cases P.nil
  exact kq _ _ F' H' q (.d P.ext rr)
abbrev neC (K : PySem.W.Frag) (C : Addr) (sd : SpD) : RD2 := fun a b Q => ∃ fs gs, a = .obj C fs ∧ b = .obj C gs ∧ sd [.d a, .d b] (fun r _ => ∃ t, r = .d (.bl t) ∧ Q (.d (.bl (!t)))) (fun _ _ => False)
theorem op2_neC : Op2 K (rNeC C (spOf K sd)) (neC K C sd) := fun x y a b F H Q Qd s rx ry ⟨fs, gs, ea, eb, h⟩ kq => by
  subst ea eb
  have two : ∃ p q, x = .ref p ∧ y = .ref q := by cases rx; cases ry; exact ⟨_, _, rfl, rfl⟩
  obtain ⟨p, q, rfl, rfl⟩ := two
  have s1 : ∃ d us, H p = some (.ins C d us) := by cases rx with | obj s1 _ => exact ⟨_, _, s _ _ s1⟩
  have s2 : ∃ d us, H q = some (.ins C d us) := by cases ry with | obj s1 _ => exact ⟨_, _, s _ _ s1⟩
  obtain ⟨d, us, hp⟩ := s1
  obtain ⟨e, ws, hq⟩ := s2
  refine ⟨p, d, us, q, e, ws, rfl, rfl, hp, hq, F, _, [], _, _, s, (RepL.cons rx (.cons ry .nil)).args, h, fun v r os F' H' ⟨t, er, q⟩ P rr => ?_, fun _ _ _ _ _ _ z _ _ => z.elim⟩
  subst er
  cases P.nil
  cases (show Rep K F' v (.bl t) from rr)
  exact ⟨t, rfl, kq _ _ F' H' q (.d P.ext (.bl _))⟩
end
end DL

set_option Elab.async false
set_option linter.all false
set_option maxRecDepth 100000
/-! classes called with keywords, defs with a star, classmethods -/
namespace DL
open PySem PySem.Spec PyProof.Rows L2
section
variable {X : Cx} {k n : Nat} {f g C : Addr} {fd : FuncData} {ps ks : List Str} {sp : Sp} {E : L2.St → XK} {x m : Str} {p pos apos : Pos} {e o : Expr} {es : List Expr} {kws : List Keyword} {t tk : TA} {to : TE} {gU : List Value → List Value → List Value} {gV : List V → List V → List V} {i : Nat}
/-- a new instance by keywords too; what __init__ raises is wished for at the slots -/
def tNewK (C : Addr) (n m : Nat) (sp : Sp) (gV : List V → List V → List V) (E : L2.St → XK) (t tk : TA) : TE := fun τ G Q => t τ G fun vs G1 => tk τ G1 fun zs G2 => vs.length = n ∧ zs.length = m ∧ ∀ x dx, G2 x = none → G2 dx = none → dx ≠ x →
  sp (gV (.ref x :: vs) zs) (upd (upd G2 dx (.own x)) x (.ins C dx [])) (fun v G3 => v = .non ∧ Q (.ref x) G3) (E τ)
theorem run_newK {pins : List (Addr × Obj)} {τ : L2.St} {G : Hp} {s : Shared} {Q : VK} {us ws : List Value} {vs zs : List V} (M : Mk X.K C f) (F : FnOk X.prog X.w X.K X.mg X.base (L2.CX X.prog X.w) k f fd ps sp) (room : Room (k + 1) X.A) (kb : KBn X.K fd ps (n + 1) ks gU gV) (hx : PassesAt (L2.CX X.prog X.w) X τ (E τ))
    (I : Inv X pins τ G s) (rv : Vals vs us) (rz : Vals zs ws) (lv : vs.length = n) (lz : zs.length = ks.length)
    (h : ∀ x dx, G x = none → G dx = none → dx ≠ x → sp (gV (.ref x :: vs) zs) (upd (upd G dx (.own x)) x (.ins C dx [])) (fun v G2 => v = .non ∧ Q (.ref x) G2) (E τ)) :
    wpAny (model X.prog X.w) X.A (call (.ref C) us (ks.zip ws)) (EP X pins τ Q) X.xe s := by
  let z := s.heap.objs.size
  have q0 := h (z + 1) z (I.hok.fresh (Nat.le_succ _)) (I.hok.fresh (Nat.le_refl _)) (Nat.ne_of_lt (Nat.lt_succ_self _))
  have J := Inv.made (C := C) I
  have rr : Vals (V.ref (z + 1) :: vs) (Value.ref (z + 1) :: us) := .cons rfl rv
  have hn : (Value.ref (z + 1) :: us).length = n + 1 := congrArg (· + 1) (rv.length.symm.trans lv)
  have run := F.run _ X.stack _ _ ⟨Value.ref (z + 1) :: us, ks.zip ws⟩ (gU (Value.ref (z + 1) :: us) ws) _ _ (E τ) (room.make C us (ks.zip ws)) (J.env0.make C us (ks.zip ws)) (kb.to _ (Value.ref (z + 1) :: us) ws J.kIn hn (rz.length.symm.trans lz)) (kb.rel rr rz) q0
  refine wpAny_call (make_map (f := f) I.kIn M.makes M.init (beq_iff_eq.mp M.fn) (codeAny_mono run fun fin s2 y => ?_))
  cases fin with
  | error er => exact hx pins _ _ er s2 J y
  | ok fl =>
    cases fl with
    | next => exact y.elim
    | brk => exact y.elim
    | cont => exact y.elim
    | ret u =>
      obtain ⟨v, G2, J2, rv2, ev, q3⟩ := J.after y
      subst ev
      exact ⟨rv2, ⟨V.ref (z + 1), G2, J2, rfl, q3⟩⟩
theorem pe_newK (M : Mk X.K C f) (F : FnOk X.prog X.w X.K X.mg X.base (L2.CX X.prog X.w) k f fd ps sp) (room : Room (k + 1) X.A) (hg : Gl X x) (hm : X.mg x = some (.ref C)) (kb : KBn X.K fd ps (n + 1) ks gU gV) (hx : ∀ τ, PassesAt (L2.CX X.prog X.w) X τ (E τ)) (ha : PA X (e :: es) t) (hk : PK X kws tk)
    (hall : (backToKw pos (keywordEach kws X.env)).all (·.1.isSome) = true := by rfl) (hks : (backToKw pos (keywordEach kws X.env)).filterMap (·.1) = ks := by rfl) (hdb : (x == ("__debug__" : Str)) = false := by decide)
    (he : starEach (e :: es) X.env = (false, eval e X.env) :: starEach es X.env := by rfl) (hpl : ((backTo pos (starEach (e :: es) X.env)).any (·.1) || (backToKw pos (keywordEach kws X.env)).any (·.1.isNone)) = false := by rfl) :
    PE X (.Call (.Name x p) (e :: es) kws pos) (tNewK C n ks.length sp gV E t tk) :=
  ⟨fun pins s τ G Q I h => wpAny_Call_Name_kw (ld_glob I hg hm (PySem.W.callWith_KW (h₀ := X.base) I.ok.mod.kin M.kp hall (thn (ha.run pos pins s τ G _ I h) fun us s1 ⟨vs, G1, I1, rv, q⟩ =>
    thn (hk.run pos pins s1 τ G1 _ I1 q) fun ws s2 ⟨zs, G2, I2, rz, lv, lz, q2⟩ => ⟨I2.kIn, by rw [hks]; exact run_newK M F room kb (hx τ) I2 rv rz lv lz q2⟩) hpl he) hdb)⟩
/-! ### a def by what its values are (a star among its parameters) -/
/-! ### C.m(..), m a classmethod -/
end
end DL

set_option Elab.async false
set_option linter.all false
set_option maxRecDepth 100000
/-! the same in data -/
namespace DL
open PySem PySem.Spec PyProof.Rows L2
section
variable {K : PySem.W.Frag} {c : Fc} {W : WX} {F H : Hp} {ow : Addr → Option Hold} {δ : DSt} {tmp : List (V × DV)} {σ : L2.St}
theorem SttF.pushL : ∀ {vs : List V} {ds : List D} {tmp : List (V × DV)}, SttF K c F ow δ tmp σ H → RepL K F vs ds → SttF K c F ow δ (vs.zip (ds.map .d) ++ tmp) σ H
  | _, _, _, S, .nil => S
  | _, _, _, S, .cons h t => (SttF.pushL S t).push h
theorem SttF.popL : ∀ {vs : List V} {ds : List D} {tmp : List (V × DV)}, vs.length = ds.length → SttF K c F ow δ (vs.zip (ds.map .d) ++ tmp) σ H → RepL K F vs ds ∧ SttF K c F ow δ tmp σ H
  | [], [], _, _, S => ⟨.nil, S⟩
  | v :: vs, d :: ds, tmp, hl, S => by
    have S' : SttF K c F ow δ ((v, .d d) :: (vs.zip (ds.map .d) ++ tmp)) σ H := S
    obtain ⟨r, S2⟩ := SttF.popL (Nat.succ.inj hl) S'.pop
    exact ⟨.cons S'.top r, S2⟩
theorem WD.pushL {Ed : XD} {l : List (V × DV)} (w : WD K c W tmp Ed) : WD K c W (l ++ tmp) Ed := by
  induction l with
  | nil => exact w
  | cons a l ih => obtain ⟨v, x⟩ := a; exact ih.push
theorem RepL.avs : ∀ {vs : List V} {ds : List D}, RepL K F vs ds → RepArgs K F σ vs (ds.map .d)
  | _, _, .nil => .nil
  | _, _, .cons h t => .d h t.avs
theorem argsOf_d : ∀ {ds : List D}, argsOf δ (ds.map .d) (ds.map .d)
  | [] => rfl
  | _ :: _ => ⟨_, rfl, argsOf_d⟩
theorem slots_d : ∀ {ds : List D}, slotsOf (ds.map .d) = []
  | [] => rfl
  | _ :: ds => slots_d (ds := ds)
end
section
variable {X : Cx} {c : Fc} {W : WX} {k n : Nat} {f g C : Addr} {fd : FuncData} {ps ks : List Str} {sd : SpD} {x m : Str} {p pos apos kpos : Pos} {e o : Expr} {es : List Expr} {kws : List Keyword} {t : TD} {ta tk : TDA} {nm : Option Str} {gU : List Value → List Value → List Value} {gV : List V → List V → List V} {i : Nat}
theorem PK_imp {t t' : TA} (h : PK X kws t) (f : ∀ σ H Q, t' σ H Q → t σ H Q) : PK X kws t' := ⟨fun pos pins s σ H Q I q => h.run pos pins s σ H Q I (f _ _ _ q)⟩
theorem pkd_nil : PK X [] (LA X.K c W nilD) := PK_imp pk_nil fun σ H Q ⟨δ, tmp, Qd, Ed, ⟨F, ow, S⟩, q, k, w⟩ => k [] [] δ F ow H q S .nil
theorem pkd_cons (he : PE X e (LE X.K c W t)) (hr : PK X kws (LA X.K c W tk)) : PK X (⟨nm, e, kpos⟩ :: kws) (LA X.K c W (consD t tk)) :=
  PK_imp (pk_cons he hr) fun σ H Q ⟨δ, tmp, Qd, Ed, S, t, k, w⟩ => ⟨δ, tmp, _, Ed, S, t, fun v x δ1 H1 q1 ⟨F, ow, S1⟩ => by
    obtain ⟨F', S2, _⟩ := S1.top_frz
    exact ⟨δ1, _, _, Ed, ⟨F', ow, S2⟩, q1, fun vs as δ2 F2 ow2 H2 q2 S3 ra => k _ _ _ _ _ _ q2 S3.pop (.d S3.top ra), w.push⟩, w⟩
/-- C(.., k = v, ..) of data alone; dd: the defaults behind -/
def newKD (C : Addr) (n m : Nat) (dd : List D) (sd : SpD) (ta tk : TDA) : TD := fun δ Q E => ta δ (fun as δ1 => ∃ ds, as = ds.map .d ∧ ds.length = n ∧ tk δ1 (fun zs δ2 => ∃ es, zs = es.map .d ∧ es.length = m ∧
  sd (.own (.ins C []) :: (ds ++ es ++ dd).map .d) (fun r os => r = .d .non ∧ ∃ fs os', os = .ins C fs :: os' ∧ Q (.d (.obj C fs)) δ2) (fun x os => ∃ o os', os = o :: os' ∧ E x δ2)) E) E
theorem lift_newK {K : PySem.W.Frag} {dv : List V} {dd : List D} {tA tB : TA} {m : Nat} (hA : tA = LA K c W ta) (hB : tB = LA K c W tk) (hd : ∀ F, RepL K F dv dd) (hg : ∀ v vs zs, gV (v :: vs) zs = v :: (vs ++ zs ++ dv)) : ∀ σ H Q, LE K c W (newKD C n m dd sd ta tk) σ H Q → tNewK C n m (spOf K sd) gV (WE W) tA tB σ H Q := by
  subst hA hB
  rintro σ H Q ⟨δ, tmp, Qd, Ed, S, t, k, w⟩
  refine ⟨δ, tmp, _, Ed, S, t, fun vs as δ1 F ow H1 ⟨ds, ea, ln, t1⟩ S1 ra => ?_, w⟩
  subst ea
  have r1 := args_d ra
  refine ⟨δ1, vs.zip (ds.map .d) ++ tmp, _, Ed, ⟨F, ow, S1.pushL r1⟩, t1, fun zs bs δ2 F2 ow2 H2 ⟨es, eb, lm, h⟩ S2 rb => ?_, w.pushL⟩
  subst eb
  have r2 := args_d rb
  obtain ⟨r1, S3⟩ := S2.popL r1.len
  refine ⟨r1.len.trans ln, r2.len.trans lm, fun y dy ny ndy ne => ?_⟩
  rw [hg]
  refine lift_make (as := (ds ++ es ++ dd).map .d) (xs := (ds ++ es ++ dd).map .d) (Qd := Qd) (Ed := Ed) S3 ((r1.app r2).app (hd F2)).avs argsOf_d (by rw [slots_d]; exact .nil) ?_ k w y dy ny ndy ne
  rw [slots_d]
  exact h
/-- the class called by its name -/
theorem pd_newK {dv : List V} {dd : List D} (M : Mk X.K C f) (G : FnOk X.prog X.w X.K X.mg X.base (L2.CX X.prog X.w) k f fd ps (spOf X.K sd)) (hr : Room (k + 1) X.A) (hg : Gl X x) (hm : X.mg x = some (.ref C)) (kb : KBn X.K fd ps (n + 1) ks gU gV) (hd : ∀ F, RepL X.K F dv dd) (hv : ∀ v vs zs, gV (v :: vs) zs = v :: (vs ++ zs ++ dv)) (tk0 : Takes X W)
    (ha : PA X (e :: es) (LA X.K c W ta)) (hk : PK X kws (LA X.K c W tk))
    (hall : (backToKw pos (keywordEach kws X.env)).all (·.1.isSome) = true := by rfl) (hks : (backToKw pos (keywordEach kws X.env)).filterMap (·.1) = ks := by rfl) (hdb : (x == ("__debug__" : Str)) = false := by decide)
    (he : starEach (e :: es) X.env = (false, eval e X.env) :: starEach es X.env := by rfl) (hpl : ((backTo pos (starEach (e :: es) X.env)).any (·.1) || (backToKw pos (keywordEach kws X.env)).any (·.1.isNone)) = false := by rfl) :
    PE X (.Call (.Name x p) (e :: es) kws pos) (LE X.K c W (newKD C n ks.length dd sd ta tk)) :=
  PE_imp (pe_newK (E := WE W) M G hr hg hm kb (fun τ => passAt tk0 τ) ha hk hall hks hdb he hpl) (lift_newK rfl rfl hd hv)
/-! ### by values alone -/
end
/-! ### a def with a star -/
section
variable {P : Program} {w : World} {K : PySem.W.Frag} {mg : Str → Option Value} {base : Heap}
end
end DL
namespace DR
open PySem PySem.Spec PyProof.Rows L2 DL
section
variable {δ : DSt} {Q : DK} {E : XD}
theorem newk {C : Addr} {n m : Nat} {dd : List DL.D} {sd : SpD} {ta tk : TDA} (h : ta δ (fun as δ1 => ∃ ds, as = ds.map .d ∧ ds.length = n ∧ tk δ1 (fun zs δ2 => ∃ es, zs = es.map .d ∧ es.length = m ∧
  sd (.own (.ins C []) :: (ds ++ es ++ dd).map .d) (fun r os => r = .d .non ∧ ∃ fs os', os = .ins C fs :: os' ∧ Q (.d (.obj C fs)) δ2) (fun x os => ∃ o os', os = o :: os' ∧ E x δ2)) E) E) : newKD C n m dd sd ta tk δ Q E := h
end
end DR

set_option Elab.async false
set_option linter.all false
set_option maxRecDepth 100000
/-! walking an object whose __iter__ hands back iter(self.f), f a tuple -/
namespace DL
open PySem PySem.Spec PyProof.Rows L2
/-! ### iter of a tuple -/
abbrev titObj (l : Addr) : Obj := { cls := .type "tuple_iterator", data := .fields #[.ref l, .int 0 0] }
def TitO (l it : Addr) : HO := .ext fun h => h.get? it = some (titObj l)
theorem titO_ok {P : Program} {w : World} {G : Hp} {h : Heap} {l it : Addr} (e : h.get? it = some (titObj l)) : ObjOk P w G h it (TitO l it) := ⟨e, ⟨_, e⟩, fun _ _ q k => k _ q⟩
theorem run_iterT {prog : Program} {w : World} {A : Around} {E : Value → Shared → Prop} {s : Shared} {l : Addr} {items : Array Value} {Q : Value → Shared → Prop} (hl : s.heap.IsTuple l items) (h : Q (.ref s.heap.objs.size) { s with heap := s.heap.push (titObj l) }) : wpAny (model prog w) A (call (.builtin "iter") [.ref l]) Q E s := by
  refine Calls.call_function_entry (by decide +kernel) (by decide +kernel) PySem.W.kdk_entry_iter (PySem.W.kdk_args_iter _) ?_
  unfold Builtin.«iter»
  refine wpAny_bind (m := someArgs "iter" 1 2 _) (wpAny_of_eq (a := [Value.ref l]) (by first | rfl | kernel_rfl!) ?_)
  show wpAny _ _ (pyIter (.ref l) >>= _) _ _ s
  exact wpAny_bind (wpAny_pyIter_tuple hl (wpAny_pure ⟨_, rfl, h⟩))
def rIterT (K : PySem.W.Frag) (n : Nat) : List V → Hp → VK → Prop := fun xs G Q => ∃ (l : Addr) (zs : List V), xs = [.ref l] ∧ SqT K G l zs ∧ ∀ it, G it = none → n ≤ it → Q (.ref it) (upd G it (TitO l it))
theorem call_iterT {X : Cx} : CallR X (.builtin "iter") (rIterT X.K X.s_0.heap.objs.size) := by
  rintro pins s σ G xs us Q I r ⟨l, zs, rfl, hq, q⟩
  obtain ⟨u, rfl, ru⟩ := r.one
  obtain rfl : u = Value.ref l := ru
  obtain ⟨its, rv, pl, hz⟩ := I.tuple hq
  exact run_iterT (items := its.toArray) pl ⟨.ref s.heap.objs.size, _, I.laid (t' := s.toks) (fun _ _ e => Heap.get?_push_of_some _ e) (Nat.le_refl _) (titO_ok (Heap.get?_push_size _ rfl)), rfl, q _ (I.hok.fresh (Nat.le_refl _)) I.sz⟩
/-! ### a def run where it stands -/
theorem run_at {P : Program} {w : World} {K : PySem.W.Frag} {mg : Str → Option Value} {base : Heap} {k : Nat} {f : Addr} {name qual : Str} {params : Arguments} {body : List Stmt} {scope : Scope} {dV kV doc pm cdv ct oc : Value} {an od : Option Addr}
    {osl : Array (Option Value)} {N ps : List Str} (lk : K.lookup f = some ⟨oc, od, .func (PySem.W.fnOf name qual params body scope dV kV doc pm an cdv ct), osl⟩) (hcd : PySem.W.codeIn K cdv qual = true) (S : FnScope N ps scope)
    {A : Around} {outer : List Env} {s : Shared} {G : Hp} {args : Args} {us : List Value} {vs : List V} {Q : VK} {E : XK} (hr : Room (k + 1) A) (e0 : Env0 P w K mg base A outer s G) (hb : BindsTo s (PySem.W.fnOf name qual params body scope dV kV doc pm an cdv ct) args (ps.zip us)) (rv : Vals vs us) (hl : vs.length = ps.length)
    (hbody : Room k (A.deeper (envOfC qual scope s.heap.objs.size f cdv)) → ∃ t, PSs (cxOf (L2.CX P w) P w K mg base N qual scope f cdv A outer s G E) body t ∧ t { nx := fun _ G2 => Q .non G2, rt := Q } (start N vs) G) :
    codeAny (model P w) A (.call (.ref f) args) (CR (L2.CX P w) outer P w G s Q E) s := by
  have kin : K.In s.heap := e0.mod.kin.keeps fun b o e => (e0.bs b o e).1
  have lim : s.heap.NoLimit := e0.mod.nolimit.keeps fun b o e => (e0.bs b o e).1
  refine codeAny_call_function hr.depth (kin _ _ lk) rfl S.co S.gen rfl (PySem.W.codeRec_of kin hcd) (hb _ _ _ _ (wpAny_newFunctionEnv_cells S.kind (fun y hy => ?_) fun env he s1 x => ?_))
  · rcases S.par y.1 (List.of_mem_zip hy).1 with q | q
    · exact .inl q
    · exact .inr ⟨q, PySem.W.cellsFrom_some _ _ _ (.inl q)⟩
  · subst he
    obtain ⟨t, ht, hq⟩ := hbody (hr.deeper _)
    have I0 : Inv (cxOf (L2.CX P w) P w K mg base N qual scope f cdv A outer s G E) [] (start N vs) G s1 := inv_start S hr.hd e0 hl rv x
    refine ⟨lim.keeps x.toInCall.keep, codeAny_func (wpAny_mono (ht.run [] s1 (start N vs) G _ I0 hq) (fun fl s2 z => ?_) fun _ _ z => z)⟩
    cases fl with
    | ret u => obtain ⟨v, σ2, G2, J, rv2, q⟩ := z; exact ⟨v, G2, J.os, J.bare, J.base, J.hok, rv2, q⟩
    | next => obtain ⟨σ2, G2, J, q⟩ := z; exact ⟨V.non, G2, J.os, J.bare, J.base, J.hok, rfl, q⟩
    | brk => obtain ⟨_, _, _, q⟩ := z; exact q.elim
    | cont => obtain ⟨_, _, _, q⟩ := z; exact q.elim
/-! ### the class's __iter__ -/
/-- def __iter__(self): return iter(self.fld) -/
structure IterOf (K : PySem.W.Frag) (C f : Addr) (qual fld : Str) (st : Stmt) (fd : FuncData) : Prop where
  at_ : PySem.W.findIn K (.ref C) "__iter__" = some (some (.ref f))
  fn : PySem.W.isFn K (.ref f) = true
  fu : Fun K "__iter__" qual st f fd
  sc : FnScope ["self"] ["self"] (defScope st)
  bd : Binds K fd ["self"] []
  body : ∀ (P : Program) (w : World) (mg : Str → Option Value) (base : Heap) (A : Around) (outer : List Env) (s : Shared) (G : Hp) (E : XK) (cdv : Value), mg "iter" = none → ∃ t, PSs (cxOf (L2.CX P w) P w K mg base ["self"] qual (defScope st) f cdv A outer s G E) (defBody st) t ∧
    ∀ (a dx q : Addr) (us : List (Str × V)) (xs : List V) (Q : VK), G a = some (.ins C dx us) → us.lookup fld = some (.ref q) → SqT K G q xs → (∀ it, G it = none → s.heap.objs.size ≤ it → Q (.ref it) (upd G it (TitO q it))) → t { nx := fun _ G2 => Q .non G2, rt := Q } (start ["self"] [.ref a]) G
section
variable {X : Cx} {C f : Addr} {qual fld : Str} {st : Stmt} {fd : FuncData}
theorem iter_run (T : IterOf X.K C f qual fld st fd) (hm : X.mg "iter" = none) {k : Nat} (hr : Room (k + 2) X.A) {pins : List (Addr × Obj)} {σ : L2.St} {G : Hp} {s : Shared} {a dx q : Addr} {us : List (Str × V)} {xs : List V} {tg : Expr} {R : It → Hp → Prop} (I : Inv X pins σ G s)
    (ha : G a = some (.ins C dx us)) (hf : us.lookup fld = some (.ref q)) (hq : SqT X.K G q xs) (h : R (Itt X.K q) G) : wpAny (model X.prog X.w) X.A (pyIter (.ref a)) (PIE X pins σ tg R) X.xe s := by
  obtain ⟨_, O, _⟩ := ins_get I.hok ha
  obtain ⟨_, J, _⟩ := O.look
  obtain ⟨_, fr⟩ := I.fr
  refine PySem.W.owit_iter fr I.ok.mod.kin J T.at_ T.fn ?_
  obtain ⟨oc, od, kV, doc, pm, an, cdv, ct, osl, rfl, lk, hcd⟩ := T.fu.ex
  have bd := T.bd s [.ref a] I.kIn rfl
  have run := run_at (mg := X.mg) (base := X.base) (w := X.w) (P := X.prog) (k := k + 1) lk hcd T.sc (A := X.A) (outer := X.stack) (s := s) (G := G) (args := ⟨[.ref a], []⟩) (us := [.ref a]) (vs := [V.ref a]) (E := fun _ _ _ => False)
    (Q := fun v G2 => ∃ it, v = .ref it ∧ G it = none ∧ s.heap.objs.size ≤ it ∧ G2 = upd G it (TitO q it)) hr I.env0 bd (.cons rfl .nil) rfl (fun _ => by
      obtain ⟨t, ht, hread⟩ := T.body X.prog X.w X.mg X.base X.A X.stack s G (fun _ _ _ => False) cdv hm
      exact ⟨t, ht, hread a dx q us xs (fun v G2 => ∃ it, v = .ref it ∧ G it = none ∧ s.heap.objs.size ≤ it ∧ G2 = upd G it (TitO q it)) ha hf hq fun it n1 n2 => ⟨it, rfl, n1, n2, rfl⟩⟩)
  refine wpAny_call (codeAny_mono run fun fin s2 z => ?_)
  cases fin with
  | error er => exact passAt (W := W0) takes0 σ pins _ _ er s2 I z
  | ok fl =>
    cases fl with
    | next => exact z.elim
    | brk => exact z.elim
    | cont => exact z.elim
    | ret u =>
      obtain ⟨v, G2, I2, rv, it, rfl, hn, hy, rfl⟩ := I.after z
      obtain rfl : u = Value.ref it := rv
      have got : s2.heap.get? it = some (titObj q) := (I2.hok it _ upd_same).1
      have ti : s2.heap.IsTupleIter it q 0 := ⟨_, got, rfl, rfl⟩
      unfold PySem.W.OwitIt
      refine wpAny_specialOf ti.typeIs F.slot_tuple_iterator_next.lookup ?_
      have I3 := ItX.inv_drop I2 upd_same
      have fp := ItX.inv_fp I2 upd_same (Nat.le_trans I.sz hy)
      have e : ItX.dropH (upd G it (TitO q it)) it = G := ItX.dropH_upd hn
      rw [e] at I3 fp
      exact ⟨it, [it], _, _, G, rfl, I3, turn_tuple q it, ti, fun b hb => by rw [List.mem_singleton.mp hb]; exact fp, h⟩
def iOwn (K : PySem.W.Frag) (C : Addr) (fld : Str) (tl : TE) : TI := fun σ G R => tl σ G fun x G1 => ∃ a dx us q xs, x = .ref a ∧ G1 a = some (.ins C dx us) ∧ us.lookup fld = some (.ref q) ∧ SqT K G1 q xs ∧ R (Itt K q) G1
theorem pi_own {tg l : Expr} {tl : TE} (T : IterOf X.K C f qual fld st fd) (hm : X.mg "iter" = none) {k : Nat} (hr : Room (k + 2) X.A) (hl : PE X l tl) : PI X tg l (iOwn X.K C fld tl) :=
  ⟨fun pins s σ G R I h => thn (hl.run pins s σ G _ I h) fun v s1 ⟨x, G1, I1, rx, a, dx, us, q, xs, ex, ha, hf, hq, hR⟩ => by
    subst ex
    obtain rfl : v = Value.ref a := rx
    exact iter_run T hm hr I1 ha hf hq hR⟩
end
/-! ### in data -/
/-- o an instance of C whose field fld is a tuple -/
def ownI (C : Addr) (fld : Str) (t : TD) : TDI := fun δ Q E => t δ (fun o δ1 => ∃ fs xs, o.toD = .obj C fs ∧ fs.lookup fld = some (.tup xs) ∧ Q xs δ1) E
section
variable {X : Cx} {c : Fc} {W : WX} {C f : Addr} {qual fld : Str} {st : Stmt} {fd : FuncData}
theorem pid_own {tg l : Expr} {t : TD} (T : IterOf X.K C f qual fld st fd) (hm : X.mg "iter" = none) {k : Nat} (hr : Room (k + 2) X.A) (he : PE X l (LE X.K c W t)) : PI X tg l (LI X.K c W (ownI C fld t)) :=
  PI_imp (pi_own (tg := tg) T hm hr he) fun σ H R ⟨δ, tmp, Qd, Ed, S, q, k, w⟩ => ⟨δ, tmp, _, _, S, q, fun v x δ' H' ⟨fs, xs, e, el, q'⟩ ⟨F, ow, S'⟩ => by
    obtain ⟨F2, S2, _⟩ := S'.top_frz
    rw [e] at S2
    have r0 := S2.top
    cases r0 with
    | @obj a _ dx us _ s1 h =>
      obtain ⟨u, e1, ru⟩ := (RepF.lookup h).2 _ el
      have S3 := S2.pop.push ru
      cases ru with
      | @tup p vs _ s2 r2 => exact ⟨a, dx, us, p, vs, rfl, S2.fh _ _ s1, e1, SqT.of (S2.fh _ _ s2), k _ _ _ xs _ _ q' serve_tup ⟨F2, ow, S3⟩⟩, w⟩
end
end DL
namespace DR
open PySem PySem.Spec PyProof.Rows L2 DL
theorem owni {C : Addr} {fld : Str} {t : TD} {δ : DSt} {Q : List DL.D → DSt → Prop} {E : XD} (h : t δ (fun o δ1 => ∃ fs xs, o.toD = .obj C fs ∧ fs.lookup fld = some (.tup xs) ∧ Q xs δ1) E) : ownI C fld t δ Q E := h
end DR

set_option Elab.async false
set_option linter.all false
set_option maxRecDepth 100000
/-! defs as their callers know them -/
namespace DL
open PySem PySem.Spec PyProof.Rows L2
section
variable (P : Program) (w : World) (K : PySem.W.Frag) (mg : Str → Option Value) (base : Heap)
/-- == -/
structure DefE (C : Addr) (k : Nat) (ps : List Str) (sd : SpD) where
  f : Addr
  fd : FuncData
  ok : FnOk P w K mg base (L2.CX P w) k f fd ps (spOf K sd)
  b : Binds K fd ps []
  at_ : PySem.W.findIn K (.ref C) "__eq__" = some (some (.ref f))
  fn : PySem.W.isFn K (.ref f) = true
  ne : NeOf K C f
/-- x[y] -/
structure DefG (C : Addr) (k : Nat) (ps : List Str) (sd : SpD) where
  f : Addr
  fd : FuncData
  ok : FnOk P w K mg base (L2.CX P w) k f fd ps (spOf K sd)
  b : Binds K fd ps []
  gi : GetI K C f
/-- a property -/
structure DefP (C : Addr) (x : Str) (k : Nat) (ps : List Str) (sd : SpD) where
  p : Addr
  f : Addr
  fd : FuncData
  ok : FnOk P w K mg base (L2.CX P w) k f fd ps (spOf K sd)
  b : Binds K fd ps []
  po : PropOf K C x p f
/-- a method -/
structure DefM (C : Addr) (x : Str) (k : Nat) (ps : List Str) (sd : SpD) where
  f : Addr
  fd : FuncData
  ok : FnOk P w K mg base (L2.CX P w) k f fd ps (spOf K sd)
  b : Binds K fd ps []
  me : Meth K C x f
/-- a class whose __init__ has n parameters (self among them) and keyword-only ones ks, with the defaults dv -/
structure DefK (C : Addr) (k n : Nat) (ps ks : List Str) (dv : List V) (sd : SpD) where
  f : Addr
  fd : FuncData
  g0 : List Value → List Value → List Value
  g1 : List Value → List Value → List Value
  mkc : Mk K C f
  ok : FnOk P w K mg base (L2.CX P w) k f fd ps (spOf K sd)
  kb0 : KBn K fd ps n [] g0 (fun vs zs => vs ++ zs ++ dv)
  kb1 : KBn K fd ps n ks g1 (fun vs zs => vs ++ zs ++ [])
end
end DL

set_option Elab.async false
set_option linter.all false
set_option maxRecDepth 100000
/-! enumerate over a tuple -/
namespace EnT
open PySem
open PySem.Sem (wp)
section
variable {prog : Program} {w : World} {A : Around} {E : Value → Shared → Prop} {s : Shared} {e it l : Addr} {i : Nat} {items : Array Value} {x old : Value}
/-- a heap behind others that changed at one place each -/
theorem at_ext {h h2 : Heap} (z : h.IsTupleIter it l i) (k : ∀ o, h.get? it = some o → h2.get? it = some o) : h2.IsTupleIter it l i := let ⟨o, a, r⟩ := z; ⟨o, k o a, r⟩
theorem next_item {Q : Value → Shared → Prop} (he : IsEnum s.heap e it i old) (hi : s.heap.IsTupleIter it l i) (hl : s.heap.IsTuple l items) (hx : items[i]? = some x) (ne : e ≠ it)
    (hQ : ∀ h2, IsEnumOut h2 e it ((i : Int) + 1) x s.heap.objs.size → h2.IsTupleIter it l (i + 1) → h2.get? s.heap.objs.size = some { cls := .type "tuple", data := .seq #[.int i s.toks, x] } → h2.objs.size = s.heap.objs.size + 1 →
      (∀ b o, b ≠ e → b ≠ it → s.heap.get? b = some o → h2.get? b = some o) → Q (.ref s.heap.objs.size) { s with heap := h2, toks := s.toks + 1 }) :
    wpAny (model prog w) A (Builtin.«enumerate.__next__» ⟨[.ref e], []⟩) (fun fin t => ∃ v, fin = .done (.ret v) ∧ Q v t) E s := by
  obtain ⟨h0, g, d, tk, os⟩ := s
  show wpAny _ _ (field (.ref e) 2 >>= _) _ _ ⟨h0, g, d, tk, os⟩
  refine wpAny_bind (wpAny_field he rfl (x := .ref it) rfl (wpAny_bind (RZ.nextOf_tuple_item hi hl hx fun h1 hi1 sb1 => ?_)))
  have sb1 : Heap.SameBut it h0 h1 := sb1
  have he1 : IsEnum h1 e it i old := (sb1.2 e ne).trans he
  show wpAny _ _ (field (.ref e) 3 >>= _) _ _ (⟨h1, g, d, tk, os⟩ : Shared)
  refine wpAny_bind (wpAny_field he1 rfl (x := rawInt i) rfl ?_)
  show wpAny _ _ (field (.ref e) 4 >>= _) _ _ (⟨h1, g, d, tk, os⟩ : Shared)
  refine wpAny_bind (wpAny_field he1 rfl (x := .none) rfl ?_)
  show wpAny _ _ (mkInt i >>= _) _ _ (⟨h1, g, d, tk, os⟩ : Shared)
  refine wpAny_bind (wpAny_mkInt ?_)
  show wpAny _ _ (setField (.ref e) 3 (rawInt ((i : Int) + 1)) >>= _) _ _ (⟨h1, g, d, tk + 1, os⟩ : Shared)
  refine wpAny_bind (wpAny_setField_rec he1 (by simp) fun h2 he2 sb2 => ?_)
  have sb2 : Heap.SameBut e h1 h2 := sb2
  have he2 : IsEnum h2 e it ((i : Int) + 1) old := he2
  show wpAny _ _ (setField (.ref e) 4 .none >>= _) _ _ (⟨h2, g, d, tk + 1, os⟩ : Shared)
  refine wpAny_bind (wpAny_setField_rec he2 (by simp) fun h3 he3 sb3 => ?_)
  have sb3 : Heap.SameBut e h2 h3 := sb3
  have he3 : IsEnum h3 e it ((i : Int) + 1) old := he3
  show wpAny _ _ (newTuple [.int i tk, x] >>= _) _ _ (⟨h3, g, d, tk + 1, os⟩ : Shared)
  refine wpAny_bind (wpAny_newTuple ?_)
  have sz : h3.objs.size = h0.objs.size := by rw [sb3.1, sb2.1, sb1.1]
  have lt : e < h0.objs.size := Heap.lt_size he
  -- the heap with the new pair
  have he4 : IsEnum (h3.push { cls := .type "tuple", data := .seq #[.int i tk, x] }) e it ((i : Int) + 1) old := Heap.get?_push_of_some _ he3
  have hi4 : (h3.push { cls := .type "tuple", data := .seq #[.int i tk, x] }).IsTupleIter it l (i + 1) := at_ext hi1 fun o q => Heap.get?_push_of_some _ ((sb3.2 it ne.symm).trans ((sb2.2 it ne.symm).trans q))
  have new4 : (h3.push { cls := .type "tuple", data := .seq #[.int i tk, x] }).get? h0.objs.size = some { cls := .type "tuple", data := .seq #[.int i tk, x] } := by rw [← sz]; exact Heap.get?_push_size _ rfl
  have sz4 : (h3.push { cls := .type "tuple", data := .seq #[.int i tk, x] }).objs.size = h0.objs.size + 1 := by rw [Heap.size_push, sz]
  have kp4 : ∀ b o, b ≠ e → b ≠ it → h0.get? b = some o → (h3.push { cls := .type "tuple", data := .seq #[.int i tk, x] }).get? b = some o := fun b o n1 n2 q => Heap.get?_push_of_some _ ((sb3.2 b n1).trans ((sb2.2 b n1).trans ((sb1.2 b n2).trans q)))
  rw [sz]
  generalize h3.push { cls := .type "tuple", data := .seq #[.int i tk, x] } = h4 at *
  show wpAny _ _ (Builtin.SmallTypes.ownedTupleIsFree (.ref e) >>= _) _ _ (⟨h4, g, d, tk + 1, os⟩ : Shared)
  refine wpAny_bind ?_
  unfold Builtin.SmallTypes.ownedTupleIsFree
  refine wpAny_bind (wpAny_field he4 rfl (x := .none) rfl (wpAny_pure ?_))
  simp only [if_true]
  refine wpAny_bind (wpAny_rule (wpAny_bind (wpAny_field he4 rfl (x := old) rfl (wpAny_bind (wpAny_setField_rec he4 (by simp) fun h5 he5 sb5 => ?_)))))
  have sb5 : Heap.SameBut e h4 h5 := sb5
  have he5 : IsEnum h5 e it ((i : Int) + 1) x := he5
  show wpAny _ _ (Builtin.SmallTypes.ownedTupleHandOut (.ref e) (.ref h0.objs.size) >>= _) _ _ (⟨h5, g, d, tk + 1, os⟩ : Shared)
  refine wpAny_bind ?_
  unfold Builtin.SmallTypes.ownedTupleHandOut
  refine wpAny_bind (wpAny_setField_rec he5 (by simp) fun h6 he6 sb6 => ?_)
  have sb6 : Heap.SameBut e h5 h6 := sb6
  have he6 : IsEnumOut h6 e it ((i : Int) + 1) x h0.objs.size := he6
  refine wpAny_setField_rec he6 (by simp) fun h7 he7 sb7 => ?_
  have sb7 : Heap.SameBut e h6 h7 := sb7
  have he7 : IsEnumOut h7 e it ((i : Int) + 1) x h0.objs.size := he7
  have up : ∀ b o, b ≠ e → h4.get? b = some o → h7.get? b = some o := fun b o n q => (sb7.2 b n).trans ((sb6.2 b n).trans ((sb5.2 b n).trans q))
  exact wpAny_bind (wpAny_letGo (wpAny_pure ⟨_, rfl, hQ h7 he7 (at_ext hi4 fun o q => up it o ne.symm q) (up _ _ (Nat.ne_of_gt lt) new4) (by rw [sb7.1, sb6.1, sb5.1, sz4]) fun b o n1 n2 q => up b o n1 (kp4 b o n1 n2 q)⟩))
theorem pyNext_item {Q : Option Value → Shared → Prop} (he : IsEnum s.heap e it i old) (hi : s.heap.IsTupleIter it l i) (hl : s.heap.IsTuple l items) (hx : items[i]? = some x) (ne : e ≠ it)
    (hQ : ∀ h2, IsEnumOut h2 e it ((i : Int) + 1) x s.heap.objs.size → h2.IsTupleIter it l (i + 1) → h2.get? s.heap.objs.size = some { cls := .type "tuple", data := .seq #[.int i s.toks, x] } → h2.objs.size = s.heap.objs.size + 1 →
      (∀ b o, b ≠ e → b ≠ it → s.heap.get? b = some o → h2.get? b = some o) → Q (some (.ref s.heap.objs.size)) { s with heap := h2, toks := s.toks + 1 }) : wpAny (model prog w) A (pyNext (.ref e)) Q E s := by
  have ty : s.TypeIs (.ref e) "enumerate" := ⟨_, he, rfl⟩
  unfold pyNext
  refine wpAny_bind (wpAny_attempt (wpAny_callSpecial?_slot (name := Str.ofString "__next__") ty F.slot_enumerate_next (wpAny_call_entry F.slot_enumerate_next ty F.entry_enumerate_next ?_ (F.args_enumerate_next_1 _))))
  exact next_item he hi hl hx ne fun h2 a b c d k => wpAny_pure (hQ h2 a b c d k)
theorem pyNext_end {Q : Option Value → Shared → Prop} (hh : A.handled = none) (he : IsEnum s.heap e it i old) (hi : s.heap.IsTupleIter it l i) (hl : s.heap.IsTuple l items) (hx : items[i]? = none)
    (hQ : ∀ h2, Heap.ExtBut it s.heap h2 → Q none { s with heap := h2 }) : wpAny (model prog w) A (pyNext (.ref e)) Q E s := by
  have ty : s.TypeIs (.ref e) "enumerate" := ⟨_, he, rfl⟩
  unfold pyNext
  refine wpAny_bind (wpAny_attempt (wpAny_callSpecial?_slot (name := Str.ofString "__next__") ty F.slot_enumerate_next (wpAny_call_entry F.slot_enumerate_next ty F.entry_enumerate_next ?_ (F.args_enumerate_next_1 _))))
  show wpAny _ _ (field (.ref e) 2 >>= _) _ _ s
  refine wpAny_bind (wpAny_field he rfl (x := .ref it) rfl (wpAny_bind (RZ.nextOf_tuple_end hh hi hl hx fun h2 c sb ⟨o, ho, hc⟩ => ?_)))
  exact wpAny_bind (wpAny_isInstance (T := "StopIteration") (b := true) ⟨o, ho, hc⟩ isSubtype_stop (wpAny_pure (hQ _ sb)))
end
end EnT

set_option Elab.async false
set_option linter.all false
set_option maxRecDepth 100000
namespace EnT
open PySem
open PySem.Sem (wp)
open AutoSeq1 (wpAny_loadPart')
abbrev titer (l : Addr) : Obj := { cls := .type "tuple_iterator", data := .fields #[.ref l, .int 0 0] }
abbrev enumO (it : Addr) : Obj := { cls := .type "enumerate", data := .fields #[.none, .bool false, .ref it, rawInt 0, .none, .none] }
set_option maxHeartbeats 1000000 in
theorem meets_new (l : Addr) (items : Array Value) (n : Nat) (dct : Option Addr) (sl : Array (Option Value)) :
    Meets (Builtin.«enumerate.__new__» ⟨[.type "enumerate", .ref l], []⟩) (fun _ R s => s.heap.get? l = some { cls := .type "tuple", dict := dct, data := .seq items n, slots := sl } ∧
      R (.ok (.ret (.ref (s.heap.push (titer l)).objs.size))) { s with heap := (s.heap.push (titer l)).push (enumO s.heap.objs.size) }) :=
  .of_wp fun prog w A R s z => by
    obtain ⟨hp, g, d, tk, os⟩ := s
    obtain ⟨hl, z⟩ := z
    have hsub := sub_enumerate
    have hT : Heap.IsTuple (Shared.heap ⟨hp, g, d, tk, os⟩) l items := ⟨_, hl, rfl, n, rfl⟩
    wp_walk using wpAny_loadPart' hl
    refine wpAny_stack_any fun st => wpAny_pure ?_
    split
    · rename_i c _ _ _ _ _
      cases (c == Value.type "enumerate") <;> (wp_walk using wpAny_loadPart' hl, wpAny_pyIter_tuple hT; exact ⟨_, rfl, z⟩)
    · wp_walk using wpAny_loadPart' hl, wpAny_pyIter_tuple hT
      exact ⟨_, rfl, z⟩
theorem call_new {prog : Program} {w : World} {A : Around} {E : Value → Shared → Prop} {s : Shared} {l : Addr} {items : Array Value} {Q : Value → Shared → Prop} (hT : s.heap.IsTuple l items)
    (h : ∀ h2, IsEnum h2 (s.heap.objs.size + 1) s.heap.objs.size 0 .none → h2.IsTupleIter s.heap.objs.size l 0 → (∀ b o, s.heap.get? b = some o → h2.get? b = some o) → Q (.ref (s.heap.objs.size + 1)) { s with heap := h2 }) :
    wpAny (model prog w) A (call (.type "enumerate") [.ref l]) Q E s := by
  obtain ⟨⟨c, dct, dt, sl⟩, hl, hc, n, hd⟩ := hT
  obtain rfl : c = .type "tuple" := hc
  obtain rfl : dt = .seq items n := hd
  refine callType_new F.called_enumerate (by decide) (F.typeCall_enumerate_1 _) (F.newCall_enumerate_1 _) (fun obj => F.args_object_init_2 obj _) F.entry_enumerate_new (meets_new l items n dct sl) ⟨hl, ?_⟩
  have sz : (s.heap.push (titer l)).objs.size = s.heap.objs.size + 1 := Heap.size_push ..
  show _ ∧ _
  rw [sz]
  have he : IsEnum ((s.heap.push (titer l)).push (enumO s.heap.objs.size)) (s.heap.objs.size + 1) s.heap.objs.size 0 .none := by
    have q := Heap.get?_push_size (s.heap.push (titer l)) (o := enumO s.heap.objs.size) rfl
    rw [sz] at q
    exact q
  exact ⟨⟨_, he, rfl⟩, h _ he ⟨_, Heap.get?_push_of_some _ (Heap.get?_push_size _ rfl), rfl, rfl⟩ fun b o q => Heap.get?_push_of_some _ (Heap.get?_push_of_some _ q)⟩
end EnT
namespace DL
open PySem PySem.Spec PyProof.Rows L2
/-- the tuple at a, its items with their numbers -/
def IteT (K : PySem.W.Frag) (a : Addr) : It where
  go := fun i G => ∃ (xs : List V) (x : V), SqT K G a xs ∧ xs[i]? = some x
  yld := fun i G v G2 => ∃ T x, v = .ref T ∧ G T = none ∧ G2 = upd G T (.tup [.int (i : Nat), x]) ∧ ∀ xs, SqT K G a xs → xs[i]? = some x
  stop := fun i G => ∃ xs : List V, SqT K G a xs ∧ xs.length ≤ i
theorem turn_enumT {P : Program} {w : World} {K : PySem.W.Frag} {elts : List Expr} {kk : Nat} {tpos : Pos} (a e it : Addr) :
    Turn P w K (.Tuple elts kk tpos) (IteT K a) [e, it] e (fun i h => (∃ old, IsEnum h e it ((i : Nat) : Int) old) ∧ h.IsTupleIter it a i ∧ e ≠ it) where
  mem := by simp
  obj := fun i h ⟨⟨old, he⟩, ⟨o, ho, hc, hd⟩, _⟩ b hb => by
    have hb : b = e ∨ b = it := by simpa using hb
    rcases hb with rfl | rfl
    · exact ⟨_, he, fun v q => nomatch q⟩
    · exact ⟨o, ho, fun v q => by rw [hd] at q; cases q⟩
  keep := fun i h h2 ⟨⟨old, he⟩, hi, ne⟩ k => ⟨⟨old, k e (by simp) _ he⟩, EnT.at_ext hi fun o q => k it (by simp) o q, ne⟩
  item := by
    intro X hP hw hK hc i pins s σ G E I hf ⟨⟨old, he⟩, hit, ne⟩ ⟨xs, x, hq, hx⟩
    subst hP hw hK
    obtain ⟨its, rv, p, hz⟩ := I.tuple hq
    obtain ⟨u, hu, ru⟩ := rv.get hx
    have le : e < s.heap.objs.size := Heap.lt_size he
    have li : it < s.heap.objs.size := by obtain ⟨_, q, _⟩ := hit; exact Heap.lt_size q
    refine EnT.pyNext_item he hit (items := its.toArray) p (x := u) (by simpa using hu) ne fun h2 ho hi2 hT sz hk => ⟨_, rfl, wpAny_letOwnedTupleGo_enum (s := { s with heap := h2, toks := s.toks + 1 }) ho fun h3 he3 sb => ?_⟩
    have hT3 : h3.get? s.heap.objs.size = some { cls := .type "tuple", data := .seq #[.int i s.toks, u] } := (sb.2 _ (Nat.ne_of_gt le)).trans hT
    have new : ObjOk X.prog X.w (upd G s.heap.objs.size (.tup [.int (i : Nat), x])) h3 s.heap.objs.size (.tup [.int (i : Nat), x]) := ⟨by show 2 ≤ sizeLine; decide, [.int i s.toks, u], .cons ⟨_, rfl⟩ (.cons ru .nil), ⟨_, hT3, rfl, _, rfl⟩⟩
    have J : Inv X pins σ (upd G s.heap.objs.size (.tup [.int (i : Nat), x])) { s with heap := h3, toks := s.toks + 1 } :=
      I.turnedNew (ch := [e, it]) (fun b ob hb q => (sb.2 b (fun z => hb (by simp [z]))).trans (hk b ob (fun z => hb (by simp [z])) (fun z => hb (by simp [z])) q)) hf (Nat.le_refl _) new
    refine ⟨.ref s.heap.objs.size, _, J, rfl, ⟨_, x, rfl, I.hok.fresh (Nat.le_refl _), rfl, fun ys hy => by rw [I.tuple_inj hy hq]; exact hx⟩, ⟨⟨u, ?_⟩, EnT.at_ext hi2 fun o q => (sb.2 it ne.symm).trans q, ne⟩, fun b hb => ?_⟩
    · rw [show ((i + 1 : Nat) : Int) = (i : Int) + 1 by omega]
      exact he3
    · have hb2 : b = e ∨ b = it := by simpa using hb
      have lb : b < s.heap.objs.size := by rcases hb2 with rfl | rfl <;> assumption
      rw [upd_ne (Nat.ne_of_lt lb)]
      exact (hf b hb).1
  done := by
    intro X hP hw hK hc i pins s σ G E I hf ⟨⟨old, he⟩, hit, ne⟩ ⟨xs, hq, hx⟩
    subst hP hw hK
    obtain ⟨its, rv, p, hz⟩ := I.tuple hq
    obtain ⟨f0, f1, f2, f3, f4, f5⟩ := hf it (by simp)
    have hl := rv.length
    exact EnT.pyNext_end (I.ok.hd hc) he hit (items := its.toArray) p (by simp; omega) fun h2 eb => ⟨rfl, I.turned (t' := s.toks) (fun b o hb q => eb b o hb q) f0 f1 f3 f4 f5⟩
  self := fun A i s Q E ⟨⟨_, he⟩, _⟩ h => wpAny_pyIter_enum he h
def iEnumT (K : PySem.W.Frag) (ta : TA) : TI := fun σ G R => ta σ G fun vs G1 => ∃ a xs, vs = [.ref a] ∧ SqT K G1 a xs ∧ R (IteT K a) G1
section
variable {X : Cx} {c : Fc} {W : WX}
theorem pi_enumT {e : Expr} {ta : TA} {p pos tpos : Pos} {elts : List Expr} {kk : Nat} (hg : Gl X "enumerate") (hm : X.mg "enumerate" = none) (ha : PA X [e] ta) (hs : starEach [e] X.env = [(false, eval e X.env)] := by rfl) :
    PI X (.Tuple elts kk tpos) (.Call (.Name "enumerate" p) [e] [] pos) (iEnumT X.K ta) := by
  refine ⟨fun pins s σ G R I h => Call_ (ld_blt I hg hm boot_enumerate (PyProof.Rows.callWith_type1 (thn (ha.run pos pins s σ G _ I h) fun us s1 ⟨vs, G1, I1, r1, a, xs, ex, hq, q⟩ => ?_) hs rfl))⟩
  subst ex
  obtain ⟨u, rfl, ru⟩ := r1.one
  obtain rfl : u = Value.ref a := ru
  obtain ⟨its, rv, p', hz⟩ := I1.tuple hq
  refine EnT.call_new (items := its.toArray) p' fun h2 he hit hk => wpAny_pyIter_enum he ?_
  refine ⟨s1.heap.objs.size + 1, [s1.heap.objs.size + 1, s1.heap.objs.size], _, _, G1, rfl, I1.kept (t' := s1.toks) hk, turn_enumT a (s1.heap.objs.size + 1) s1.heap.objs.size, ⟨⟨.none, he⟩, hit, Nat.succ_ne_self _⟩, fun b hb => ?_, q⟩
  have hb2 : b = s1.heap.objs.size + 1 ∨ b = s1.heap.objs.size := by simpa using hb
  have le : s1.heap.objs.size ≤ b := by
    rcases hb2 with z | z
    · rw [z]; exact Nat.le_succ _
    · rw [z]; exact Nat.le_refl _
  exact I1.fpOk le (I1.hok.fresh le)
theorem serve_enumT {K : PySem.W.Frag} {p : Addr} {items : List D} : Serve K (IteT K p) (.ref p) (.tup items) (enumL items) := by
  have sq : ∀ {F H : Hp}, Same F H → Rep K F (.ref p) (.tup items) → ∃ vs, SqT K H p vs ∧ RepL K F vs items := fun {F H} s r => by
    cases r with | tup s1 r1 => exact ⟨_, SqT.of (s _ _ s1), r1⟩
  have hl : (enumL items).length = items.length := by simp [enumL]
  refine ⟨fun i F H s r hi => ?_, fun i F H s r hi => ?_, fun i F H x H' s r y d hd => ?_⟩
  · obtain ⟨vs, h, rl⟩ := sq s r
    rw [hl] at hi
    obtain ⟨v, e, _⟩ := rl.get (List.getElem?_eq_getElem hi)
    exact ⟨vs, v, h, e⟩
  · obtain ⟨vs, h, rl⟩ := sq s r
    exact ⟨vs, h, by rw [rl.len, ← hl]; exact hi⟩
  · obtain ⟨vs, h, rl⟩ := sq s r
    obtain ⟨T, z, rfl, nT, rfl, y⟩ := y
    have hi : i < items.length := by rw [← hl]; exact set_lt hd
    obtain ⟨v, e, rv⟩ := rl.get (List.getElem?_eq_getElem hi)
    rw [y vs h] at e
    cases e
    have : d = .tup [.int (i : Nat), items[i]] := by
      unfold enumL at hd
      rw [List.getElem?_map, List.getElem?_zipIdx, List.getElem?_eq_getElem hi] at hd
      simpa using hd.symm
    subst this
    exact ⟨_, Ext.new s nT, .tup upd_same (.cons (.int _) (.cons (rv.mono (same_upd (Same.refl F) (s.free nT))) .nil))⟩
def enumTI (ta : TDA) : TDI := fun δ Q E => ta δ (fun as δ1 => ∃ xs, as = [.d (.tup xs)] ∧ Q (enumL xs) δ1) E
theorem pid_enumT {e : Expr} {ta : TDA} {p pos tpos : Pos} {elts : List Expr} {kk : Nat} (hg : Gl X "enumerate") (hm : X.mg "enumerate" = none) (ha : PA X [e] (LA X.K c W ta)) (hs : starEach [e] X.env = [(false, eval e X.env)] := by rfl) : PI X (.Tuple elts kk tpos) (.Call (.Name "enumerate" p) [e] [] pos) (LI X.K c W (enumTI ta)) :=
  PI_imp (pi_enumT hg hm ha hs) fun σ H R ⟨δ, tmp, Qd, Ed, S, q, k, w⟩ => ⟨δ, tmp, _, _, S, q, fun vs as δ' F ow H' ⟨xs, e, q'⟩ S' ra => by
    subst e
    cases ra with
    | d h t =>
      cases t
      have h0 := h
      cases h with | tup s1 r1 => exact ⟨_, _, rfl, SqT.of (S'.fh _ _ s1), k _ _ _ _ _ _ q' serve_enumT ⟨F, ow, S'.push h0⟩⟩, w⟩
end
/-- one way or the other -/
def orI (t u : TDI) : TDI := fun δ Q E => t δ Q E ∨ u δ Q E
theorem PI.or {X : Cx} {c : Fc} {W : WX} {tg e : Expr} {t u : TDI} (h1 : PI X tg e (LI X.K c W t)) (h2 : PI X tg e (LI X.K c W u)) : PI X tg e (LI X.K c W (orI t u)) :=
  ⟨fun pins s σ H R I ⟨δ, tmp, Qd, Ed, S, q, k, w⟩ => q.elim (fun q => h1.run pins s σ H R I ⟨δ, tmp, Qd, Ed, S, q, k, w⟩) fun q => h2.run pins s σ H R I ⟨δ, tmp, Qd, Ed, S, q, k, w⟩⟩
end DL
namespace DR
open PySem PySem.Spec PyProof.Rows L2 DL
theorem orl {t u : TDI} {δ : DSt} {E : XD} {Q : List DL.D → DSt → Prop} (h : t δ Q E) : orI t u δ Q E := .inl h
theorem orr {t u : TDI} {δ : DSt} {E : XD} {Q : List DL.D → DSt → Prop} (h : u δ Q E) : orI t u δ Q E := .inr h
theorem enumti {δ : DSt} {E : XD} {Q : List DL.D → DSt → Prop} {ta : TDA} (h : ta δ (fun as δ1 => ∃ xs, as = [.d (.tup xs)] ∧ Q (enumL xs) δ1) E) : enumTI ta δ Q E := h
end DR

set_option Elab.async false
set_option linter.all false
set_option maxRecDepth 100000
/-! zip of three lists -/
namespace Z3
open PySem
open PySem.Sem (wp)
section
variable {prog : Program} {w : World} {A : Around} {E : Value → Shared → Prop} {s : Shared}
variable {n l1 l2 l3 : Nat} {i : Nat} {xs ys zs : Array Value} {x y z a b c : Value}
end
/-! ### making one -/
end Z3

set_option Elab.async false
set_option linter.all false
set_option maxRecDepth 100000
namespace DL
open PySem PySem.Spec PyProof.Rows L2
section
variable {X : Cx} {c : Fc} {W : WX}
end
end DL
namespace DR
open PySem PySem.Spec PyProof.Rows L2 DL
end DR

set_option Elab.async false
set_option linter.all false
set_option maxRecDepth 100000
/-! equality of plain data -/
namespace DL
open PySem PySem.Spec PyProof.Rows L2
/-- may be compared, n deep at most -/
def Dp_ (n : Nat) (d : D) : Prop := d.isPy = true ∧ d.py.depth ≤ n
theorem Dp_.cmp {n : Nat} {d : D} (h : Dp_ n d) (l : n ≤ 64 := by decide) : Cmp d := ⟨h.1, Nat.le_trans h.2 l⟩
theorem dp_str {x : Str} : Dp_ 1 (.str x) := ⟨rfl, by simp [D.py, PyData.depth]⟩
theorem dp_int {x : Int} : Dp_ 1 (.int x) := ⟨rfl, by simp [D.py, PyData.depth]⟩
theorem dp_bl {x : Bool} : Dp_ 1 (.bl x) := ⟨rfl, by simp [D.py, PyData.depth]⟩
theorem dp_non : Dp_ 1 .non := ⟨rfl, by simp [D.py, PyData.depth]⟩
theorem dp_all {n : Nat} : ∀ {ds : List D}, (∀ d ∈ ds, Dp_ n d) → isPyL ds = true ∧ PyData.depthAll (pyL ds) ≤ n
  | [], _ => ⟨rfl, by simp [pyL, PyData.depthAll]⟩
  | d :: ds, h => by
    obtain ⟨a, b⟩ := dp_all fun e he => h e (List.mem_cons_of_mem _ he)
    obtain ⟨c, e⟩ := h d List.mem_cons_self
    refine ⟨by simp [isPyL, a, c], ?_⟩
    simp [pyL, PyData.depthAll]
    omega
theorem dp_tup {n : Nat} {ds : List D} (h : ∀ d ∈ ds, Dp_ n d) : Dp_ (n + 1) (.tup ds) := by
  obtain ⟨a, b⟩ := dp_all h
  refine ⟨a, ?_⟩
  simp [D.py, PyData.depth]
  omega
theorem dp_lst {n : Nat} {ds : List D} (h : ∀ d ∈ ds, Dp_ n d) : Dp_ (n + 1) (.lst ds) := by
  obtain ⟨a, b⟩ := dp_all h
  refine ⟨a, ?_⟩
  simp [D.py, PyData.depth]
  omega
theorem dp_map {α : Type} {n : Nat} {r : α → D} {l : List α} (h : ∀ a ∈ l, Dp_ n (r a)) : ∀ d ∈ l.map r, Dp_ n d := fun d hd => by
  obtain ⟨a, ha, rfl⟩ := List.mem_map.mp hd
  exact h a ha
theorem eqv_str {a b : Str} : PyData.eqv (D.str a).py (D.str b).py = decide (a = b) := by
  simp only [D.py, PyData.eqv]
  by_cases h : a = b <;> simp [h]
theorem eqv_int {a b : Int} : PyData.eqv (D.int a).py (D.int b).py = decide (a = b) := by
  simp only [D.py, PyData.eqv]
  by_cases h : a = b <;> simp [h]
theorem eqv_all {α : Type} [DecidableEq α] {r : α → D} (h : ∀ a b, PyData.eqv (r a).py (r b).py = decide (a = b)) : ∀ {l k : List α}, PyData.eqvAll (pyL (l.map r)) (pyL (k.map r)) = decide (l = k)
  | [], [] => by simp [pyL, PyData.eqvAll]
  | [], _ :: _ => by simp [pyL, PyData.eqvAll]
  | _ :: _, [] => by simp [pyL, PyData.eqvAll]
  | a :: l, b :: k => by
    simp only [List.map_cons, pyL, PyData.eqvAll, h, eqv_all h]
    by_cases e : a = b <;> by_cases e2 : l = k <;> simp [e, e2]
theorem eqv_tups {α : Type} [DecidableEq α] {r : α → D} (h : ∀ a b, PyData.eqv (r a).py (r b).py = decide (a = b)) {l k : List α} : PyData.eqv (D.tup (l.map r)).py (D.tup (k.map r)).py = decide (l = k) := by
  simp only [D.py, PyData.eqv]
  exact eqv_all h
theorem eqv_trip {α β γ : Type} [DecidableEq α] [DecidableEq β] [DecidableEq γ] {r : α → D} {s : β → D} {t : γ → D} (h : ∀ a b, PyData.eqv (r a).py (r b).py = decide (a = b)) (g : ∀ a b, PyData.eqv (s a).py (s b).py = decide (a = b)) (k : ∀ a b, PyData.eqv (t a).py (t b).py = decide (a = b)) (p q : α × β × γ) :
    PyData.eqv (D.tup [r p.1, s p.2.1, t p.2.2]).py (D.tup [r q.1, s q.2.1, t q.2.2]).py = decide (p = q) := by
  obtain ⟨a, b, c⟩ := p
  obtain ⟨d, e, f⟩ := q
  simp only [D.py, pyL, PyData.eqv, PyData.eqvAll, h, g, k, Bool.and_true]
  by_cases e1 : a = d <;> by_cases e2 : b = e <;> by_cases e3 : c = f <;> simp [e1, e2, e3]
theorem eqd_t {x y : D} {b : Bool} {Q : D → Prop} (c1 : Cmp x) (c2 : Cmp y) (h : PyData.eqv x.py y.py = b) (k : Q (.bl b)) : eqP false x y Q := ⟨c1, c2, by rw [if_neg Bool.false_ne_true, h]; exact k⟩
theorem eqd_f {x y : D} {b : Bool} {Q : D → Prop} (c1 : Cmp x) (c2 : Cmp y) (h : PyData.eqv x.py y.py = b) (k : Q (.bl (!b))) : eqP true x y Q := ⟨c1, c2, by rw [if_pos rfl, h]; exact k⟩
theorem eqv_strs (a b : Str) : PyData.eqv (D.str a).py (D.str b).py = decide (a = b) := eqv_str
theorem eqv_ints (a b : Int) : PyData.eqv (D.int a).py (D.int b).py = decide (a = b) := eqv_int
end DL

set_option Elab.async false
set_option linter.all false
set_option maxRecDepth 100000
set_option maxHeartbeats 2000000
/-! DL30: an own exception class made without an argument. -/
namespace DL
open PySem PySem.Spec PyProof.Rows L2
/-- what the top has written of an exception class without __init__ -/
structure Oex0 (K : PySem.W.Frag) (C : Addr) : Prop where
  ex : PySem.W.excIn K C [.type "ValueError", .type "Exception", .type "BaseException", .type "object"] "ValueError.__new__" = true
  kp : PySem.W.keepIn K (.ref C) = true
  sb : PySem.W.subIn K (.ref C) (.type "BaseException") = some true
  ty : PySem.W.typeIn K (.ref C) = some (.type "type")
section
variable {X : Cx}
end
end DL

set_option Elab.async false
set_option linter.all false
set_option maxRecDepth 100000
set_option maxHeartbeats 2000000
/-! DL31: a try whose suite knows the exception's address; isinstance of what was caught. -/
namespace DL
open PySem PySem.Spec PyProof.Rows L2
section
variable {X : Cx} {c : Fc} {W : WX} {pos : Pos}
def tryDA (K : PySem.W.Frag) (cv : Value) (i : Nat) (tb : TDS) (ts : Addr → Value → Option Addr → TDS) : TDS := fun D δ =>
  tb { D with ex := fun x δ1 => ∃ b, PySem.W.exmOne K (.ref x.C) cv = some b ∧
    (b = true → ∀ a dd, (x.fs = none → dd = none) → ts a (.ref x.C) dd { nx := fun δ2 => D.nx (δ2.set i none), rt := D.rt, ex := noX, bk := fun δ2 => D.bk (δ2.set i none), ct := fun δ2 => D.ct (δ2.set i none) } (δ1.set i (some (.d (.exc a (.ref x.C) dd x.C x.fs))))) ∧ (b = false → D.ex x δ1) } δ
theorem psd_tryA (K : PySem.W.Frag) (hK : X.K = K) {x n : Str} {cv : Value} {i : Nat} {body suite : List Stmt} {b₀ : Stmt} {np pos pos' : Pos} {tb : TDS} {ts : Addr → Value → Option Addr → TDS} (ni : i ∉ c.sl) (hs : X.stack = X.env :: X.outer) (hf : X.env.frame = some X.env.locals) (hN : X.N.Nodup) (hi : X.N[i]? = some n) (hln : X.env.kindOf n = some .local) (hc : Names X x cv) (tk : Takes X W)
    (hb : ∀ (W : WX) (pn : List (Addr × Obj)) (xe : Value → Shared → Prop), Takes (X.tr pn xe) W → PassesOwn (model X.prog X.w) X.A X.env xe → PSs (X.tr pn xe) body (LS X.K c W tb))
    (hsu : ∀ (a : Addr) (oe : Obj) (cls : Value) (d : Option Addr) (pn : List (Addr × Obj)), Zc cls d oe → (∃ vs, oe.data = .fields vs) → PSs (X.suite a ((a, oe) :: pn)) (b₀ :: suite) (LS X.K c W0 (ts a cls d))) :
    PS X (.Try body [.ExceptHandler (some (.Name x np)) (some n) (b₀ :: suite) pos'] [] [] pos) (LS X.K c W (tryDA K cv i tb ts)) := by
  subst hK
  exact PS_imp (ps_try_as (tb := fun W => LS X.K c W tb) (ts := fun a cls d => LS X.K c W0 (ts a cls d)) hs hf hN hi hln hc tk hb hsu) fun D σ H ⟨δ, tmp, Dd, S, q, k, kr, kb, kc, w⟩ => by
    refine ⟨δ, tmp, _, S, q, k, kr, kb, kc, fun y δ1 σ1 H1 F ow cls d ⟨b, eb, yes, no⟩ S1 er => ?_⟩
    obtain ⟨C, fs⟩ := y
    obtain ⟨rfl, er'⟩ := id er
    refine ⟨b, eb, fun hb a na => ?_, fun hb => w _ _ _ _ F ow _ d (no hb) S1 er⟩
    have hn : fs = none → d = none := fun e => by subst e; exact er'
    have rx : Rep X.K F (.ref a) (.exc a (.ref C) d C fs) := by
      cases fs with
      | none => obtain rfl : d = none := er'; exact .exc0
      | some fs => obtain ⟨dd, vs, rfl, e2, e3⟩ := er'; exact .exc e2 e3
    exact ⟨_, tmp, _, (S1.push rx).set' ni, yes hb a d hn, fun δ2 σ2 H2 q2 ⟨F2, ow2, S2⟩ => k _ _ _ q2 ⟨F2, ow2, S2.del ni⟩, kr, fun δ2 σ2 H2 q2 ⟨F2, ow2, S2⟩ => kb _ _ _ q2 ⟨F2, ow2, S2.del ni⟩, fun δ2 σ2 H2 q2 ⟨F2, ow2, S2⟩ => kc _ _ _ q2 ⟨F2, ow2, S2.del ni⟩, fun _ _ _ _ _ _ _ _ z => z.elim⟩
/-! ### isinstance(e, c) -/
end
end DL
namespace DR
open PySem PySem.Spec PyProof.Rows L2 DL
theorem trya {K : PySem.W.Frag} {cv : Value} {i : Nat} {tb : TDS} {ts : Addr → Value → Option Addr → TDS} {D : EndsD} {δ : DSt} (h : tb { D with ex := fun x δ1 => ∃ b, PySem.W.exmOne K (.ref x.C) cv = some b ∧
    (b = true → ∀ a dd, (x.fs = none → dd = none) → ts a (.ref x.C) dd { nx := fun δ2 => D.nx (δ2.set i none), rt := D.rt, ex := noX, bk := fun δ2 => D.bk (δ2.set i none), ct := fun δ2 => D.ct (δ2.set i none) } (δ1.set i (some (.d (.exc a (.ref x.C) dd x.C x.fs))))) ∧ (b = false → D.ex x δ1) } δ) : tryDA K cv i tb ts D δ := h
end DR

set_option Elab.async false
set_option linter.all false
set_option maxRecDepth 100000
set_option maxHeartbeats 2000000
/-! DL32: a, b, c = x, y, z with plain local names. -/
namespace DL
open PySem PySem.Spec PyProof.Rows L2
section
variable {X : Cx} {c : Fc} {W : WX}
end
end DL
namespace DR
open PySem PySem.Spec PyProof.Rows L2 DL
end DR

set_option Elab.async false
set_option linter.all false
set_option maxRecDepth 100000
set_option maxHeartbeats 2000000
/-! DL33: several except clauses whose suites know what was caught; a field of it. -/
namespace DL
open PySem PySem.Spec PyProof.Rows L2
/-! ### e.f of what was caught -/
def xfD (a : Addr) (cls : Value) (d : Option Addr) (C : Addr) (f : Str) (t : TD) : TD := fun δ Q E => t δ (fun o δ1 => ∃ fs v, o.toD = .exc a (.ref C) d C (some fs) ∧ cls = .ref C ∧ fs.lookup f = some v ∧ Q (.d v) δ1) E
theorem pd_xf {X : Cx} {c : Fc} {W : WX} {a C : Addr} {oe : Obj} {cls : Value} {d : Option Addr} {pn : List (Addr × Obj)} {e : Expr} {t : TD} {pos : Pos} {n : Str} (T : XfC X.K C) (hno : PySem.W.findIn X.K (.ref C) n = some none)
    (hz : Zc cls d oe) (hf : ∃ vs, oe.data = .fields vs) (he : PE (X.suite a ((a, oe) :: pn)) e (LE X.K c W t)) (hb : attributeBase e n X.env (eval e X.env) = eval e X.env := by rfl) :
    PE (X.suite a ((a, oe) :: pn)) (.Attribute e n pos) (LE X.K c W (xfD a cls d C n t)) :=
  PE_imp (pe_xf T hno hz hf he hb) fun σ H Q ⟨δ, tmp, Qd, Ed, S, q, k, w⟩ => ⟨δ, tmp, _, _, S, q, fun v o δ' H' ⟨fs, x, eo, ec, el, q'⟩ ⟨F, ow, S'⟩ => by
    obtain ⟨F', S2, _⟩ := S'.top_frz
    rw [eo] at S2
    cases S2.top with
    | exc s h =>
      obtain ⟨u, e1, r⟩ := (RepF.lookup h).2 x el
      exact ⟨rfl, ec, _, _, u, rfl, S2.fh _ _ s, e1, k _ _ _ _ q' ⟨F', ow, S2.pop.push r⟩⟩, w⟩
end DL
namespace DR
open PySem PySem.Spec PyProof.Rows L2 DL
theorem xf {a : Addr} {cls : Value} {d : Option Addr} {C : Addr} {f : Str} {t : TD} {δ : DSt} {Q : DK} {E : XD} (h : t δ (fun o δ1 => ∃ fs v, o.toD = .exc a (.ref C) d C (some fs) ∧ cls = .ref C ∧ fs.lookup f = some v ∧ Q (.d v) δ1) E) : xfD a cls d C f t δ Q E := h
end DR

set_option Elab.async false
set_option linter.all false
set_option maxRecDepth 100000
set_option maxHeartbeats 2000000
/-! DL34: try .. except X: without a name. -/
namespace DL
open PySem PySem.Spec PyProof.Rows L2
end DL
namespace DR
open PySem PySem.Spec PyProof.Rows L2 DL
end DR

set_option Elab.async false
set_option linter.all false
set_option maxRecDepth 100000
/-! DL35: own errors whose __init__ sets fields (the last one set stands first) -/
namespace DL
open PySem PySem.Spec PyProof.Rows L2
def ErrR (K : PySem.W.Frag) (B : Addr) (ns : List Str) : Sp := fun vs H Q _ => ∃ (a : Addr) (xs : List V), vs = .ref a :: xs ∧ xs.length = ns.length ∧ H a = some (exo a B none) ∧ ∀ d, H d = none → d ≠ a → Q .non (upd (upd H d (exd d (ns.zip xs).reverse)) a (exo a B (some d)))
theorem repF_app {K : PySem.W.Frag} {F : Hp} : ∀ {vs us : List (Str × V)} {ds es : List (Str × D)}, RepF K F vs ds → RepF K F us es → RepF K F (vs ++ us) (ds ++ es)
  | _, _, _, _, .nil, g => g
  | _, _, _, _, .cons h t, g => .cons h (repF_app t g)
theorem repF_rev {K : PySem.W.Frag} {F : Hp} : ∀ {vs : List (Str × V)} {ds : List (Str × D)}, RepF K F vs ds → RepF K F vs.reverse ds.reverse
  | _, _, .nil => .nil
  | _, _, .cons h t => by
    rw [List.reverse_cons, List.reverse_cons]
    exact repF_app (repF_rev t) (.cons h .nil)
section
variable (P : Program) (w : World) (K : PySem.W.Frag) (mg : Str → Option Value) (base : Heap)
structure DefX (x : Str) (B : Addr) (ns : List Str) where
  f : Addr
  fd : FuncData
  ps : List Str
  ox : OexC K B
  ini : PySem.W.findIn K (.ref B) "__init__" = some (some (.ref f))
  ty : PySem.W.typeIn K (.ref f) = some (.type "function")
  ok : FnOk P w K mg base CX0 1 f fd ps (ErrR K B ns)
  b : Binds K fd ps []
  mg : mg x = some (.ref B)
end
section
variable {P : Program} {w : World} {K : PySem.W.Frag} {mg : Str → Option Value} {base : Heap} {B : Addr}
theorem ok_err1 {qual n : Str} {st : Stmt} {f : Addr} {fd : FuncData} (F : Fun K "__init__" qual st f fd) (sc : FnScope ["self", n] ["self", n] (defScope st)) (ox : OexC K B) (nw : PySem.W.findIn K (.ref B) n = some none)
    (ht : ∀ (cdv : Value) (A : Around) (outer : List Env) (s : Shared) (H : Hp) (E : XK), PSs (cxOf CX0 P w K mg base ["self", n] qual (defScope st) f cdv A outer s H E).nox (defBody st) (tOst K n (tVar 0) (tVar 1))) :
    FnOk P w K mg base CX0 1 f fd ["self", n] (ErrR K B [n]) := by
  refine F.ok sc (fun vs H Q E h => ?_) (fun cdv A outer s H vs Q E hr h => ?_)
  · obtain ⟨a, xs, rfl, hl, _⟩ := h
    match xs, hl with
    | [_], _ => rfl
  · obtain ⟨a, xs, rfl, hl, ha, k⟩ := h
    obtain ⟨x, rfl⟩ : ∃ x, xs = [x] := by
      match xs, hl with
      | [x], _ => exact ⟨x, rfl⟩
    refine ⟨_, ht cdv A outer s H E, ?_⟩
    refine ⟨x, rfl, .ref a, rfl, a, B, rfl, ox, nw, .inl ⟨ha, fun dx n ne => ?_⟩⟩
    exact k dx n ne
end
section
variable {X : Cx} {c : Fc} {W : WX}
def raiseR (B : Addr) (ns : List Str) (ta : TDA) : TDS := fun D δ => ta δ (fun as δ1 => ∃ ds, as = ds.map .d ∧ ds.length = ns.length ∧ ds.length ≤ 1000 ∧ D.ex ⟨B, some (ns.zip ds).reverse⟩ δ1) D.ex
theorem psd_raiseR {x : Str} {B : Addr} {ns : List Str} {e : Expr} {es : List Expr} {ta : TDA} {p pos pos2 : Pos} (hc : X.calm = true) (tk : Takes X W)
    (hk : ∀ {ta : TA}, PA X (e :: es) ta → PMk X (.Call (.Name x p) (e :: es) [] pos) (tMkO B (ErrR X.K B ns) [] ta)) (ha : PA X (e :: es) (LA X.K c W ta)) :
    PS X (.Raise (some (.Call (.Name x p) (e :: es) [] pos)) none pos2) (LS X.K c W (raiseR B ns ta)) :=
  PS_imp (ps_raise hc tk (hk ha)) fun D σ H ⟨δ, tmp, Dd, S, q, k, kr, kb, kc, w⟩ => ⟨δ, tmp, _, _, S, q, fun vs as δ1 F ow H1 ⟨ds, ea, hl, hz, q1⟩ S1 ra => by
    subst ea
    have r := args_d ra
    refine ⟨by rw [r.len]; exact hz, fun a na => ?_⟩
    refine ⟨a, vs, by rw [List.append_nil], by rw [r.len]; exact hl, upd_same, fun d nd ne => ⟨rfl, d, (ns.zip vs).reverse, upd_same, by rw [upd_ne ne, upd_same], by rwa [upd_ne ne] at nd, ?_⟩⟩
    have nd1 : H1 d = none := by rwa [upd_ne ne] at nd
    have eH : upd (del (upd (upd (upd H1 a (exo a B none)) d (exd d (ns.zip vs).reverse)) a (exo a B (some d))) a) d (.xd (ns.zip vs).reverse) = upd H1 d (.xd (ns.zip vs).reverse) := by
      funext b
      by_cases h1 : b = d
      · subst h1; rw [upd_same, upd_same]
      · rw [upd_ne h1, upd_ne h1]
        by_cases h2 : b = a
        · subst h2; rw [del_same]; exact na.symm
        · rw [del_ne h2, upd_ne h2, upd_ne h1, upd_ne h2]
    rw [eH]
    exact w _ _ _ _ _ ow _ _ q1 (S1.ext (Ext.new S1.fh nd1)) ⟨rfl, d, _, rfl, upd_same, repF_rev (repF_zip (r.mono (same_upd (Same.refl F) (S1.fh.free nd1))))⟩, w⟩
end
end DL
namespace DR
open PySem PySem.Spec PyProof.Rows L2 DL
theorem raiser {B : Addr} {ns : List Str} {ta : TDA} {D : EndsD} {δ : DSt} (h : ta δ (fun as δ1 => ∃ ds, as = ds.map .d ∧ ds.length = ns.length ∧ ds.length ≤ 1000 ∧ D.ex ⟨B, some (ns.zip ds).reverse⟩ δ1) D.ex) : raiseR B ns ta D δ := h
end DR

set_option Elab.async false
set_option linter.all false
set_option maxRecDepth 100000
/-! DL36: methods with defaults, classmethods with keywords, deep `in` of tuples, join -/
namespace DL
open PySem PySem.Spec PyProof.Rows L2
section
variable {X : Cx} {k n : Nat} {f g C : Addr} {fd : FuncData} {ps ks : List Str} {sp : Sp} {E : L2.St → XK} {x m : Str} {p pos apos : Pos} {e o : Expr} {es : List Expr} {kws : List Keyword} {t tk : TA} {to : TE} {gU : List Value → List Value → List Value} {gV : List V → List V → List V} {i : Nat}
/-! ### o.m(..) by values alone -/
/-! ### C.m(.., k = v), m a classmethod -/
end
section
variable {X : Cx} {c : Fc} {W : WX} {k n : Nat} {f g C : Addr} {fd : FuncData} {ps ks : List Str} {sd : SpD} {x m : Str} {p pos apos kpos : Pos} {e o : Expr} {es : List Expr} {kws : List Keyword} {t to : TD} {ta tk : TDA} {gU : List Value → List Value → List Value} {gV : List V → List V → List V} {i : Nat}
end
section
variable (P : Program) (w : World) (K : PySem.W.Frag) (mg : Str → Option Value) (base : Heap)
end
/-! ### x in (..), items of any depth -/
section
variable {X : Cx}
def rInT (K : PySem.W.Frag) (neg : Bool) : R2 := fun x y H Q => ∃ d ds, Dp K H x d ∧ (Dp K H y (.list ds) ∧ SeqAt.shaped (.list ds) = true ∨ Dp K H y (.tuple ds) ∧ SeqAt.shaped (.tuple ds) = true) ∧ SeqAt.shaped d = true ∧ Q (.bl (if neg then !ds.any fun z => PyData.eqv z d else ds.any fun z => PyData.eqv z d)) H
theorem op_notInT (hu : X.A.units + 65 < cLine) : OpR X (compareOp .NotIn) (rInT X.K true) := by
  intro pins s σ H x y v u Q I rx ry h
  obtain ⟨d, ds, hd, he, sd, q⟩ := h
  obtain ⟨as, r1⟩ := Dp.reads I d x v hd rx
  rcases he with ⟨he, se⟩ | ⟨he, se⟩
  · obtain ⟨bs, r2⟩ := Dp.reads I (.list ds) y u he ry
    exact SeqAt.notIn_list_reads r2 r1 (SeqAt.canLay_of_shaped se) (SeqAt.canLay_of_shaped sd) (room_in_shaped sd hu) ⟨.bl _, H, I, rfl, q⟩
  · obtain ⟨bs, r2⟩ := Dp.reads I (.tuple ds) y u he ry
    exact SeqAt.notIn_tuple_reads r2 r1 (SeqAt.canLay_of_shaped se) (SeqAt.canLay_of_shaped sd) (room_in_shaped sd hu) ⟨.bl _, H, I, rfl, q⟩
end
abbrev inTS (neg : Bool) : RD2s := fun a b Q => ∃ xs, (b = .lst xs ∨ b = .tup xs) ∧ Cmp a ∧ Cmp b ∧ Q (.bl (if neg then !(pyL xs).any fun z => PyData.eqv z a.py else (pyL xs).any fun z => PyData.eqv z a.py))
theorem op2_inT {K : PySem.W.Frag} (neg : Bool) : Op2s K (rInT K neg) (inTS neg) := fun x y a b F H Q Qd s rx ry ⟨xs, hb, ca, cb, q⟩ k => by
  refine ⟨a.py, pyL xs, dp_mono s (rx.dp ca.1), ?_, rx.shp ca, k _ _ q rfl⟩
  rcases hb with rfl | rfl
  · exact .inl ⟨dp_mono s (ry.dp cb.1), ry.shp cb⟩
  · exact .inr ⟨dp_mono s (ry.dp cb.1), ry.shp cb⟩
end DL
namespace DR
open PySem PySem.Spec PyProof.Rows L2 DL
section
variable {δ : DSt} {Q : DK} {E : XD}
end
end DR

set_option Elab.async false
set_option linter.all false
set_option maxRecDepth 100000
/-! DL37: defs with positional defaults -/
namespace DL
open PySem PySem.Spec PyProof.Rows L2
section
variable {P : Program} {w : World} {K : PySem.W.Frag} {mg : Str → Option Value} {base : Heap}
end
end DL

set_option Elab.async false
set_option linter.all false
set_option maxRecDepth 100000
/-! DL38: sep.join(texts) -/
namespace DL
open PySem PySem.Spec PyProof.Rows L2
theorem strOk_join {y : Str} (hy : PyData.strOk y = true) : ∀ {xs : List Str}, (∀ x ∈ xs, PyData.strOk x = true) → PyData.strOk (Str.join y xs) = true
  | [], _ => by
    show PyData.strOk Str.empty = true
    decide +kernel
  | [x], h => h x List.mem_cons_self
  | x :: z :: r, h => by
    show PyData.strOk (x ++ y ++ Str.join y (z :: r)) = true
    exact strOk_app (strOk_app (h x List.mem_cons_self) hy) (strOk_join hy fun a ha => h a (List.mem_cons_of_mem _ ha))
theorem reps_strs {K : PySem.W.Frag} {F : Hp} : ∀ {ys : List Str} {vs : List V}, RepL K F vs (ys.map .str) → vs = ys.map V.str ∧ ∀ y ∈ ys, PyData.strOk y = true
  | [], _, .nil => ⟨rfl, fun y h => nomatch h⟩
  | y :: ys, _, .cons h t => by
    obtain ⟨rfl, ok⟩ := reps_strs t
    cases h with
    | str k => exact ⟨rfl, fun z hz => (List.mem_cons.mp hz).elim (fun e => by rw [e]; exact k) (ok z)⟩
section
variable {X : Cx} {c : Fc} {W : WX}
def joinD (to te : TD) : TD := fun δ Q E => to δ (fun x δ1 => ∃ a, x.toD = .str a ∧ te δ1 (fun y δ2 => ∃ ys : List Str, y.toD.its = some (ys.map .str) ∧ (ys.map (·.length)).sum + ys.length * a.length ≤ 16777216 ∧ Q (.d (.str (Str.join a ys))) δ2) E) E
theorem pd_join {o e : Expr} {to te : TD} {apos pos : Pos} (ho : PE X o (LE X.K c W to)) (he : PE X e (LE X.K c W te)) (hs : starEach [e] X.env = [(false, eval e X.env)] := by rfl) (hbase : attributeBase o "join" X.env (eval o X.env) = eval o X.env := by rfl) (hline : (apos.endLine == pos.line) = true := by rfl) :
    PE X (.Call (.Attribute o "join" apos) [e] [] pos) (LE X.K c W (joinD to te)) :=
  PE_imp (pe_join ho he hs hbase hline) fun σ H Q ⟨δ, tmp, Qd, Ed, S, t, k, w⟩ => ⟨δ, tmp, _, Ed, S, t, fun v x δ1 H1 ⟨a, ea, t1⟩ ⟨F, ow, S1⟩ => by
    obtain ⟨F', S2, _⟩ := S1.top_frz
    rw [ea] at S2
    have r := S2.top
    cases r with
    | str k1 =>
      refine ⟨⟨a, rfl⟩, δ1, _, _, Ed, ⟨F', ow, S2⟩, t1, fun u y δ2 H2 ⟨ys, ey, hz, q⟩ ⟨F3, ow3, S3⟩ => ?_, w.push⟩
      obtain ⟨F4, S4, _⟩ := S3.top_frz
      obtain ⟨p, vs, rfl, h, r⟩ := S4.top.row ey
      obtain ⟨rfl, ok⟩ := reps_strs r
      refine ⟨a, p, ys, rfl, rfl, sq_mono S4.fh h, hz, ?_⟩
      rw [TL.join_eq]
      exact k _ _ _ _ q ⟨F4, ow3, (S4.pop.pop).push (.str (strOk_join k1 ok))⟩, w⟩
end
end DL
namespace DR
open PySem PySem.Spec PyProof.Rows L2 DL
theorem join {δ : DSt} {Q : DK} {E : XD} {to te : TD} (h : to δ (fun x δ1 => ∃ a, x.toD = .str a ∧ te δ1 (fun y δ2 => ∃ ys : List Str, y.toD.its = some (ys.map .str) ∧ (ys.map (·.length)).sum + ys.length * a.length ≤ 16777216 ∧ Q (.d (.str (Str.join a ys))) δ2) E) E) : joinD to te δ Q E := h
end DR

set_option Elab.async false
set_option linter.all false
set_option maxRecDepth 100000
set_option maxHeartbeats 2000000
/-! DL39: dict(zip(a, b)) of two tuples, a of texts -/
namespace ZT
open PySem PySem.Spec
open PySem.Sem (wp)
section
variable {prog : Program} {w : World} {A : Around} {E : Value → Shared → Prop} {s : Shared} {z TI TO T i1 i2 l1 l2 : Addr} {f : Bool} {oT : Obj} {k1 k2 : Nat} {xs ys : Array Value}
end
section
variable {prog : Program} {w : World}
end
end ZT
namespace DL
open PySem PySem.Spec PyProof.Rows L2
end DL

set_option Elab.async false
set_option linter.all false
set_option maxRecDepth 100000
set_option maxHeartbeats 2000000
/-! DL40: dicts by plain keys in data; tuple * int; index of a text; isinstance of what was caught, of a built-in class -/
namespace DL
open PySem PySem.Spec PyProof.Rows L2
/-! ### dict(zip(a, b)) -/
section
variable {X : Cx} {c : Fc} {W : WX}
/-! ### d[k] -/
def valK (kvs : List (Key × D)) (k : Key) : Option D := (kvs.find? fun p => decide (p.1 = k)).map (·.2)
theorem repK_get {K : PySem.W.Frag} {F : Hp} {k : Key} : ∀ {vs : List (Key × V)} {ds : List (Key × D)}, RepK K F vs ds → ∀ d, valK ds k = some d → ∃ v, valV vs k = some v ∧ Rep K F v d
  | _, _, .nil => fun d h => nomatch h
  | _, _, .cons (n := n) (v := v) (d := d) (vs := vs) (ds := ds) h t => by
    by_cases e : n = k
    · have e1 : valK ((n, d) :: ds) k = some d := by simp [valK, List.find?_cons, e]
      rw [e1, valV_pos (p := (n, v)) e]
      exact fun d z => by cases z; exact ⟨v, rfl, h⟩
    · have e1 : valK ((n, d) :: ds) k = valK ds k := by simp [valK, List.find?_cons, e]
      rw [e1, valV_neg (p := (n, v)) e]
      exact repK_get t
def keyOne : Key → D
  | .inl i => .int i
  | .inr x => .str x
theorem key_one {K : PySem.W.Frag} {F : Hp} {v : V} : ∀ {k : Key}, Rep K F v (keyOne k) → v = kV k
  | .inl i, r => by cases r; rfl
  | .inr x, r => by cases r; rfl
/-! ### xs.index(x), texts -/
/-! ### isinstance(e, X), X a built-in class -/
/-! ### (x, ..) * n -/
end
end DL
namespace DR
open PySem PySem.Spec PyProof.Rows L2 DL
section
variable {δ : DSt} {Q : DK} {E : XD}
end
end DR

set_option Elab.async false
set_option linter.all false
set_option maxRecDepth 100000
set_option maxHeartbeats 2000000
/-! DL41: f(a, *xs) of a def with a star; sum of a list of numbers -/
namespace DL
open PySem PySem.Spec PyProof.Rows L2
section
variable {X : Cx} {c : Fc} {W : WX}
end
section
variable {X : Cx} {c : Fc} {W : WX}
variable {k : Nat} {f C : Addr} {sd : SpD} {x m : Str} {p pos apos : Pos} {e o : Expr} {es : List Expr} {ta : TDA}
end
/-! ### if xs: a tuple or a list -/
section
variable {X : Cx} {c : Fc} {W : WX}
end
end DL
namespace DR
open PySem PySem.Spec PyProof.Rows L2 DL
variable {δ : DSt} {E : XD}
end DR

set_option Elab.async false
set_option linter.all false
set_option maxRecDepth 100000
/-! comprehensions whose body may raise: the exception leaves the block, and then the def or a try of it -/
namespace L2
open PySem PySem.Spec PyProof.Rows
section
variable {M : Model} {A : Around} {E : Value → Shared → Prop} {s : Shared} {env : Env}
end
section
variable {M : Model} {A : Around} {E : Value → Shared → Prop} {s : Shared} {env : Env} {base : Heap} {outer : List Env} {e L : Addr} {Z : Obj → Prop} {fl : Value}
end
end L2
namespace L2
open PySem PySem.Spec PyProof.Rows
section
variable {X : Cx}
end
end L2
namespace L2
open PySem PySem.Spec PyProof.Rows
section
variable {X : Cx} {W : WX}
end
end L2
namespace L2
open PySem PySem.Spec PyProof.Rows
section
variable {X : Cx} {W : WX} {elt tg iter : Expr} {ifs : List Expr} {scope : Scope} {own : List (Str × Nat)} {pos : Pos} {wi : TI} {g : TG} {tt : WX → TT} {te : WX → TE}
end
end L2

set_option Elab.async false
set_option linter.all false
set_option maxRecDepth 100000
namespace DL
open PySem PySem.Spec PyProof.Rows L2
section
variable {K : PySem.W.Frag} {c : Fc} {F F' H H' : Hp} {ow ow' : Addr → Option Hold} {δ δ' : DSt} {tmp : List (V × DV)} {σ σ' : L2.St}
end
section
variable {X : Cx} {c : Fc} {W : WX}
end
end DL
namespace DR
open PySem PySem.Spec PyProof.Rows L2 DL
end DR

set_option Elab.async false
set_option linter.all false
set_option maxRecDepth 100000
/-! zip of two, each a list or a tuple, of one length -/
namespace Z2
open PySem
open PySem.Sem (wp)
section
variable {prog : Program} {w : World} {A : Around} {E : Value → Shared → Prop} {s : Shared} {p q : Bool}
variable {n l1 l2 : Nat} {i : Nat} {xs ys : Array Value} {x y a b : Value}
end
/-! ### making one -/
end Z2
namespace DL
open PySem PySem.Spec PyProof.Rows L2
section
variable {X : Cx} {c : Fc} {W : WX}
end
end DL
namespace DR
open PySem PySem.Spec PyProof.Rows L2 DL
end DR

set_option Elab.async false
set_option linter.all false
set_option maxRecDepth 100000
set_option maxHeartbeats 2000000
/-! several except clauses, each with or without a name -/
namespace DL
open PySem PySem.Spec PyProof.Rows L2
section
variable {X : Cx} {bd : List Stmt} {g : ExceptHandler} {gs : List ExceptHandler} {qs : List ClauseM} {pos : Pos} {tb : WX → TS} {out : WX}
end
/-! in data -/
end DL
namespace DR
open PySem PySem.Spec PyProof.Rows L2 DL
end DR

set_option Elab.async false
set_option linter.all false
set_option maxRecDepth 100000
/-! x != [] and x == [] of any list -/
namespace DL
open PySem PySem.Spec PyProof.Rows L2
end DL

set_option Elab.async false
set_option linter.all false
set_option maxRecDepth 100000
/-! DL47: a, b = x, y where one is a cell; a written tuple unpacked -/
namespace DL
open PySem PySem.Spec PyProof.Rows L2
section
variable {X : Cx} {c : Fc} {W : WX}
end
end DL
namespace DR
open PySem PySem.Spec PyProof.Rows L2 DL
theorem tupgV {is : List Nat} {xs : List DL.D} {δ : DSt} {Q : DSt → Prop} (h : namesG is xs δ Q) : tupG is (DV.d (.tup xs)).toD δ Q := ⟨xs, rfl, h⟩
end DR

set_option Elab.async false
set_option linter.all false
set_option maxRecDepth 100000
set_option maxHeartbeats 2000000
/-! DL48: tuple(zip(a, b)) of two tuples -/
namespace ZT
open PySem PySem.Spec
open PySem.Sem (wp)
section
variable {prog : Program} {w : World} {A : Around} {E : Value → Shared → Prop} {s : Shared} {z TI TO i1 i2 l1 l2 S : Addr} {xs ys : Array Value}
/-- two tuples are zipped, i pairs were given out -/
def ZSt (z TI TO i1 i2 l1 l2 : Addr) (xs ys : Array Value) (S : Addr) (i : Nat) (h : Heap) : Prop :=
  IsPair h TI (.ref i1) (.ref i2) ∧ (h.IsTupleIter i1 l1 i ∧ h.IsTupleIter i2 l2 i) ∧ (h.IsTuple l1 xs ∧ h.IsTuple l2 ys) ∧
    ((IsZip h z TI TO .none ∧ ∃ a b, IsPair h TO a b) ∨ ∃ T f oT, IsZipHeld h z TI TO T f ∧ h.get? T = some oT ∧ T ≠ z ∧ T ≠ i1 ∧ T ≠ i2 ∧ T ≠ S)
theorem ZSt.keep {i : Nat} {g g' : Heap} (hm : S ∉ [z, TI, TO, i1, i2, l1, l2]) (st : ZSt z TI TO i1 i2 l1 l2 xs ys S i g) (hk : ∀ b o, b ≠ S → g.get? b = some o → g'.get? b = some o) : ZSt z TI TO i1 i2 l1 l2 xs ys S i g' := by
  simp only [List.mem_cons, List.not_mem_nil, or_false, not_or] at hm
  obtain ⟨dz, dTI, dTO, di1, di2, dl1, dl2⟩ := hm
  obtain ⟨q2, ⟨q4, q5⟩, ⟨q6, q7⟩, hz⟩ := st
  refine ⟨hk _ _ (Ne.symm dTI) q2, ⟨q4.at fun o e => hk _ o (Ne.symm di1) e, q5.at fun o e => hk _ o (Ne.symm di2) e⟩, ⟨q6.at fun o e => hk _ o (Ne.symm dl1) e, q7.at fun o e => hk _ o (Ne.symm dl2) e⟩, ?_⟩
  rcases hz with ⟨q1, a, b, q3⟩ | ⟨T, f, oT, q1, qT, r1, r2, r3, r4⟩
  · exact .inl ⟨hk _ _ (Ne.symm dz) q1, a, b, hk _ _ (Ne.symm dTO) q3⟩
  · exact .inr ⟨T, f, oT, hk _ _ (Ne.symm dz) q1, hk _ _ r4 qT, r1, r2, r3, r4⟩
end
end ZT
namespace DL
open PySem PySem.Spec PyProof.Rows L2
open PySem.Sem (wp)
/-! ### several new objects at once -/
section
variable {prog : Program} {w : World} {A : Around} {E : Value → Shared → Prop} {s : Shared} {z TI TO i1 i2 l1 l2 : Addr} {xs ys : Array Value}
end
section
variable {X : Cx} {c : Fc} {W : WX}
end
end DL
namespace DR
open PySem PySem.Spec PyProof.Rows L2 DL
end DR

set_option Elab.async false
set_option linter.all false
set_option maxRecDepth 100000
set_option maxHeartbeats 2000000
/-! DL49: sum and any of a tuple of whole numbers -/
namespace DL
open PySem PySem.Spec PyProof.Rows L2
open PySem.Sem (wp)
section
variable {X : Cx} {K : PySem.W.Frag}
end
end DL

set_option Elab.async false
set_option linter.all false
set_option maxRecDepth 100000
set_option maxHeartbeats 2000000
/-! DL50: own * with a whole number on the right; - of an own object -/
namespace DL
open PySem PySem.Spec PyProof.Rows L2
open PySem.Sem (wp)
section
variable {X : Cx} {k : Nat} {f C : Addr} {fd : FuncData} {ps : List Str} {sp : Sp} {E : L2.St → XK} {a b : Expr} {ta tb : TE} {pos : Pos} {r : L2.St → R2}
end
section
variable {X : Cx} {c : Fc} {W : WX} {k : Nat} {f C : Addr} {fd : FuncData} {ps : List Str} {sd : SpD} {a b : Expr} {ta tb : TD} {pos : Pos}
end
end DL
namespace DR
open PySem PySem.Spec PyProof.Rows L2 DL
section
variable {δ : DSt} {Q : DK} {E : XD}
end
end DR

set_option Elab.async false
set_option linter.all false
set_option maxRecDepth 100000
set_option maxHeartbeats 2000000
/-! DL51: list(text), slices of texts -/
namespace DL
open PySem PySem.Spec PyProof.Rows L2
section
variable {X : Cx} {c : Fc} {W : WX}
end
end DL

set_option Elab.async false
set_option linter.all false
set_option maxRecDepth 100000
set_option maxHeartbeats 2000000
/-! DL52: xs[::-1] of a list -/
namespace DL
open PySem PySem.Spec PyProof.Rows L2
section
variable {X : Cx} {c : Fc} {W : WX}
end
end DL
namespace DR
open PySem PySem.Spec PyProof.Rows L2 DL
section
variable {δ : DSt} {Q : DK} {E : XD}
theorem slc {rd : RDS} {t : TD} {tl th : TDO} (h : t δ (fun x δ1 => tl δ1 (fun l δ2 => th δ2 (fun h δ3 => rd x.toD l h fun z => Q z δ3) E) E) E) : sliceD rd t tl th δ Q E := h
theorem slN {Q : Option Int → DSt → Prop} (h : Q none δ) : noneO δ Q E := h
theorem slS {t : TD} {Q : Option Int → DSt → Prop} (h : t δ (fun x δ1 => ∃ i, x.toD = .int i ∧ Q (some i) δ1) E) : someO t δ Q E := h
end
end DR

set_option Elab.async false
set_option linter.all false
set_option maxRecDepth 100000
set_option maxHeartbeats 2000000
/-! DL53: xs.count(x), texts -/
namespace DL
open PySem PySem.Spec PyProof.Rows L2
section
variable {X : Cx} {c : Fc} {W : WX}
end
end DL
namespace DR
open PySem PySem.Spec PyProof.Rows L2 DL
end DR

set_option Elab.async false
set_option linter.all false
set_option maxRecDepth 100000
set_option maxHeartbeats 2000000
/-! DL54: a dict comprehension with plain keys, over data -/
namespace DL
open PySem PySem.Spec PyProof.Rows L2
def putKD (kvs : List (Key × D)) (k : Key) (d : D) : List (Key × D) :=
  if (kvs.any fun kv => decide (kv.1 = k)) = true then kvs.map (fun kv => if kv.1 = k then (kv.1, d) else kv) else kvs ++ [(k, d)]
theorem repK_any {K : PySem.W.Frag} {F : Hp} {k : Key} : ∀ {vs : List (Key × V)} {ds : List (Key × D)}, RepK K F vs ds → (vs.any fun kv => decide (kv.1 = k)) = (ds.any fun kv => decide (kv.1 = k))
  | _, _, .nil => rfl
  | _, _, .cons h t => by rw [List.any_cons, List.any_cons, repK_any t]
theorem repK_set {K : PySem.W.Frag} {F : Hp} {k : Key} {v : V} {d : D} (r : Rep K F v d) : ∀ {vs : List (Key × V)} {ds : List (Key × D)}, RepK K F vs ds → RepK K F (vs.map fun kv => if kv.1 = k then (kv.1, v) else kv) (ds.map fun kv => if kv.1 = k then (kv.1, d) else kv)
  | _, _, .nil => .nil
  | _, _, .cons (n := n) h t => by
    rw [List.map_cons, List.map_cons]
    by_cases e : n = k
    · rw [if_pos e, if_pos e]
      exact .cons r (repK_set r t)
    · rw [if_neg e, if_neg e]
      exact .cons h (repK_set r t)
theorem repK_snoc {K : PySem.W.Frag} {F : Hp} {k : Key} {v : V} {d : D} (r : Rep K F v d) : ∀ {vs : List (Key × V)} {ds : List (Key × D)}, RepK K F vs ds → RepK K F (vs ++ [(k, v)]) (ds ++ [(k, d)])
  | _, _, .nil => .cons r .nil
  | _, _, .cons h t => .cons h (repK_snoc r t)
theorem repK_put {K : PySem.W.Frag} {F : Hp} {k : Key} {v : V} {d : D} (r : Rep K F v d) {vs : List (Key × V)} {ds : List (Key × D)} (h : RepK K F vs ds) : RepK K F (putK vs k v) (putKD ds k d) := by
  unfold putK putKD
  rw [repK_any h]
  split
  · exact repK_set r h
  · exact repK_snoc r h
theorem repK_len {K : PySem.W.Frag} {F : Hp} : ∀ {vs : List (Key × V)} {ds : List (Key × D)}, RepK K F vs ds → vs.length = ds.length
  | _, _, .nil => rfl
  | _, _, .cons _ t => congrArg Nat.succ (repK_len t)
section
variable {X : Cx} {c : Fc} {W : WX}
end
end DL
namespace DR
open PySem PySem.Spec PyProof.Rows L2 DL
end DR

set_option Elab.async false
set_option linter.all false
set_option maxRecDepth 100000
/-! repr(x) of plain data: it wants that no repr is under way (guards); so such defs promise only where none is -/
namespace DL
open PySem PySem.Spec PyProof.Rows L2
/-! ### the text is made of right signs -/
theorem strOk_of {z : Str} (h : ∀ c ∈ z.cps.toList, c < 0x110000) : PyData.strOk z = true := by
  unfold PyData.strOk
  rw [Array.all_eq_true]
  intro i hi
  have := h z.cps[i] (by simp)
  simpa using this
theorem strOk_mem {z : Str} (h : PyData.strOk z = true) : ∀ c ∈ z.cps.toList, c < 0x110000 := by
  intro c hc
  unfold PyData.strOk at h
  rw [Array.all_eq_true] at h
  obtain ⟨i, hi, rfl⟩ := List.mem_iff_getElem.mp hc
  simpa using h i (by simpa using hi)
theorem char_lt (c : Char) : c.toNat < 0x110000 := by
  rcases c.valid with h | h
  · exact Nat.lt_trans h (by decide)
  · exact h.2
theorem strOk_lit (x : String) : PyData.strOk (Str.ofString x) = true := strOk_of fun c hc => by
  have e : (Str.ofString x).cps.toList = x.toList.map Char.toNat := cpsOfBytes_string x
  rw [e] at hc
  obtain ⟨d, _, rfl⟩ := List.mem_map.mp hc
  exact char_lt d
theorem sign_lt {q c : Nat} (hq : q < 0x110000) (hc : c < 0x110000) : ∀ d ∈ Builtin.Str.reprChar q c, d < 0x110000 := by
  have hx : ∀ (w : Nat), ∀ d ∈ List.replicate (w - ((Nat.toDigits 16 c).map Char.toNat).length) 48 ++ (Nat.toDigits 16 c).map Char.toNat, d < 0x110000 := fun w d hd => by
    rcases List.mem_append.mp hd with hd | hd
    · rw [(List.mem_replicate.mp hd).2]; decide
    · obtain ⟨e, _, rfl⟩ := List.mem_map.mp hd
      exact char_lt e
  intro d hd
  unfold Builtin.Str.reprChar at hd
  have two : ∀ {a b : Nat}, a < 0x110000 → b < 0x110000 → d ∈ [a, b] → d < 0x110000 := fun {a b} ha hb hm => by
    simp only [List.mem_cons, List.not_mem_nil, or_false] at hm
    rcases hm with rfl | rfl
    · exact ha
    · exact hb
  dsimp only at hd
  split at hd
  · exact two (by decide) hc hd
  split at hd
  · exact two (by decide) (by decide) hd
  split at hd
  · exact two (by decide) (by decide) hd
  split at hd
  · exact two (by decide) (by decide) hd
  split at hd
  · simp only [List.mem_cons, List.not_mem_nil, or_false] at hd
    exact hd ▸ hc
  split at hd
  · rcases List.mem_append.mp hd with hd | hd
    · exact two (by decide) (by decide) hd
    · exact hx _ _ hd
  split at hd
  · rcases List.mem_append.mp hd with hd | hd
    · exact two (by decide) (by decide) hd
    · exact hx _ _ hd
  · rcases List.mem_append.mp hd with hd | hd
    · exact two (by decide) (by decide) hd
    · exact hx _ _ hd
theorem strOk_repr {x : Str} (h : PyData.strOk x = true) : PyData.strOk (reprText x) = true := by
  have hq : reprQuote x < 0x110000 := by unfold reprQuote; split <;> decide
  have key : ∀ (l : List Nat) (acc : Array Nat), (∀ c ∈ l, c < 0x110000) → (∀ c ∈ acc.toList, c < 0x110000) →
      ∀ c ∈ (l.foldl (fun out c => out ++ (Builtin.Str.reprChar (reprQuote x) c).toArray) acc).toList, c < 0x110000 := by
    intro l
    induction l with
    | nil => exact fun acc _ h => h
    | cons a l ih =>
      intro acc h1 h2
      refine ih _ (fun c hc => h1 c (List.mem_cons_of_mem _ hc)) fun c hc => ?_
      rw [Array.toList_append] at hc
      rcases List.mem_append.mp hc with hc | hc
      · exact h2 c hc
      · exact sign_lt hq (h1 a List.mem_cons_self) c (by simpa using hc)
  refine strOk_of fun c hc => ?_
  unfold reprText at hc
  rw [Array.toList_push, ← Array.foldl_toList] at hc
  rcases List.mem_append.mp hc with hc | hc
  · exact key _ _ (strOk_mem h) (fun d hd => by simp at hd; omega) c hc
  · simp at hc; omega
theorem strOk_textFrom : ∀ (ts : List Str) (k : Nat) (acc : Str), PyData.strOk acc = true → (∀ t ∈ ts, PyData.strOk t = true) → PyData.strOk (textFrom k acc ts) = true
  | [], _, _, h, _ => h
  | t :: ts, k, acc, h, g => by
    refine strOk_textFrom ts (k + 1) _ (strOk_app (strOk_app h ?_) (g t List.mem_cons_self)) fun u hu => g u (List.mem_cons_of_mem _ hu)
    split <;> exact strOk_lit _
mutual
theorem strOk_shown : ∀ {d : PyData}, d.canLay0 = true → d.hasDict = false → PyData.strOk d.shown = true
  | .none, _, _ => strOk_lit _
  | .bool b, _, _ => by cases b <;> (simp only [PyData.shown]; exact strOk_lit _)
  | .int i, _, _ => by simp only [PyData.shown]; exact strOk_lit _
  | .str x, h, _ => by simp only [PyData.shown]; exact strOk_repr (by simpa [PyData.canLay0] using h)
  | .list xs, h, n => by
    simp only [PyData.shown, listText]
    exact strOk_app (strOk_textFrom _ _ _ (strOk_lit _) (strOk_shownAll (by simpa [PyData.canLay0] using h) (by simpa [PyData.hasDict] using n))) (strOk_lit _)
  | .tuple xs, h, n => by
    simp only [PyData.shown, tupleText]
    exact strOk_app (strOk_app (strOk_lit _) (strOk_join (strOk_lit _) (strOk_shownAll (by simpa [PyData.canLay0] using h) (by simpa [PyData.hasDict] using n)))) (strOk_lit _)
  | .dict _, _, n => by simp [PyData.hasDict] at n
theorem strOk_shownAll : ∀ {ds : List PyData}, PyData.canLayAll0 ds = true → PyData.hasDictAll ds = false → ∀ t ∈ PyData.shownAll ds, PyData.strOk t = true
  | [], _, _, t, ht => by simp [PyData.shownAll] at ht
  | d :: ds, h, n, t, ht => by
    simp only [PyData.canLayAll0, Bool.and_eq_true] at h
    simp only [PyData.hasDictAll, Bool.or_eq_false_iff] at n
    simp only [PyData.shownAll, List.mem_cons] at ht
    rcases ht with rfl | ht
    · exact strOk_shown h.1 n.1
    · exact strOk_shownAll h.2 n.2 t ht
end
mutual
theorem noDict : ∀ {d : D}, d.isPy = true → d.py.hasDict = false
  | .non, _ => rfl
  | .bl _, _ => rfl
  | .int _, _ => rfl
  | .str _, _ => rfl
  | .lst xs, h => by simp only [D.py, PyData.hasDict]; exact noDictL h
  | .ro xs, h => by simp only [D.py, PyData.hasDict]; exact noDictL h
  | .tup xs, h => by simp only [D.py, PyData.hasDict]; exact noDictL h
  | .rot xs, h => by simp only [D.py, PyData.hasDict]; exact noDictL h
  | .ktp xs, h => by simp only [D.py, PyData.hasDict]; exact noDictL h
  | .ty _, h => by cases h
  | .adr _, h => by cases h
  | .obj _ _, h => by cases h
  | .dT _, h => by cases h
  | .dK _, h => by cases h
  | .exc _ _ _ _ _, h => by cases h
  | .gho _ _, h => by cases h
  | .lkd _ _ _ _, h => by cases h
  | .lkt _ _ _ _, h => by cases h
theorem noDictL : ∀ {ds : List D}, isPyL ds = true → PyData.hasDictAll (pyL ds) = false
  | [], _ => rfl
  | d :: ds, h => by
    simp only [isPyL, Bool.and_eq_true] at h
    simp only [pyL, PyData.hasDictAll, noDict h.1, noDictL h.2, Bool.or_self]
end
/-! ### how long the text is at most -/
mutual
def shW : PyData → Nat
  | .none => 4
  | .bool _ => 5
  | .int i => (Str.ofString (toString i)).length
  | .str x => 10 * x.length + 2
  | .list xs => shWs xs + 2
  | .tuple xs => shWs xs + 3
  | .dict _ => 0
def shWs : List PyData → Nat
  | [] => 0
  | d :: ds => shW d + 2 + shWs ds
end
def sumW (ts : List Str) : Nat := ts.foldr (fun t n => t.length + 2 + n) 0
theorem textFrom_le : ∀ (ts : List Str) (k : Nat) (acc : Str), (textFrom k acc ts).length ≤ acc.length + sumW ts
  | [], _, _ => Nat.le_refl _
  | t :: ts, k, acc => by
    have ih := textFrom_le ts (k + 1) (acc ++ (if k > 0 then ", " else "" : String) ++ t)
    have e : (acc ++ (if k > 0 then ", " else "" : String) ++ t).length ≤ acc.length + 2 + t.length := by
      rw [strLen_append, strLen_append]
      have : ((if k > 0 then ", " else "" : String) : Str).length ≤ 2 := by split <;> decide
      omega
    have e2 : sumW (t :: ts) = t.length + 2 + sumW ts := rfl
    show (textFrom (k + 1) (acc ++ (if k > 0 then ", " else "" : String) ++ t) ts).length ≤ _
    omega
theorem join_le : ∀ (ts : List Str), (Str.join ", " ts).length ≤ sumW ts
  | [] => Nat.zero_le _
  | [x] => by show x.length ≤ x.length + 2 + 0; omega
  | x :: y :: r => by
    have ih := join_le (y :: r)
    show (x ++ ", " ++ Str.join ", " (y :: r)).length ≤ x.length + 2 + sumW (y :: r)
    rw [strLen_append, strLen_append, show ((", " : String) : Str).length = 2 from rfl]
    omega
mutual
theorem shown_le : ∀ {d : PyData}, d.canLay0 = true → d.hasDict = false → d.shown.length ≤ shW d
  | .none, _, _ => by simp only [PyData.shown, shW]; decide
  | .bool b, _, _ => by cases b <;> (simp only [PyData.shown, shW]; decide)
  | .int i, _, _ => by simp only [PyData.shown, shW]; exact Nat.le_refl _
  | .str x, h, _ => by
    simp only [PyData.shown, shW]
    exact PySem.StrLaws.reprText_len x fun c hc => Nat.lt_trans (strOk_mem (by simpa [PyData.canLay0] using h) c hc) (by decide)
  | .list xs, h, n => by
    simp only [PyData.shown, shW, listText]
    have := textFrom_le (PyData.shownAll xs) 0 "["
    have h2 := shown_leAll (by simpa [PyData.canLay0] using h) (by simpa [PyData.hasDict] using n)
    rw [strLen_append, show (("]" : String) : Str).length = 1 from rfl]
    rw [show (("[" : String) : Str).length = 1 from rfl] at this
    omega
  | .tuple xs, h, n => by
    simp only [PyData.shown, shW, tupleText]
    have := join_le (PyData.shownAll xs)
    have h2 := shown_leAll (by simpa [PyData.canLay0] using h) (by simpa [PyData.hasDict] using n)
    have h3 : ((if (PyData.shownAll xs).length == 1 then ",)" else ")" : String) : Str).length ≤ 2 := by split <;> decide
    rw [strLen_append, strLen_append, show (("(" : String) : Str).length = 1 from rfl]
    omega
  | .dict _, _, n => by simp [PyData.hasDict] at n
theorem shown_leAll : ∀ {ds : List PyData}, PyData.canLayAll0 ds = true → PyData.hasDictAll ds = false → sumW (PyData.shownAll ds) ≤ shWs ds
  | [], _, _ => by simp only [PyData.shownAll, shWs]; exact Nat.le_refl _
  | d :: ds, h, n => by
    simp only [PyData.canLayAll0, Bool.and_eq_true] at h
    simp only [PyData.hasDictAll, Bool.or_eq_false_iff] at n
    have h1 := shown_le h.1 n.1
    have h2 := shown_leAll h.2 n.2
    simp only [PyData.shownAll, shWs]
    show d.shown.length + 2 + sumW (PyData.shownAll ds) ≤ _
    omega
end
end DL

set_option Elab.async false
set_option linter.all false
set_option maxRecDepth 100000
/-! repr(x), and defs that promise where no repr is under way -/
namespace DL
open PySem PySem.Spec PyProof.Rows L2
section
variable {X : Cx}
end
section
variable {X : Cx} {c : Fc} {W : WX}
end
/-! ### a def's promise where no repr is under way -/
section
variable {P : Program} {w : World} {K : PySem.W.Frag} {mg : Str → Option Value} {base : Heap}
end
/-! ### its call -/
section
variable {X : Cx} {c : Fc} {W : WX} {k : Nat} {f : Addr} {fd : FuncData} {ps : List Str} {sd : SpD} {x : Str} {p pos : Pos} {e : Expr} {es : List Expr} {ta : TDA}
end
end DL

set_option Elab.async false
set_option linter.all false
set_option maxRecDepth 100000
/-! the end of a law whose def promises where no repr is under way -/
namespace DL
open PySem PySem.Spec PyProof.Rows L2
end DL
namespace DL
open PySem PySem.Spec PyProof.Rows L2
end DL

set_option Elab.async false
set_option linter.all false
set_option maxRecDepth 100000
/-! one or the other reading of an expression -/
namespace DL
open PySem PySem.Spec PyProof.Rows L2
end DL
namespace DL
open PySem PySem.Spec PyProof.Rows L2
/-- t[lo:hi] of a tuple, not the whole of it -/
abbrev sliceT : RDS := fun a lo hi Q => ∃ xs, a = .tup xs ∧ ¬ (HT.sIx xs.length 0 lo = 0 ∧ HT.sIx xs.length xs.length hi = xs.length) ∧ Q (.d (.tup (cutD xs lo hi)))
theorem sld_tup {K : PySem.W.Frag} : SlD K (rSlT K) sliceT := fun x a lo hi F H Q Qd s r ⟨xs, e, w, q⟩ k => by
  subst e
  cases r with
  | tup s1 r1 => exact ⟨_, _, rfl, SqT.of (s _ _ s1), by rw [r1.len]; exact w, fun p n => k _ _ _ _ q (made_tup n s (r1.cut lo hi))⟩
theorem pd_sliceT {X : Cx} {c : Fc} {W : WX} {e : Expr} {lo hi : Option Expr} {t : TD} {tl th : TDO} {p2 pos : Pos} (he : PE X e (LE X.K c W t)) (hl : PO X lo (LO X.K c W tl)) (hh : PO X hi (LO X.K c W th)) : PE X (.Subscript e (.Slice lo hi none p2) pos) (LE X.K c W (sliceD sliceT t tl th)) := pd_sliceR sl_tup sld_tup he hl hh
end DL

set_option Elab.async false
set_option linter.all false
set_option maxRecDepth 100000
/-! text * int -/
namespace DL
open PySem PySem.Spec PyProof.Rows L2
end DL
namespace DL
open PySem PySem.Spec PyProof.Rows L2
/-! the text of an int: how long it is -/
end DL
namespace DL
open PySem PySem.Spec PyProof.Rows L2
/-! int of a bool -/
abbrev intBS : RDNs := fun ds Q => ∃ b : Bool, ds = [.bl b] ∧ Q (.int (if b then 1 else 0))
theorem cn_intB {K : PySem.W.Frag} : CallNs K (fun xs H Q => (∃ i, xs = [V.int i] ∧ Q (.int i) H) ∨ ∃ k, xs = [V.bl k] ∧ Q (.int (if k then 1 else 0)) H) intBS := fun xs ds F H Q Qd s r ⟨b, e1, q⟩ k => by
  subst e1
  cases r with
  | cons r t => cases t; cases r; exact .inr ⟨b, rfl, k _ _ q rfl⟩
end DL

set_option Elab.async false
set_option linter.all false
set_option maxRecDepth 100000
set_option maxHeartbeats 2000000
/-! DL60: a tuple whose object is known to have no dict (.rot): xs.count(x) of texts; tuple(list) laid so; tuple(rot), for over it -/
namespace DL
open PySem PySem.Spec PyProof.Rows L2
section
variable {X : Cx} {c : Fc} {W : WX}
end
/-! ### tuple(list), laid with its object; tuple(rot); for over a rot -/
section
variable {X : Cx} {c : Fc} {W : WX}
end
end DL
namespace DR
open PySem PySem.Spec PyProof.Rows L2 DL
end DR

set_option Elab.async false
set_option linter.all false
set_option maxRecDepth 100000
set_option maxHeartbeats 2000000
/-! DL61: rules for a tuple whose object is known (.rot): in, len(set(..)) of texts, a tuple + a rot -/
namespace DL
open PySem PySem.Spec PyProof.Rows L2
section
variable {X : Cx} {c : Fc} {W : WX}
end
end DL
namespace DR
open PySem PySem.Spec PyProof.Rows L2 DL
end DR

set_option Elab.async false
set_option linter.all false
set_option maxRecDepth 100000
set_option maxHeartbeats 2000000
/-! DL62: an own dict by plain keys (read, write, in), name -= number -/
namespace DL
open PySem PySem.Spec PyProof.Rows L2
theorem repK_some {K : PySem.W.Frag} {F : Hp} {k : Key} : ∀ {vs : List (Key × V)} {ds : List (Key × D)}, RepK K F vs ds → (valV vs k).isSome = (valK ds k).isSome
  | _, _, .nil => rfl
  | _, _, .cons (n := n) (v := v) (d := d) (vs := vs) (ds := ds) h t => by
    by_cases e : n = k
    · have e1 : valK ((n, d) :: ds) k = some d := by simp [valK, List.find?_cons, e]
      rw [e1, valV_pos (p := (n, v)) e]
      rfl
    · have e1 : valK ((n, d) :: ds) k = valK ds k := by simp [valK, List.find?_cons, e]
      rw [e1, valV_neg (p := (n, v)) e]
      exact repK_some t
section
variable {X : Cx} {c : Fc} {W : WX}
def getKO (j : Nat) (ti : TD) : TD := fun δ Q E => ∃ o, δ[j]? = some (some (.own o)) ∧ ti δ (fun k δ1 => ∃ kvs ks d, δ1[j]? = some (some (.own (.dK kvs))) ∧ k.toD = keyOne ks ∧ valK kvs ks = some d ∧ Q (.d d) δ1) E
theorem pd_getKO {j : Nat} {x : Str} {i : Expr} {ti : TD} {pos px : Pos} (h : ∀ {to ti : TE}, PE X (.Name x px) to → PE X i ti → PE X (.Subscript (.Name x px) i pos) (tDGet to ti)) (hv : PE X (.Name x px) (tVar j)) (hi : PE X i (LE X.K c W ti)) : PE X (.Subscript (.Name x px) i pos) (LE X.K c W (getKO j ti)) :=
  PE_imp (h hv hi) fun σ H Q ⟨δ, tmp, Qd, Ed, ⟨F, ow, S⟩, ⟨o, eo, q⟩, k, w⟩ => by
    obtain ⟨v, e1, p, rfl, _⟩ := S.sl _ _ eo
    refine ⟨_, e1, δ, tmp, _, Ed, ⟨F, ow, S⟩, q, fun u y δ1 H1 ⟨kvs, ks, d, ej, ek, ed, q1⟩ ⟨F1, ow1, S1⟩ => ?_, w⟩
    obtain ⟨F2, S2, _⟩ := S1.top_frz
    obtain ⟨v', e2, p', rfl, _, _, _, vs, ep, r⟩ := S2.sl _ _ ej
    rw [e1] at e2
    cases e2
    rw [ek] at S2
    obtain rfl := key_one S2.top
    obtain ⟨z, ez, rz⟩ := repK_get r d ed
    refine ⟨p, z, rfl, ?_, k _ _ _ _ q1 ⟨F2, ow1, S2.pop.push rz⟩⟩
    rw [← ez]
    exact DGet.k ep
def putKS (j : Nat) (te ti : TD) : TDS := fun D δ => te δ (fun v δ1 => (∃ o, δ1[j]? = some (some (.own o))) ∧ ti δ1 (fun k δ2 => ∃ kvs ks, δ2[j]? = some (some (.own (.dK kvs))) ∧ k.toD = keyOne ks ∧ kvs.length < sizeLine ∧ D.nx (δ2.set j (some (.own (.dK (putKD kvs ks v.toD)))))) D.ex) D.ex
theorem psd_putK {j : Nat} {x : Str} {i e : Expr} {te ti : TD} {A : Prop} {pos pos' px : Pos} (hu : A) (h : ∀ {to ti tv : TE}, PE X (.Name x px) to → PE X i ti → PE X e tv → PS X (.Assign [.Subscript (.Name x px) i pos'] e pos) (sDPut to ti tv)) (hv : PE X (.Name x px) (tVar j)) (he : PE X e (LE X.K c W te)) (hi : PE X i (LE X.K c W ti)) :
    PS X (.Assign [.Subscript (.Name x px) i pos'] e pos) (LS X.K c W (putKS j te ti)) :=
  PS_imp (h hv hi he) fun D σ H ⟨δ, tmp, Dd, S, q, k, kr, kb, kc, w⟩ => ⟨δ, tmp, _, _, S, q, fun u y δ1 H1 ⟨⟨o, eo⟩, q1⟩ ⟨F1, ow1, S1⟩ => by
    obtain ⟨F2, S2, _⟩ := S1.top_frz
    obtain ⟨v, e1, p, rfl, _⟩ := S2.sl _ _ eo
    refine ⟨_, e1, δ1, _, _, _, ⟨F2, ow1, S2⟩, q1, fun t z δ2 H2 ⟨kvs, ks, ej, ek, hl, q2⟩ ⟨F3, ow3, S3⟩ => ?_, w.push⟩
    obtain ⟨F4, S4, _⟩ := S3.top_frz
    rw [ek] at S4
    obtain rfl := key_one S4.top
    obtain ⟨v', e2, p', rfl, _, _, _, vs, ep, r⟩ := S4.sl _ _ ej
    rw [e1] at e2
    cases e2
    refine ⟨p, _, rfl, DPut.k ep (by rw [repK_len r]; exact hl), k _ _ _ q2 ⟨F4, ow3, ?_⟩⟩
    exact (S4.pop.write (o' := .dK (putKD kvs ks y.toD)) ej e1 ⟨_, upd_same, repK_put S4.pop.top r⟩).pop, w⟩
theorem dget_k {K : PySem.W.Frag} {F H : Hp} {p : Addr} {ks : Key} {vs : List (Key × V)} {ds : List (Key × D)} (r : RepK K F vs ds) (ep : Rd H p (.dK vs)) : ∃ o, DGet H p (kV ks) o ∧ o.isSome = (valK ds ks).isSome :=
  ⟨_, .inl ⟨vs, ks, ep, rfl, rfl⟩, repK_some r⟩
def inKO (j : Nat) (n : Bool) (ti : TD) : TD := fun δ Q E => ti δ (fun k δ1 => ∃ kvs ks, δ1[j]? = some (some (.own (.dK kvs))) ∧ k.toD = keyOne ks ∧ Q (.d (.bl (n != (valK kvs ks).isSome))) δ1) E
theorem inKO_run {K : PySem.W.Frag} {j : Nat} {n : Bool} {ti : TD} {f : Bool → Bool} (hf : ∀ b, f b = (n != b)) : ∀ σ H Q, LE K c W (inKO j n ti) σ H Q → (LE K c W ti) σ H fun y H1 => tVar j σ H1 fun x H2 => ∃ a o, x = .ref a ∧ DGet H2 a y o ∧ Q (.bl (f o.isSome)) H2 := fun σ H Q ⟨δ, tmp, Qd, Ed, S, q, k, w⟩ =>
  ⟨δ, tmp, _, Ed, S, q, fun u y δ1 H1 ⟨kvs, ks, ej, ek, q1⟩ ⟨F1, ow1, S1⟩ => by
    obtain ⟨F2, S2, _⟩ := S1.top_frz
    rw [ek] at S2
    obtain rfl := key_one S2.top
    obtain ⟨v', e2, p', rfl, _, _, _, vs, ep, r⟩ := S2.sl _ _ ej
    obtain ⟨o, g, eo⟩ := dget_k (ks := ks) r (.inl ep)
    exact ⟨_, e2, p', o, rfl, g, k _ _ _ _ (by rw [hf, eo]; exact q1) ⟨F2, ow1, S2.pop.push (.bl _)⟩⟩, w⟩
theorem ptd_inKO_t {j : Nat} {x : Str} {i : Expr} {ti : TD} {pos px : Pos} (h : ∀ {ty td : TE}, PE X i ty → PE X (.Name x px) td → PT X (.Compare i [.In] [.Name x px] pos) (tB (tDIn ty td))) (hi : PE X i (LE X.K c W ti)) (hv : PE X (.Name x px) (tVar j)) : PT X (.Compare i [.In] [.Name x px] pos) (LT X.K c W (tvD (inKO j false ti))) :=
  PT_imp (h hi hv) fun σ H Q ⟨δ, tmp, Qd, Ed, S, q, k, w⟩ => inKO_run (j := j) (n := false) (ti := ti) (f := id) (fun b => by cases b <;> rfl) σ H (fun v H1 => ∃ b, v = .bl b ∧ Q b H1) ⟨δ, tmp, (fun x δ1 => ∃ b, x = .d (.bl b) ∧ Qd b δ1), Ed, S, q, fun v x δ' H' ⟨b, e, q'⟩ ⟨F, ow, S'⟩ => by
    subst e
    cases S'.top
    exact ⟨b, rfl, k _ _ _ q' ⟨F, ow, S'.pop⟩⟩, w⟩
theorem ptd_inKO_f {j : Nat} {x : Str} {i : Expr} {ti : TD} {pos px : Pos} (h : ∀ {ty td : TE}, PE X i ty → PE X (.Name x px) td → PT X (.Compare i [.NotIn] [.Name x px] pos) (tB (tDNotIn ty td))) (hi : PE X i (LE X.K c W ti)) (hv : PE X (.Name x px) (tVar j)) : PT X (.Compare i [.NotIn] [.Name x px] pos) (LT X.K c W (tvD (inKO j true ti))) :=
  PT_imp (h hi hv) fun σ H Q ⟨δ, tmp, Qd, Ed, S, q, k, w⟩ => inKO_run (j := j) (n := true) (ti := ti) (f := fun b => !b) (fun b => by cases b <;> rfl) σ H (fun v H1 => ∃ b, v = .bl b ∧ Q b H1) ⟨δ, tmp, (fun x δ1 => ∃ b, x = .d (.bl b) ∧ Qd b δ1), Ed, S, q, fun v x δ' H' ⟨b, e, q'⟩ ⟨F, ow, S'⟩ => by
    subst e
    cases S'.top
    exact ⟨b, rfl, k _ _ _ q' ⟨F, ow, S'.pop⟩⟩, w⟩
/-! ### name -= number -/
end
end DL
namespace DR
open PySem PySem.Spec PyProof.Rows L2 DL
section
variable {δ : DSt} {Q : DK} {E : XD} {D : EndsD}
theorem getKO {j : Nat} {ti : TD} {o : OC} (e : δ[j]? = some (some (.own o))) (h : ti δ (fun k δ1 => ∃ kvs ks d, δ1[j]? = some (some (.own (.dK kvs))) ∧ k.toD = keyOne ks ∧ valK kvs ks = some d ∧ Q (.d d) δ1) E) : DL.getKO j ti δ Q E := ⟨o, e, h⟩
theorem putK {j : Nat} {te ti : TD} (h : te δ (fun v δ1 => (∃ o, δ1[j]? = some (some (.own o))) ∧ ti δ1 (fun k δ2 => ∃ kvs ks, δ2[j]? = some (some (.own (.dK kvs))) ∧ k.toD = keyOne ks ∧ kvs.length < sizeLine ∧ D.nx (δ2.set j (some (.own (.dK (putKD kvs ks v.toD)))))) D.ex) D.ex) : putKS j te ti D δ := h
theorem inKO {j : Nat} {n : Bool} {ti : TD} (h : ti δ (fun k δ1 => ∃ kvs ks, δ1[j]? = some (some (.own (.dK kvs))) ∧ k.toD = keyOne ks ∧ Q (.d (.bl (n != (valK kvs ks).isSome))) δ1) E) : DL.inKO j n ti δ Q E := h
end
end DR

set_option Elab.async false
set_option linter.all false
set_option maxRecDepth 100000
set_option maxHeartbeats 2000000
/-! DL63: objects of the body's own: made without arguments, their methods, iteration, len -/
namespace DL
open PySem PySem.Spec PyProof.Rows L2
section
variable {X : Cx} {k : Nat} {f C : Addr} {fd : FuncData} {ps : List Str} {sd : SpD} {x m : Str} {p pos apos : Pos}
end
section
variable {X : Cx} {c : Fc} {W : WX} {k : Nat} {f C : Addr} {fd : FuncData} {ps : List Str} {sd : SpD} {x m : Str} {p pos apos : Pos} {e : Expr} {es : List Expr} {ta : TDA}
/-! len of an own object by its class's own __len__ -/
end
end DL
namespace DR
open PySem PySem.Spec PyProof.Rows L2 DL
section
variable {δ : DSt} {Q : DK} {E : XD}
end
end DR

set_option Elab.async false
set_option linter.all false
set_option maxRecDepth 100000
set_option maxHeartbeats 2000000
/-! DL64: sorted(xs, key=f), f an own def whose answer is a pair of whole numbers; f's calls keep what is held (not each object to the letter) -/
namespace SKI
open PySem PySem.Calls PySem.Spec PyProof.Rows PySem.W L2
section
variable {X : Cx} {pins : List (Addr × Obj)} {σ : L2.St} {H : Hp} {s : Shared} {a kS f : Addr} {us : List Value} {kys : List (Int × Int)} {e1 : Nat}
end
end SKI

set_option Elab.async false
set_option linter.all false
set_option maxRecDepth 100000
set_option maxHeartbeats 2000000
/-! DL65: sorted(xs, key=f) over data -/
namespace DL
open PySem PySem.Spec PyProof.Rows L2
section
variable {X : Cx} {k : Nat} {f : Addr} {fd : FuncData} {ps : List Str} {sp : Sp}
end
section
variable {K : PySem.W.Frag} {F : Hp}
end
section
variable {X : Cx} {c : Fc} {W : WX} {k : Nat} {f : Addr} {fd : FuncData} {ps : List Str} {sd : SpD}
end
end DL
namespace DR
open PySem PySem.Spec PyProof.Rows L2 DL
end DR

set_option Elab.async false
set_option linter.all false
set_option maxRecDepth 100000
set_option maxHeartbeats 2000000
/-! DL66: tuple(d.items()), d a dict by plain keys -/
namespace DL
open PySem PySem.Spec PyProof.Rows L2
section
variable {prog : Program} {w : World} {KT : Type} [DecidableEq KT] {knd : PySem.KeyKind prog w KT} {A : Around} {E : Value → Shared → Prop} {s : Shared} {r d : Addr} {kvs : List (KT × Value)} {ep : Nat}
end
section
variable {X : Cx} {c : Fc} {W : WX}
end
end DL
namespace DR
open PySem PySem.Spec PyProof.Rows L2 DL
end DR

set_option Elab.async false
set_option linter.all false
set_option maxRecDepth 100000
set_option maxHeartbeats 2000000
/-! DL67: a call one of whose arguments is a new object of the body's own, handed over for good -/
namespace DL
open PySem PySem.Spec PyProof.Rows L2
section
variable (K : PySem.W.Frag) (c : Fc) (W : WX)
end
section
variable {K : PySem.W.Frag} {c : Fc} {F F' H H' : Hp} {ow : Addr → Option Hold} {δ : DSt} {tmp : List (V × DV)} {σ : L2.St} {v u : V} {x : DV} {o : OC} {d : D}
end
section
variable {K : PySem.W.Frag} {c : Fc} {W : WX} {F H : Hp} {ow : Addr → Option Hold} {δ : DSt} {tmp : List (V × DV)} {σ : L2.St} {v : V} {o : OC} {vs1 vs2 : List V} {as1 as2 : List AV} {xs1 xs2 : List DV} {sd : SpD} {Q : VK} {Qd : DK} {Ed : XD}
end
section
variable {X : Cx} {c : Fc} {W : WX}
variable {k : Nat} {f : Addr} {fd : FuncData} {ps : List Str} {sd : SpD} {x : Str} {p pos : Pos} {e : Expr} {es : List Expr} {ta : TDM}
end
end DL
namespace DR
open PySem PySem.Spec PyProof.Rows L2 DL
section
variable {δ : DSt} {Q : List AV → OC → List AV → DSt → Prop} {E : XD}
end
end DR

set_option Elab.async false
set_option linter.all false
set_option maxRecDepth 100000
set_option maxHeartbeats 2000000
/-! DL68: a class's constant -/
namespace DL
open PySem PySem.Spec PyProof.Rows L2
end DL
namespace DL
open PySem PySem.Spec PyProof.Rows L2
end DL

set_option Elab.async false
set_option linter.all false
set_option maxRecDepth 100000
/-! DL69: a, b, c = x, y, z where one is a cell -/
namespace DL
open PySem PySem.Spec PyProof.Rows L2
section
variable {X : Cx} {c : Fc} {W : WX}
end
end DL

set_option Elab.async false
set_option linter.all false
set_option maxRecDepth 100000
set_option maxHeartbeats 2000000
/-! DL70: a list's items to names; sorted of whole numbers and of rows of four whole numbers; xs[i], xs[j] = a, b -/
namespace DL
open PySem PySem.Spec PyProof.Rows L2 PySem.W
section
variable {X : Cx} {c : Fc} {W : WX}
def lstG (is : List Nat) : TDG := fun x δ Q => ∃ xs, x = .lst xs ∧ namesG is xs δ Q
theorem pgd_lst {is vs : List Nat} {e : Expr} {n : Nat} (h : PG X e (gUnl X.K n (gNames is))) (hn : n = is.length) (ni : ∀ i ∈ is, i ∉ c.sl ∧ i ∈ vs) : PG X e (LG X.K c vs (lstG is)) :=
  PG_imp h fun v σ H Q ⟨δ, tmp, x, Qd, ⟨F, ow, S⟩, ⟨xs, e, q⟩, k⟩ => by
    subst e
    have r0 := S.top
    cases r0 with
    | lst s1 r1 =>
      refine ⟨_, _, rfl, SqL.of (S.fh _ _ s1), ?_, names_run ni rfl S.pop r1 q k⟩
      rw [r1.len, hn]
      exact names_len q
/-! rows of four -/
/-! xs[i], xs[j] = a, b : xs the own list in slot n -/
end
end DL

set_option Elab.async false
set_option linter.all false
set_option maxRecDepth 100000
set_option maxHeartbeats 2000000
/-! DL71: d.get(k, x) of an own dict by plain keys -/
namespace DL
open PySem PySem.Spec PyProof.Rows L2
section
variable {X : Cx} {c : Fc} {W : WX}
end
end DL
namespace DR
open PySem PySem.Spec PyProof.Rows L2 DL
end DR

set_option Elab.async false
set_option linter.all false
set_option maxRecDepth 100000
/-! DL72: x not in xs, xs an own list that goes on changing -/
namespace DL
open PySem PySem.Spec PyProof.Rows L2
section
variable {X : Cx} {c : Fc} {W : WX}
end
end DL

set_option Elab.async false
set_option linter.all false
set_option maxRecDepth 100000
set_option maxHeartbeats 2000000
/-! DL73: cells: own objects that no name holds, kept on the stack; an alias is their address -/
namespace DL
open PySem PySem.Spec PyProof.Rows L2
abbrev Cells := List (Addr × OC)
abbrev cellV (x : Addr × OC) : V × DV := (.ref x.1, .own x.2)
abbrev stk (cs : Cells) : List (V × DV) := cs.map cellV
structure EndsC where
  nx : DSt → Cells → Prop
  rt : DV → DSt → Cells → Prop
  ex : XD
  bk : DSt → Cells → Prop := fun _ _ => False
  ct : DSt → Cells → Prop := fun _ _ => False
abbrev TDSc := EndsC → DSt → Cells → Prop
abbrev TDc := DSt → Cells → (DV → DSt → Cells → Prop) → XD → Prop
abbrev TDTc := DSt → Cells → (Bool → DSt → Cells → Prop) → XD → Prop
section
variable (K : PySem.W.Frag) (c : Fc) (W : WX)
def LEc (t : TDc) : TE := fun σ H Q => ∃ δ cs pre tmp Qd Ed, Stt K c δ (pre ++ (stk cs ++ tmp)) σ H ∧ t δ cs Qd Ed ∧ (∀ v x δ' cs' H', Qd x δ' cs' → Stt K c δ' ((v, x) :: (pre ++ (stk cs' ++ tmp))) σ H' → Q v H') ∧ WD K c W tmp Ed
def LTc (t : TDTc) : TT := fun σ H Q => ∃ δ cs pre tmp Qd Ed, Stt K c δ (pre ++ (stk cs ++ tmp)) σ H ∧ t δ cs Qd Ed ∧ (∀ b δ' cs' H', Qd b δ' cs' → Stt K c δ' (pre ++ (stk cs' ++ tmp)) σ H' → Q b H') ∧ WD K c W tmp Ed
def LSc (t : TDSc) : TS := fun D σ H => ∃ δ cs pre tmp Dd, Stt K c δ (pre ++ (stk cs ++ tmp)) σ H ∧ t Dd δ cs ∧ (∀ δ' cs' σ' H', Dd.nx δ' cs' → Stt K c δ' (pre ++ (stk cs' ++ tmp)) σ' H' → D.nx σ' H') ∧
  (∀ v x δ' cs' σ' H', Dd.rt x δ' cs' → Stt K c δ' ((v, x) :: (pre ++ (stk cs' ++ tmp))) σ' H' → D.rt v H') ∧
  (∀ δ' cs' σ' H', Dd.bk δ' cs' → Stt K c δ' (pre ++ (stk cs' ++ tmp)) σ' H' → D.bk σ' H') ∧ (∀ δ' cs' σ' H', Dd.ct δ' cs' → Stt K c δ' (pre ++ (stk cs' ++ tmp)) σ' H' → D.ct σ' H') ∧ WD K c W tmp Dd.ex
end
section
variable {K : PySem.W.Frag} {c : Fc} {W : WX} {tmp : List (V × DV)} {Ed : XD}
theorem WD.app (w : WD K c W tmp Ed) : ∀ l : List (V × DV), WD K c W (l ++ tmp) Ed
  | [] => w
  | (_, _) :: l => (w.app l).push
end
section
variable {X : Cx} {c : Fc} {W : WX}
/-! ### what stands without cells -/
def upE (t : TD) : TDc := fun δ cs Q E => t δ (fun x δ' => Q x δ' cs) E
def upT (t : TDT) : TDTc := fun δ cs Q E => t δ (fun x δ' => Q x δ' cs) E
def upS (t : TDS) : TDSc := fun D δ cs => t { nx := fun δ' => D.nx δ' cs, rt := fun x δ' => D.rt x δ' cs, ex := D.ex, bk := fun δ' => D.bk δ' cs, ct := fun δ' => D.ct δ' cs } δ
theorem pec_up {e : Expr} {t : TD} (h : PE X e (LE X.K c W t)) : PE X e (LEc X.K c W (upE t)) := PE_imp h fun σ H Q ⟨δ, cs, pre, tmp, Qd, Ed, S, t, k, w⟩ =>
  ⟨δ, _, _, Ed, S, t, fun v x δ' H' q S' => k v x δ' cs H' q S', (w.app _).app _⟩
theorem ptc_up {e : Expr} {t : TDT} (h : PT X e (LT X.K c W t)) : PT X e (LTc X.K c W (upT t)) := PT_imp h fun σ H Q ⟨δ, cs, pre, tmp, Qd, Ed, S, t, k, w⟩ =>
  ⟨δ, _, _, Ed, S, t, fun b δ' H' q S' => k b δ' cs H' q S', (w.app _).app _⟩
theorem psc_up {st : Stmt} {t : TDS} (h : PS X st (LS X.K c W t)) : PS X st (LSc X.K c W (upS t)) := PS_imp h fun D σ H ⟨δ, cs, pre, tmp, Dd, S, q, k, kr, kb, kc, w⟩ =>
  ⟨δ, _, _, S, q, fun δ' σ' H' => k δ' cs σ' H', fun v x δ' σ' H' => kr v x δ' cs σ' H', fun δ' σ' H' => kb δ' cs σ' H', fun δ' σ' H' => kc δ' cs σ' H', (w.app _).app _⟩
/-! ### blocks -/
def seqC (t u : TDSc) : TDSc := fun D δ cs => t { D with nx := u D } δ cs
def nextC : TDSc := fun D δ cs => D.nx δ cs
theorem pdsc_nil : PSs X [] (LSc X.K c W nextC) := PSs_imp pss_nil fun D σ H ⟨δ, cs, pre, tmp, Dd, S, t, k, _⟩ => k δ cs σ H t S
theorem pdsc_cons {st : Stmt} {rest : List Stmt} {t u : TDSc} (h1 : PS X st (LSc X.K c W t)) (h2 : PSs X rest (LSc X.K c W u)) : PSs X (st :: rest) (LSc X.K c W (seqC t u)) :=
  PSs_imp (pss_cons h1 h2) fun D σ H ⟨δ, cs, pre, tmp, Dd, S, q, k, kr, kb, kc, w⟩ => ⟨δ, cs, pre, tmp, _, S, q, fun δ' cs' σ' H' q' S' => ⟨δ', cs', pre, tmp, Dd, S', q', k, kr, kb, kc, w⟩, kr, kb, kc, w⟩
theorem pdsc_one {st : Stmt} {t : TDSc} (h1 : PS X st (LSc X.K c W t)) : PSs X [st] (LSc X.K c W t) := PSs_imp (pss_one h1) fun _ _ _ q => q
/-- x = e -/
def setC (i : Nat) (o : Bool) (t : TDc) : TDSc := fun D δ cs => t δ cs (fun x δ1 cs1 => D.nx (δ1.set i (some (asD o x))) cs1) D.ex
theorem psc_set {i : Nat} {o : Bool} {x : Str} {e : Expr} {t : TDc} {pos pos' : Pos} (he : PE X e (LEc X.K c W t)) (ni : i ∉ c.sl) (hN : X.N.Nodup) (hi : X.N[i]? = some x) (hx : Loc X.env.scope x) (hs : swapsWith e (some (.Name x pos')) pos.line X.env = pure false := by rfl)
    (hf : X.fn x = true ∨ X.env.scope.names.lookup x = some .local := by first | exact .inl rfl | exact .inr rfl | assumption) : PS X (.Assign [.Name x pos'] e pos) (LSc X.K c W (setC i o t)) :=
  PS_imp (ps_set (i := i) hN hi hx he hs hf) fun D σ H ⟨δ, cs, pre, tmp, Dd, S, q, k, kr, kb, kc, w⟩ => ⟨δ, cs, pre, tmp, _, _, S, q, fun v x δ' cs' H' q' ⟨F, ow, S'⟩ => by
    obtain ⟨F', S2⟩ := S'.top_as o
    exact k _ _ _ _ q' (S2.set' ni), w⟩
/-! ### for -/
end
/-! ### the stack put in another order -/
section
variable {K : PySem.W.Frag} {c : Fc} {F H : Hp} {ow ow' : Addr → Option Hold} {δ : DSt} {σ : L2.St} {v : V} {x : DV}
def renH (f : Nat → Nat) : Option Hold → Option Hold
  | some (.t n) => some (.t (f n))
  | z => z
theorem RepV.ren {f : Nat → Nat} {n : Nat} (q : RepV K c F H ow (.t n) v x) : RepV K c F H (fun a => renH f (ow a)) (.t (f n)) v x := by
  cases x with
  | d y => exact q
  | own o =>
    obtain ⟨p, rfl, a, b, w, r⟩ := q
    exact ⟨p, rfl, by show renH f (ow p) = _; rw [a]; rfl, b, .inl w.t, r⟩
theorem RepV.renS {f : Nat → Nat} {i : Nat} (q : RepV K c F H ow (.s i) v x) : RepV K c F H (fun a => renH f (ow a)) (.s i) v x := by
  cases x with
  | d y => exact q
  | own o =>
    obtain ⟨p, rfl, a, b, w, r⟩ := q
    exact ⟨p, rfl, by show renH f (ow p) = _; rw [a]; rfl, b, w, r⟩
theorem RepTmp.ren {f : Nat → Nat} : ∀ {l : List (V × DV)}, (∀ n, n < l.length → f n = n) → RepTmp K c F H ow l → RepTmp K c F H (fun a => renH f (ow a)) l
  | [], _, _ => True.intro
  | (v, x) :: l, h, q => ⟨by
      have := q.1.ren (f := f)
      rw [h _ (Nat.lt_succ_self _)] at this
      exact this, RepTmp.ren (fun n hn => h n (Nat.lt_succ_of_lt hn)) q.2⟩
theorem RepTmp.sink {f : Nat → Nat} {v : V} {x : DV} {B : List (V × DV)} (h1 : ∀ n, n < B.length → f n = n) : ∀ {A : List (V × DV)}, (∀ n, B.length ≤ n → n < B.length + A.length → f n = n + 1) → RepTmp K c F H ow (A ++ B) → RepV K c F H (fun a => renH f (ow a)) (.t B.length) v x →
    RepTmp K c F H (fun a => renH f (ow a)) (A ++ (v, x) :: B)
  | [], _, q, r => ⟨r, RepTmp.ren h1 q⟩
  | (u, y) :: A, h, q, r => by
    refine ⟨?_, RepTmp.sink h1 (fun n a b => h n a (Nat.lt_succ_of_lt b)) q.2 r⟩
    have h2 : RepV K c F H (fun a => renH f (ow a)) (.t (f (A ++ B).length)) u y := q.1.ren (f := f)
    have e : f (A ++ B).length = (A ++ (v, x) :: B).length := by
      rw [h _ (by rw [List.length_append]; omega) (by rw [List.length_append, List.length_cons]; omega), List.length_append, List.length_append, List.length_cons]
      omega
    rw [e] at h2
    exact h2
theorem SttF.sink {A B : List (V × DV)} (S : SttF K c F ow δ ((v, x) :: (A ++ B)) σ H) : ∃ ow', SttF K c F ow' δ (A ++ (v, x) :: B) σ H := by
  let f : Nat → Nat := fun n => if n < B.length then n else if n < B.length + A.length then n + 1 else B.length
  refine ⟨fun a => renH f (ow a), { S with sl := fun i x q => let ⟨v, e1, e2⟩ := S.sl i x q; ⟨v, e1, e2.renS⟩, tm := ?_ }⟩
  refine RepTmp.sink (fun n h => if_pos h) (fun n h1 h2 => (if_neg (Nat.not_lt.mpr h1)).trans (if_pos h2)) S.tm.2 ?_
  have := S.tm.1.ren (f := f)
  have e : f (A ++ B).length = B.length := by
    show (if _ then _ else _) = _
    rw [List.length_append, if_neg (by omega), if_neg (by omega)]
  rw [e] at this
  exact this
theorem RepTmp.mid : ∀ {A B : List (V × DV)}, RepTmp K c F H ow (A ++ (v, x) :: B) → RepV K c F H ow (.t B.length) v x
  | [], _, q => q.1
  | (_, _) :: _, _, q => RepTmp.mid q.2
end
/-! ### an alias is put in the place of a name that holds the cell -/
section
variable {K : PySem.W.Frag} {c c' : Fc} {F H : Hp} {ow ow' : Addr → Option Hold} {δ : DSt} {σ : L2.St} {v : V} {x : DV} {a : Addr} {o : OC} {i : Nat}
theorem RepV.at {h : Hold} (q : RepV K c F H ow h v x) (n : ∀ p, NewAt c h p → NewAt c' h p) (m : ∀ p, v = .ref p → ow p = some h → ow' p = ow p) : RepV K c' F H ow' h v x := by
  cases x with
  | d y => exact q
  | own o =>
    obtain ⟨p, rfl, a, b, w, r⟩ := q
    exact ⟨p, rfl, (m p rfl a).trans a, b, n p w, r⟩
theorem RepTmp.swap {v : V} {x y : DV} {B : List (V × DV)} (n : ∀ k p, NewAt c (.t k) p → NewAt c' (.t k) p) (m : ∀ k p, k ≠ B.length → ow p = some (.t k) → ow' p = ow p) (r : RepV K c' F H ow' (.t B.length) v y) : ∀ {A : List (V × DV)}, RepTmp K c F H ow (A ++ (v, x) :: B) → RepTmp K c' F H ow' (A ++ (v, y) :: B)
  | [], q => ⟨r, by
      have go : ∀ {l : List (V × DV)}, l.length ≤ B.length → RepTmp K c F H ow l → RepTmp K c' F H ow' l := fun {l} => by
        induction l with
        | nil => exact fun _ _ => True.intro
        | cons e l ih =>
          obtain ⟨u, z⟩ := e
          exact fun hl q => ⟨q.1.at (n _) fun p _ e => m _ p (by have : l.length + 1 ≤ B.length := hl; omega) e, ih (Nat.le_of_succ_le hl) q.2⟩
      exact go (Nat.le_refl _) q.2⟩
  | (u, z) :: A, q => ⟨by
      have hl : (A ++ (v, x) :: B).length = (A ++ (v, y) :: B).length := by rw [List.length_append, List.length_append]; rfl
      have hn : (A ++ (v, x) :: B).length ≠ B.length := by rw [List.length_append, List.length_cons]; omega
      have h1 : RepV K c' F H ow' (.t (A ++ (v, x) :: B).length) u z := q.1.at (c' := c') (ow' := ow') (n _) fun p _ e => m _ p hn e
      rw [hl] at h1
      exact h1, RepTmp.swap n m r q.2⟩
abbrev focF (c : Fc) (i : Nat) (a : Addr) : Fc := { c with sl := i :: c.sl, ad := a :: c.ad }
theorem SttF.focus {A B : List (V × DV)} (S : SttF K c F ow δ (A ++ (.ref a, .own o) :: B) σ H) (ei : δ[i]? = some (some (.d (.adr a)))) (ni : i ∉ c.sl) : c.H0 a = none ∧ ∃ ow', SttF K (focF c i a) F ow' (δ.set i (some (.own o))) (A ++ (.ref a, .d (.adr a)) :: B) σ H := by
  obtain ⟨p, e0, ea, b, w, r⟩ := S.tm.mid
  cases e0
  have h0 := w.t
  obtain ⟨v, e1, r1⟩ := S.sl _ _ ei
  cases (show Rep K F v (.adr a) from r1)
  have nw : ∀ (h : Hold) (p : Addr), NewAt c h p → NewAt (focF c i a) h p := fun h p w => w.imp id fun ⟨w1, j, e, w2⟩ => ⟨List.mem_cons_of_mem _ w1, j, e, List.mem_cons_of_mem _ w2⟩
  refine ⟨h0, owSet ow a (.s i), ⟨S.fh, S.f0, S.fn, fun b u e n => S.fr b u e fun z => n (List.mem_cons_of_mem _ z), S.up, by rw [List.length_set]; exact S.len, fun j z q => ?_, ?_, fun k j p q1 q2 => ?_⟩⟩
  · by_cases e' : i = j
    · subst e'
      rw [List.getElem?_set_self (set_lt ei)] at q
      cases q
      exact ⟨.ref a, e1, a, rfl, owSet_at, b, .inl h0, r⟩
    · rw [List.getElem?_set_ne e'] at q
      obtain ⟨u, e2, r2⟩ := S.sl j z q
      exact ⟨u, e2, r2.at (nw _) fun p _ e => owSet_ne fun y => by subst y; rw [ea] at e; cases e⟩
  · refine RepTmp.swap (c' := focF c i a) (ow' := owSet ow a (.s i)) (x := .own o) (y := .d (.adr a)) (fun k p => nw _ p) (fun k p hk e => owSet_ne fun y => ?_) (show Rep K F (.ref a) (.adr a) from .adr a) S.tm
    subst y; rw [ea] at e; cases e; exact hk rfl
  · cases k with
    | zero => cases q1; cases q2; exact e1
    | succ k => exact S.ps k j p q1 q2
theorem SttF.unfocus {A B : List (V × DV)} (S : SttF K (focF c i a) F ow δ (A ++ (.ref a, .d (.adr a)) :: B) σ H) (ei : δ[i]? = some (some (.own o))) (ni : i ∉ c.sl) (h0 : c.H0 a = none) : ∃ ow', SttF K c F ow' (δ.set i (some (.d (.adr a)))) (A ++ (.ref a, .own o) :: B) σ H := by
  have es := S.ps 0 i a rfl rfl
  obtain ⟨v, e1, p, e0, ea, b, w, r⟩ := S.sl _ _ ei
  rw [es] at e1
  cases e1
  cases e0
  have nwt : ∀ (k : Nat) (p : Addr), NewAt (focF c i a) (.t k) p → NewAt c (.t k) p := fun k p w => .inl w.t
  refine ⟨owSet ow a (.t B.length), ⟨S.fh, S.f0, S.fn, fun b u e n => S.fr b u e fun z => (List.mem_cons.mp z).elim (fun y => by rw [y] at e; exact nomatch (show (none : Option HO) = some u from h0.symm.trans e)) n, S.up, by rw [List.length_set]; exact S.len, fun j z q => ?_, ?_, fun k j p q1 q2 => S.ps (k + 1) j p q1 q2⟩⟩
  · by_cases e' : i = j
    · subst e'
      rw [List.getElem?_set_self (set_lt ei)] at q
      cases q
      exact ⟨.ref a, es, .adr a⟩
    · rw [List.getElem?_set_ne e'] at q
      obtain ⟨u, e2, r2⟩ := S.sl j z q
      refine ⟨u, e2, r2.at (fun p w => ?_) fun p _ e => owSet_ne fun y => by subst y; rw [ea] at e; cases e; exact e' rfl⟩
      rcases w with w | ⟨w1, k, e, w2⟩
      · exact .inl w
      · cases e
        rcases List.mem_cons.mp w1 with y | w1
        · exact .inl (y ▸ h0)
        · exact .inr ⟨w1, j, rfl, (List.mem_cons.mp w2).elim (fun y => (e' y.symm).elim) id⟩
  · refine RepTmp.swap (c := focF c i a) (c' := c) (ow' := owSet ow a (.t B.length)) (x := .d (.adr a)) (y := .own o) (fun k p => nwt k p) (fun k p hk e => owSet_ne fun y => ?_) ⟨a, rfl, owSet_at, b, .inl h0, r⟩ S.tm
    subst y; rw [ea] at e; cases e
end
section
variable {X : Cx} {c : Fc} {W : WX}
theorem cells_at {cs : Cells} {k : Nat} {a : Addr} {o : OC} (h : cs[k]? = some (a, o)) : ∃ l r, cs = l ++ (a, o) :: r ∧ ∀ o', cs.set k (a, o') = l ++ (a, o') :: r := by
  refine ⟨cs.take k, cs.drop (k + 1), ?_, fun o' => ?_⟩
  · have hk := set_lt h
    have e : cs[k] = (a, o) := Option.some.inj ((List.getElem?_eq_getElem hk).symm.trans h)
    rw [← e, ← List.drop_eq_getElem_cons hk, List.take_append_drop]
  · rw [List.set_eq_take_append_cons_drop, if_pos (set_lt h)]
/-- a statement while the name at slot i, an alias, holds its cell -/
def withC (i : Nat) (t : TDS) : TDSc := fun D δ cs => ∃ (k : Nat) (a : Addr) (o : OC), δ[i]? = some (some (.d (.adr a))) ∧ cs[k]? = some (a, o) ∧
  t { nx := fun δ' => ∃ o', δ'[i]? = some (some (.own o')) ∧ D.nx (δ'.set i (some (.d (.adr a)))) (cs.set k (a, o')), rt := fun _ _ => False, ex := fun _ _ => False } (δ.set i (some (.own o)))
theorem psc_with {i : Nat} {st : Stmt} {t : TDS} (h : ∀ a, PS X st (LS X.K (focF c i a) W t)) (ni : i ∉ c.sl) : PS X st (LSc X.K c W (withC i t)) := by
  refine ⟨fun pins s σ H D I ⟨δ, cs, pre, tmp, Dd, ⟨F, ow, S⟩, ⟨k, a, o, ei, ek, q⟩, kn, _⟩ => (h a).run pins s σ H D I ?_⟩
  obtain ⟨l, r, e1, e2⟩ := cells_at ek
  have es : pre ++ (stk cs ++ tmp) = (pre ++ stk l) ++ (.ref a, .own o) :: (stk r ++ tmp) := by
    rw [e1]; simp [stk]
  rw [es] at S
  obtain ⟨h0, ow', S'⟩ := S.focus ei ni
  refine ⟨_, _, _, ⟨F, ow', S'⟩, q, fun δ' σ' H' ⟨o', ei', q'⟩ ⟨F2, ow2, S2⟩ => ?_, fun _ _ _ _ _ z => z.elim, fun _ _ _ z => z.elim, fun _ _ _ z => z.elim, fun _ _ _ _ _ _ _ _ z => z.elim⟩
  obtain ⟨ow3, S3⟩ := S2.unfocus ei' ni h0
  refine kn _ _ _ _ q' ⟨F2, ow3, ?_⟩
  rw [e2]
  have es' : pre ++ (stk (l ++ (a, o') :: r) ++ tmp) = (pre ++ stk l) ++ (.ref a, .own o') :: (stk r ++ tmp) := by
    simp [stk]
  rw [es']
  exact S3
end
end DL

set_option Elab.async false
set_option linter.all false
set_option maxRecDepth 100000
set_option maxHeartbeats 2000000
/-! DL74: with cells: [f(x) for x in xs], [e, list(..)], e[k] of an alias, a call that looks through the cells, the end of a def -/
namespace DL
open PySem PySem.Spec PyProof.Rows L2
section
variable {X : Cx} {c : Fc} {W : WX}
/-! ### comprehensions -/
theorem RepTmp.own {K : PySem.W.Frag} {c : Fc} {F H : Hp} {ow : Addr → Option Hold} : ∀ {l : List (V × DV)} {v : V} {x : DV}, RepTmp K c F H ow l → (v, x) ∈ l → ∃ k, k < l.length ∧ RepV K c F H ow (.t k) v x
  | (_, _) :: _, _, _, q, h => (List.mem_cons.mp h).elim (fun e => by cases e; exact ⟨_, Nat.lt_succ_self _, q.1⟩) fun h => let ⟨k, a, b⟩ := RepTmp.own q.2 h; ⟨k, Nat.lt_succ_of_lt a, b⟩
/-! ### [x, an own list that becomes a cell] -/
/-! ### a row of values, the first with cells -/
/-! ### an item of an alias -/
/-! ### looking through the cells -/
/-- x is y when one looks through the cells -/
def Fill (K : PySem.W.Frag) (cs : Cells) (x y : D) : Prop := ∀ (F : Hp) (v : V), (∀ a o, (a, o) ∈ cs → Rep K F (.ref a) o.toD) → Rep K F v x → Rep K F v y
theorem OwnRep.rep {K : PySem.W.Frag} {F F1 H : Hp} {p : Addr} {o : OC} (r : OwnRep K F H p o) (e : F1 p = H p) (s : Same F F1) : Rep K F1 (.ref p) o.toD := by
  cases o with
  | lst ds => obtain ⟨vs, z, r⟩ := r; exact .lst (e.trans z) (r.mono s)
  | ins C fs => obtain ⟨dx, vs, z, r⟩ := r; exact .obj (e.trans z) (r.mono s)
  | dT kvs => obtain ⟨vs, z, r⟩ := r; exact .dT (.inl (e.trans z)) (r.mono s)
  | dK kvs => obtain ⟨vs, z, r⟩ := r; exact .dK (.inl (e.trans z)) (r.mono s)
  | tab P q => obtain ⟨a, _⟩ := r; subst a; exact .adr _
/-! ### the end of a def: cells are looked through -/
def exitC (K : PySem.W.Frag) (t : TDSc) : TDS := fun D δ => t { nx := fun _ _ => False, rt := fun x δ' cs => ∃ z y, x = .d z ∧ Fill K cs z y ∧ D.rt (.d y) δ', ex := D.ex } δ []
theorem frz_all {K : PySem.W.Frag} {H : Hp} {ow : Addr → Option Hold} {δ : DSt} {σ : L2.St} {tmp : List (V × DV)} : ∀ {cs : Cells} {F : Hp}, SttF K c F ow δ (stk cs ++ tmp) σ H → ∃ F', SttF K c F' ow δ tmp σ H ∧ Same F F' ∧ ∀ a o, (a, o) ∈ cs → Rep K F' (.ref a) o.toD
  | [], F, S => ⟨F, S, Same.refl F, fun a o h => nomatch h⟩
  | (a, o) :: cs, F, S => by
    obtain ⟨F1, S1, s1⟩ := S.top_frz
    obtain ⟨F2, S2, s2, h⟩ := frz_all (cs := cs) S1.pop
    refine ⟨F2, S2, s1.trans s2, fun b o' hm => ?_⟩
    rcases List.mem_cons.mp hm with e | hm
    · cases e; exact Rep.mono s2 S1.top
    · exact h b o' hm
theorem pss_exit {K : PySem.W.Frag} {body : List Stmt} {t : TDSc} (h : PSs X body (LSc X.K c W t)) (hK : X.K = K := by rfl) : PSs X body (LS X.K c W (exitC K t)) := by
  subst hK
  exact PSs_imp h fun D σ H ⟨δ, tmp, Dd, S, q, k, kr, kb, kc, w⟩ => ⟨δ, [], [], tmp, _, S, q, fun _ _ _ _ z _ => z.elim, fun v x δ' cs' σ' H' ⟨z, y, e, hf, q'⟩ ⟨F, ow, S'⟩ => by
    subst e
    obtain ⟨F', S2, s, hc⟩ := frz_all (cs := cs') S'.pop
    exact kr v (.d y) δ' σ' H' q' ⟨F', ow, S2.push (hf F' v hc (Rep.mono s S'.top))⟩, fun _ _ _ _ z _ => z.elim, fun _ _ _ _ z _ => z.elim, w⟩
end
end DL
/-! ### readings -/
namespace DR
open PySem PySem.Spec PyProof.Rows L2 DL
theorem exitC {K : PySem.W.Frag} {t : TDSc} {D : EndsD} {δ : DSt} (h : t { nx := fun _ _ => False, rt := fun x δ' cs => ∃ z y, x = .d z ∧ Fill K cs z y ∧ D.rt (.d y) δ', ex := D.ex } δ []) : DL.exitC K t D δ := h
theorem cutC {t u : TDSc} {D : EndsC} {δ : DSt} {cs : Cells} (I : DSt → Cells → Prop) (h1 : ∀ N : DSt → Cells → Prop, (∀ δ cs, I δ cs → N δ cs) → t { D with nx := N } δ cs) (h2 : ∀ δ cs, I δ cs → u D δ cs) : seqC t u D δ cs := h1 _ h2
theorem upC {t : TDS} {D : EndsC} {δ : DSt} {cs : Cells} (h : t { nx := fun δ' => D.nx δ' cs, rt := fun x δ' => D.rt x δ' cs, ex := D.ex, bk := fun δ' => D.bk δ' cs, ct := fun δ' => D.ct δ' cs } δ) : upS t D δ cs := h
end DR
namespace DL
open PySem PySem.Spec PyProof.Rows L2
section
variable {K : PySem.W.Frag} {cs : Cells} {x y : D} {xs ys : List D}
def FillL (K : PySem.W.Frag) (cs : Cells) (xs ys : List D) : Prop := ∀ (F : Hp) (vs : List V), (∀ a o, (a, o) ∈ cs → Rep K F (.ref a) o.toD) → RepL K F vs xs → RepL K F vs ys
theorem Fill.refl : Fill K cs x x := fun _ _ _ r => r
theorem Fill.adr {a : Addr} {o : OC} (h : (a, o) ∈ cs) : Fill K cs (.adr a) o.toD := fun F v hc r => by
  cases r
  exact hc a o h
theorem FillL.nil : FillL K cs [] [] := fun _ _ _ r => r
theorem FillL.cons (h : Fill K cs x y) (t : FillL K cs xs ys) : FillL K cs (x :: xs) (y :: ys) := fun F vs hc r => by
  cases r with
  | cons r rs => exact .cons (h F _ hc r) (t F _ hc rs)
theorem Fill.lst (h : FillL K cs xs ys) : Fill K cs (.lst xs) (.lst ys) := fun F v hc r => by
  cases r with
  | lst s r => exact .lst s (h F _ hc r)
end
end DL
namespace DR
open PySem PySem.Spec PyProof.Rows L2 DL
section
variable {δ : DSt} {cs : Cells} {Q : DV → DSt → Cells → Prop} {E : XD} {D : EndsC}
theorem setC {i : Nat} {o : Bool} {t : TDc} (h : t δ cs (fun x δ1 cs1 => D.nx (δ1.set i (some (asD o x))) cs1) D.ex) : DL.setC i o t D δ cs := h
theorem upT {t : TDT} {Q : Bool → DSt → Cells → Prop} (h : t δ (fun x δ' => Q x δ' cs) E) : DL.upT t δ cs Q E := h
theorem withC {i k : Nat} {t : TDS} {a : Addr} {o : OC} (h1 : δ[i]? = some (some (.d (.adr a)))) (h2 : cs[k]? = some (a, o))
    (h : t { nx := fun δ' => ∃ o', δ'[i]? = some (some (.own o')) ∧ D.nx (δ'.set i (some (.d (.adr a)))) (cs.set k (a, o')), rt := fun _ _ => False, ex := fun _ _ => False } (δ.set i (some (.own o)))) : DL.withC i t D δ cs := ⟨k, a, o, h1, h2, h⟩
end
end DR

set_option Elab.async false
set_option linter.all false
set_option maxRecDepth 100000
set_option maxHeartbeats 2000000
/-! LamK: a lambda with one parameter, made and called -/
namespace LamY
open PySem PySem.Spec PyProof.Rows L2 LamX
section
variable {X : Cx} {pins : List (Addr × Obj)} {σ : L2.St} {H : Hp} {s : Shared}
end
/-! ### its names: one parameter, captured names and globals -/
section
variable {X : Cx} {pins : List (Addr × Obj)} {σ : L2.St} {H : Hp} {s : Shared}
end
end LamY

set_option Elab.async false
set_option linter.all false
set_option maxRecDepth 100000
set_option maxHeartbeats 2000000
/-! DL75: sorted(xs, key=lambda x: ..): the table of code objects is a cell -/
namespace DL
open PySem PySem.Spec PyProof.Rows L2
section
variable {K : PySem.W.Frag} {c c' : Fc} {F F' H H' H1 : Hp} {ow ow' : Addr → Option Hold} {δ : DSt} {σ : L2.St} {v : V} {x : DV}
theorem RepTmp.change {v : V} {x y : DV} {B : List (V × DV)} (n : ∀ k v x, k ≠ B.length → RepV K c F H ow (.t k) v x → RepV K c' F' H' ow' (.t k) v x) (r : RepV K c' F' H' ow' (.t B.length) v y) : ∀ {A : List (V × DV)}, RepTmp K c F H ow (A ++ (v, x) :: B) → RepTmp K c' F' H' ow' (A ++ (v, y) :: B)
  | [], q => ⟨r, by
      have go : ∀ {l : List (V × DV)}, l.length ≤ B.length → RepTmp K c F H ow l → RepTmp K c' F' H' ow' l := fun {l} => by
        induction l with
        | nil => exact fun _ _ => True.intro
        | cons e l ih =>
          obtain ⟨u, z⟩ := e
          exact fun hl q => ⟨n _ _ _ (by have : l.length + 1 ≤ B.length := hl; omega) q.1, ih (Nat.le_of_succ_le hl) q.2⟩
      exact go (Nat.le_refl _) q.2⟩
  | (u, z) :: A, q => ⟨by
      have hl : (A ++ (v, x) :: B).length = (A ++ (v, y) :: B).length := by rw [List.length_append, List.length_append]; rfl
      have hn : (A ++ (v, x) :: B).length ≠ B.length := by rw [List.length_append, List.length_cons]; omega
      have h1 : RepV K c' F' H' ow' (.t (A ++ (v, x) :: B).length) u z := n _ _ _ hn q.1
      rw [hl] at h1
      exact h1, RepTmp.change n r q.2⟩
end
/-! ### the lambda as a value; sorted by it -/
section
variable {X : Cx} {c : Fc} {W : WX}
end
/-! ### over data -/
section
variable {X : Cx} {c : Fc} {W : WX}
end
end DL
namespace DR
open PySem PySem.Spec PyProof.Rows L2 DL
end DR

set_option Elab.async false
set_option linter.all false
set_option maxRecDepth 100000
set_option maxHeartbeats 2000000
/-! DL76: defs that make lambdas, or call such: the table goes with the call -/
namespace DL
open PySem PySem.Spec PyProof.Rows L2
section
variable {K : PySem.W.Frag} {c : Fc} {F F' H H' : Hp} {ow : Addr → Option Hold} {δ : DSt} {σ : L2.St} {v : V} {x : DV} {P : Addr} {q : Str}
end
/-! ### the call -/
section
variable {X : Cx} {c : Fc} {W : WX}
/-! ### statements -/
def ifC (c : TDTc) (t u : TDSc) : TDSc := fun D δ cs => c δ cs (fun b δ1 cs1 => if b = true then t D δ1 cs1 else u D δ1 cs1) D.ex
theorem psc_if {e : Expr} {a b : List Stmt} {tc : TDTc} {t u : TDSc} {pos : Pos} (hc : PT X e (LTc X.K c W tc)) (ha : PSs X a (LSc X.K c W t)) (hb : PSs X b (LSc X.K c W u)) : PS X (.If e a b pos) (LSc X.K c W (ifC tc t u)) :=
  PS_imp (ps_if hc ha hb) fun D σ H ⟨δ, cs, pre, tmp, Dd, S, q, k, kr, kb, kc, w⟩ => ⟨δ, cs, pre, tmp, _, _, S, q, fun b δ' cs' H' q' S' => by
    cases b
    · exact ⟨δ', cs', pre, tmp, Dd, S', q', k, kr, kb, kc, w⟩
    · exact ⟨δ', cs', pre, tmp, Dd, S', q', k, kr, kb, kc, w⟩, w⟩
/-- a loop that may answer, with data -/
def forDR (g : TDG) (tb : TDSc) (D : EndsC) : List DL.D → DSt → Cells → Prop
  | [], δ, cs => D.nx δ cs
  | x :: xs, δ, cs => g x δ fun δ1 => tb { nx := forDR g tb D xs, ct := forDR g tb D xs, bk := D.nx, ex := D.ex, rt := fun x δ cs => ∃ y, x = .d y ∧ D.rt (.d y) δ cs } δ1 cs
def forCR (ti : TDI) (g : TDG) (tb : TDSc) : TDSc := fun D δ cs => ti δ (fun xs δ1 => forDR g tb D xs δ1 cs) D.ex
theorem psc_forR {tg iter : Expr} {body : List Stmt} {ti : TDI} {g : TDG} {tb : TDSc} {pos : Pos} (hp : PassesOwn (model X.prog X.w) X.A X.env X.xe) (hc : X.calm = true) (hi : PI X tg iter (LI X.K c W ti)) {vs : List Nat} (hg : PG X tg (LG X.K c vs g)) (hb : PSs X body (LSc X.K c W tb))
    (hs : ∀ x, foldedSetIterable iter X.env x = pure x := by intro _; rfl) : PS X (.For tg iter body [] pos) (LSc X.K c W (forCR ti g tb)) :=
  PS_imp (ps_for hp hc hi hg hb hs) fun D σ H ⟨δ, cs, pre, tmp, Dd, S, q, k, kr, kb, kc, w⟩ => by
    refine ⟨δ, _, _, _, S, q, fun J v src items δ1 H1 q1 sv S1 => ?_, (w.app _).app _⟩
    refine ⟨fun i m σ H => m = items.length - i ∧ i ≤ items.length ∧ ∃ δ cs, Stt X.K c δ ((v, .d src) :: (pre ++ (stk cs ++ tmp))) σ H ∧ forDR g tb Dd (items.drop i) δ cs, ⟨items.length, by simp, Nat.zero_le _, δ1, cs, S1, q1⟩, ?_⟩
    rintro i m σ2 H2 ⟨rfl, hi, δ2, cs2, ⟨F2, ow2, S2⟩, q2⟩
    by_cases hlt : i < items.length
    · refine .inr ⟨sv.go i F2 H2 S2.fh S2.top hlt, fun σ H => i + 1 ≤ items.length ∧ ∃ δ cs, Stt X.K c δ ((v, .d src) :: (pre ++ (stk cs ++ tmp))) σ H ∧ forDR g tb Dd (items.drop (i + 1)) δ cs, fun σ' H' h => ⟨items.length - (i + 1), by omega, rfl, h⟩, fun x H' y => ?_⟩
      obtain ⟨F3, e3, r3⟩ := sv.yld i F2 H2 x H' S2.fh S2.top y _ (List.getElem?_eq_getElem hlt)
      rw [List.drop_eq_getElem_cons hlt] at q2
      exact ⟨δ2, (v, .d src) :: (pre ++ (stk cs2 ++ tmp)), _, _, ⟨F3, ow2, (S2.ext e3).push r3⟩, q2, fun δ4 σ4 H4 q4 S4 _ => ⟨δ4, cs2, (v, .d src) :: pre, tmp, _, S4, q4, fun δ5 cs5 σ5 H5 q5 S5 => ⟨hlt, δ5, cs5, S5, q5⟩, fun u z δ5 cs5 σ5 H5 ⟨y, ez, q5⟩ ⟨F5, ow5, S5⟩ => by
        subst ez
        have ry : Rep X.K F5 u y := S5.tm.1
        exact kr u (.d y) δ5 cs5 σ5 H5 q5 ⟨F5, ow5, S5.pop.pop.push ry⟩, fun δ5 cs5 σ5 H5 q5 ⟨F5, ow5, S5⟩ => k δ5 cs5 σ5 H5 q5 ⟨F5, ow5, S5.pop⟩, fun δ5 cs5 σ5 H5 q5 S5 => ⟨hlt, δ5, cs5, S5, q5⟩, w⟩⟩
    · have e : i = items.length := by omega
      subst e
      rw [List.drop_length] at q2
      exact .inl ⟨sv.stop _ F2 H2 S2.fh S2.top (Nat.le_refl _), k _ _ _ _ q2 ⟨F2, ow2, S2.pop⟩⟩
end
/-! ### the def -/
section
variable {P : Program} {w : World} {K : PySem.W.Frag} {mg : Str → Option Value} {base : Heap}
end
end DL
namespace DR
open PySem PySem.Spec PyProof.Rows L2 DL
section
variable {δ : DSt} {cs : Cells} {Q : DV → DSt → Cells → Prop} {E : XD} {D : EndsC}
theorem forCR {ti : TDI} {g : TDG} {tb : TDSc} (h : ti δ (fun xs δ1 => forDR g tb D xs δ1 cs) D.ex) : DL.forCR ti g tb D δ cs := h
end
theorem forR_inv {g : TDG} {tb : TDSc} {D : EndsC} {xs : List DL.D} {δ : DSt} {cs : Cells} (I : Nat → DSt → Cells → Prop) (h0 : I 0 δ cs)
    (hs : ∀ i x δ cs (N : DSt → Cells → Prop), xs[i]? = some x → I i δ cs → (∀ δ' cs', I (i + 1) δ' cs' → N δ' cs') → g x δ (fun δ1 => tb { nx := N, ct := N, bk := D.nx, ex := D.ex, rt := fun x δ cs => ∃ y, x = .d y ∧ D.rt (.d y) δ cs } δ1 cs))
    (hn : ∀ δ cs, I xs.length δ cs → D.nx δ cs) : forDR g tb D xs δ cs := by
  have go : ∀ (m i : Nat) δ cs, i + m = xs.length → I i δ cs → forDR g tb D (xs.drop i) δ cs := fun m => by
    induction m with
    | zero =>
      intro i δ cs e h
      have e : i = xs.length := e
      subst e
      rw [List.drop_length]
      exact hn δ cs h
    | succ m ih =>
      intro i δ cs e h
      have hl : i < xs.length := by omega
      rw [List.drop_eq_getElem_cons hl]
      exact hs i _ δ cs _ (List.getElem?_eq_getElem hl) h fun δ' cs' h' => ih (i + 1) δ' cs' (by omega) h'
  have := go xs.length 0 δ cs (Nat.zero_add _) h0
  rwa [List.drop_zero] at this
end DR
namespace DL
open PySem PySem.Spec PyProof.Rows L2
end DL

set_option Elab.async false
set_option linter.all false
set_option maxRecDepth 100000
set_option maxHeartbeats 2000000
/-! DL77: a dict of one's own in a field of one's own object (within a def): self.f = {..}; self.f[k] = e; g(self.f, x) -/
namespace DL
open PySem PySem.Spec PyProof.Rows L2
mutual
/-- no dict within -/
def D.noK : D → Bool
  | .lst xs => noKL xs
  | .ro xs => noKL xs
  | .tup xs => noKL xs
  | .rot xs => noKL xs
  | .ktp xs => noKL xs
  | .obj _ fs => noKF fs
  | .dT _ => false
  | .dK _ => false
  | .exc _ _ _ _ _ => false
  | .gho _ _ => false
  | .lkd _ _ _ _ => false
  | .lkt _ _ _ _ => false
  | _ => true
def noKL : List D → Bool
  | [] => true
  | d :: ds => d.noK && noKL ds
def noKF : List (Str × D) → Bool
  | [] => true
  | (_, d) :: ds => d.noK && noKF ds
end
section
variable {K : PySem.W.Frag} {F F' : Hp}
theorem rd_less {a : Addr} {u : HO} {ks : List (Key × V)} (hd : F a = some (.dK ks)) (hF : ∀ b, b ≠ a → F' b = F b) {p : Addr} (n1 : u ≠ .dK ks) (n2 : ∀ o, HO.frz o u ≠ .dK ks) (h : Rd F p u) : Rd F' p u := by
  have np : p ≠ a := fun z => by
    rw [z] at h
    rcases h with h | ⟨o, h⟩
    · rw [hd] at h; exact n1 (Option.some.inj h).symm
    · rw [hd] at h; exact n2 o (Option.some.inj h).symm
  rcases h with h | ⟨o, h⟩
  · exact .inl ((hF p np).trans h)
  · exact .inr ⟨o, (hF p np).trans h⟩
theorem at_less {a : Addr} {u : HO} {ks : List (Key × V)} (hd : F a = some (.dK ks)) (hF : ∀ b, b ≠ a → F' b = F b) {p : Addr} (n1 : u ≠ .dK ks) (h : F p = some u) : F' p = some u := by
  have np : p ≠ a := fun z => by rw [z, hd] at h; exact n1 (Option.some.inj h).symm
  exact (hF p np).trans h
theorem ne_l {vs : List V} {ks : List (Key × V)} : HO.lst vs ≠ .dK ks := fun z => nomatch z
theorem ne_f {o : Obj} {u : HO} {ks : List (Key × V)} : HO.frz o u ≠ .dK ks := fun z => nomatch z
theorem ne_t {vs : List V} {ks : List (Key × V)} : HO.tup vs ≠ .dK ks := fun z => nomatch z
theorem ne_i {C d : Addr} {vs : List (Str × V)} {ks : List (Key × V)} : HO.ins C d vs ≠ .dK ks := fun z => nomatch z
mutual
/-- what has no dict within stands without one dict -/
theorem Rep.less {a : Addr} {ks : List (Key × V)} (hd : F a = some (.dK ks)) (hF : ∀ b, b ≠ a → F' b = F b) : ∀ {v : V} {d : D}, Rep K F v d → d.noK = true → Rep K F' v d
  | _, _, .non, _ => .non
  | _, _, .bl b, _ => .bl b
  | _, _, .int i, _ => .int i
  | _, _, .str k, _ => .str k
  | _, _, .ty n, _ => .ty n
  | _, _, .adr a, _ => .adr a
  | _, _, .lst s h, n => .lst (at_less hd hF ne_l s) (h.less hd hF n)
  | _, _, .ro s h, n => .ro (s.imp (rd_less hd hF ne_l fun _ => ne_f) id) (h.less hd hF n)
  | _, _, .tup s h, n => .tup (at_less hd hF ne_t s) (h.less hd hF n)
  | _, _, .rot s hc hd' h, n => .rot (at_less hd hF ne_f s) hc hd' (h.less hd hF n)
  | _, _, .ktp s h, n => .ktp (s.imp (rd_less hd hF ne_t fun _ => ne_f) id) (h.less hd hF n)
  | _, _, .obj s h, n => .obj (at_less hd hF ne_i s) (h.less hd hF n)
  | _, _, .dT _ _, h => nomatch h
  | _, _, .dK _ _, h => nomatch h
  | _, _, .exc0, h => nomatch h
  | _, _, .exc _ _, h => nomatch h
  | _, _, .gho _, h => nomatch h
  | _, _, .lkd _ _, h => nomatch h
  | _, _, .lkt _ _ _, h => nomatch h
theorem RepL.less {a : Addr} {ks : List (Key × V)} (hd : F a = some (.dK ks)) (hF : ∀ b, b ≠ a → F' b = F b) : ∀ {vs : List V} {ds : List D}, RepL K F vs ds → noKL ds = true → RepL K F' vs ds
  | _, _, .nil, _ => .nil
  | _, _, .cons h t, n => .cons (h.less hd hF (Bool.and_eq_true _ _ ▸ n).1) (t.less hd hF (Bool.and_eq_true _ _ ▸ n).2)
theorem RepF.less {a : Addr} {ks : List (Key × V)} (hd : F a = some (.dK ks)) (hF : ∀ b, b ≠ a → F' b = F b) : ∀ {vs : List (Str × V)} {ds : List (Str × D)}, RepF K F vs ds → noKF ds = true → RepF K F' vs ds
  | _, _, .nil, _ => .nil
  | _, _, .cons h t, n => .cons (h.less hd hF (Bool.and_eq_true _ _ ▸ n).1) (t.less hd hF (Bool.and_eq_true _ _ ▸ n).2)
end
end
section
variable {K : PySem.W.Frag} {c : Fc} {F H : Hp} {ow : Addr → Option Hold} {δ : DSt} {σ : L2.St}
/-- a cell's content is written -/
theorem SttF.writeC {A B : List (V × DV)} {a : Addr} {o o' : OC} {ob : HO} (S : SttF K c F ow δ (A ++ (.ref a, .own o) :: B) σ H) (r' : OwnRep K F (upd H a ob) a o') : SttF K c F ow δ (A ++ (.ref a, .own o') :: B) σ (upd H a ob) := by
  obtain ⟨p, e0, ea, b, w, r⟩ := S.tm.mid
  cases e0
  have keep : ∀ {h : Hold} {v : V} {x : DV}, RepV K c F H ow h v x → h ≠ .t B.length → RepV K c F (upd H a ob) ow h v x := fun {h v x} y ne => by
    cases x with
    | d z => exact y
    | own z =>
      obtain ⟨p, rfl, ep, bp, wp, rp⟩ := y
      exact ⟨p, rfl, ep, bp, wp, rp.mono (Same.refl F) (upd_ne fun t => by subst t; rw [ea] at ep; cases ep; exact ne rfl)⟩
  refine ⟨fun p u z => ?_, S.f0, S.fn, fun p u z n => ?_, fun p z => ?_, S.len, fun j z qz => let ⟨v, e1, e2⟩ := S.sl j z qz; ⟨v, e1, keep e2 fun z => nomatch z⟩, ?_, S.ps⟩
  · rw [upd_ne (ne_of_none z b)]
    exact S.fh _ _ z
  · rw [upd_ne (fun t => by subst t; rw [w.t] at z; cases z)]
    exact S.fr p u z n
  · by_cases t : p = a
    · subst t; rw [upd_same] at z; cases z
    · rw [upd_ne t] at z; exact S.up p z
  · exact RepTmp.change (x := .own o) (y := .own o') (fun k v x hk q => keep q fun z => hk (by cases z; rfl)) ⟨a, rfl, ea, b, w, r'⟩ S.tm
end
section
variable {X : Cx} {c : Fc} {W : WX}
/-! ### the end of an __init__ -/
end
end DL

set_option Elab.async false
set_option linter.all false
set_option maxRecDepth 100000
set_option maxHeartbeats 2000000
/-! DL78: a dict by plain keys walked (locked while a statement runs); list(d) -/
namespace DL
open PySem PySem.Spec PyProof.Rows L2
section
variable {K : PySem.W.Frag} {F F2 H : Hp} {a : Addr} {od : Obj} {ks : List (Key × V)}
abbrev zO (od : Obj) (ks : List (Key × V)) : HO := .frz od (.dK ks)
theorem ne_x {vs : List (Str × V)} : HO.xd vs ≠ .dK ks := fun z => nomatch z
theorem nf_l {vs : List V} : ∀ o x, HO.lst vs ≠ .frz o x := fun _ _ z => nomatch z
theorem nf_p {vs : List V} : ∀ o x, HO.tup vs ≠ .frz o x := fun _ _ z => nomatch z
theorem nf_t {vs : List (List Key × V)} : ∀ o x, HO.dT vs ≠ .frz o x := fun _ _ z => nomatch z
theorem nf_k {vs : List (Key × V)} : ∀ o x, HO.dK vs ≠ .frz o x := fun _ _ z => nomatch z
theorem rd_lock (hd : F a = some (.dK ks)) {p : Addr} {u : HO} (h : Rd F p u) : Rd (upd F a (zO od ks)) p u := by
  by_cases e : p = a
  · subst e
    rcases h with h | ⟨o, h⟩
    · rw [hd] at h; cases h; exact .inr ⟨od, upd_same⟩
    · rw [hd] at h; cases h
  · rcases h with h | ⟨o, h⟩
    · exact .inl (by rw [upd_ne e]; exact h)
    · exact .inr ⟨o, by rw [upd_ne e]; exact h⟩
theorem at_lock (hd : F a = some (.dK ks)) {p : Addr} {u : HO} (n : u ≠ .dK ks) (h : F p = some u) : upd F a (zO od ks) p = some u := by
  rw [upd_ne (fun e => by rw [e, hd] at h; exact n (Option.some.inj h).symm)]; exact h
mutual
theorem Rep.lockT (hd : F a = some (.dK ks)) : ∀ {v : V} {d : D}, Rep K F v d → Rep K (upd F a (zO od ks)) v d
  | _, _, .non => .non
  | _, _, .bl b => .bl b
  | _, _, .int i => .int i
  | _, _, .str k => .str k
  | _, _, .ty n => .ty n
  | _, _, .adr a => .adr a
  | _, _, .lst s h => .lst (at_lock hd ne_l s) (h.lockT hd)
  | _, _, .ro s h => .ro (s.imp (rd_lock hd) id) (h.lockT hd)
  | _, _, .tup s h => .tup (at_lock hd ne_t s) (h.lockT hd)
  | _, _, .rot s hc hd' h => .rot (at_lock hd ne_f s) hc hd' (h.lockT hd)
  | _, _, .ktp s h => .ktp (s.imp (rd_lock hd) id) (h.lockT hd)
  | _, _, .obj s h => .obj (at_lock hd ne_i s) (h.lockT hd)
  | _, _, .dT s h => .dT (rd_lock hd s) (h.lockT hd)
  | _, _, .dK s h => .dK (rd_lock hd s) (h.lockT hd)
  | _, _, .exc0 => .exc0
  | _, _, .exc s h => .exc (at_lock hd ne_x s) (h.lockT hd)
  | _, _, .gho h => .gho (h.lockT hd)
  | _, _, .lkd s h => .lkd (at_lock hd ne_f s) (h.lockT hd)
  | _, _, .lkt s h hk => .lkt (at_lock hd ne_f s) (h.lockT hd) (hk.mono fun q xs z => at_lock hd ne_t z)
theorem RepL.lockT (hd : F a = some (.dK ks)) : ∀ {vs : List V} {ds : List D}, RepL K F vs ds → RepL K (upd F a (zO od ks)) vs ds
  | _, _, .nil => .nil
  | _, _, .cons h t => .cons (h.lockT hd) (t.lockT hd)
theorem RepF.lockT (hd : F a = some (.dK ks)) : ∀ {vs : List (Str × V)} {ds : List (Str × D)}, RepF K F vs ds → RepF K (upd F a (zO od ks)) vs ds
  | _, _, .nil => .nil
  | _, _, .cons h t => .cons (h.lockT hd) (t.lockT hd)
theorem RepT.lockT (hd : F a = some (.dK ks)) : ∀ {vs : List (List Key × V)} {ds : List (List Key × D)}, RepT K F vs ds → RepT K (upd F a (zO od ks)) vs ds
  | _, _, .nil => .nil
  | _, _, .cons h t => .cons (h.lockT hd) (t.lockT hd)
theorem RepK.lockT (hd : F a = some (.dK ks)) : ∀ {vs : List (Key × V)} {ds : List (Key × D)}, RepK K F vs ds → RepK K (upd F a (zO od ks)) vs ds
  | _, _, .nil => .nil
  | _, _, .cons h t => .cons (h.lockT hd) (t.lockT hd)
end
/-! back -/
theorem rd_back (hd : F2 a = some (zO od ks)) {p : Addr} {u : HO} (n : ∀ o x, u ≠ .frz o x) (h : Rd F2 p u) : Rd (upd F2 a (.dK ks)) p u := by
  by_cases e : p = a
  · subst e
    rcases h with h | ⟨o, h⟩
    · rw [hd] at h; exact absurd (Option.some.inj h).symm (n _ _)
    · rw [hd] at h; cases h; exact .inl upd_same
  · rcases h with h | ⟨o, h⟩
    · exact .inl (by rw [upd_ne e]; exact h)
    · exact .inr ⟨o, by rw [upd_ne e]; exact h⟩
theorem at_back (hd : F2 a = some (zO od ks)) {p : Addr} {u : HO} {y : HO} (n : u ≠ zO od ks) (h : F2 p = some u) : upd F2 a y p = some u := by
  rw [upd_ne (fun e => by rw [e, hd] at h; exact n (Option.some.inj h).symm)]; exact h
theorem ne_l2 {vs : List V} : HO.lst vs ≠ zO od ks := fun z => nomatch z
theorem ne_t2 {vs : List V} : HO.tup vs ≠ zO od ks := fun z => nomatch z
theorem ne_i2 {C d : Addr} {vs : List (Str × V)} : HO.ins C d vs ≠ zO od ks := fun z => nomatch z
theorem ne_x2 {vs : List (Str × V)} : HO.xd vs ≠ zO od ks := fun z => nomatch z
theorem ne_r2 {ob : Obj} {vs : List V} : HO.frz ob (.tup vs) ≠ zO od ks := fun z => nomatch z
theorem lkd_ne (hd : F a = some (.dK ks)) {p : Addr} {o : Obj} {x : HO} (h : F p = some (.frz o x)) : p ≠ a := fun z => by rw [z, hd] at h; cases h
theorem at_back2 {p : Addr} {y : HO} (n : p ≠ a) {u : HO} (h : F2 p = some u) : upd F2 a y p = some u := by rw [upd_ne n]; exact h
mutual
/-- what stood ahead of the lock stands behind it -/
theorem Rep.back (h0 : F a = some (.dK ks)) (hd : F2 a = some (zO od ks)) : ∀ {v v' : V} {d : D}, Rep K F2 v d → Rep K F v' d → Rep K (upd F2 a (.dK ks)) v d
  | _, _, _, .non, _ => .non
  | _, _, _, .bl b, _ => .bl b
  | _, _, _, .int i, _ => .int i
  | _, _, _, .str k, _ => .str k
  | _, _, _, .ty n, _ => .ty n
  | _, _, _, .adr a, _ => .adr a
  | _, _, _, .lst s h, .lst _ g => .lst (at_back hd ne_l2 s) (h.back h0 hd g)
  | _, _, _, .ro s h, .ro _ g => .ro (s.imp (rd_back hd nf_l) id) (h.back h0 hd g)
  | _, _, _, .tup s h, .tup _ g => .tup (at_back hd ne_t2 s) (h.back h0 hd g)
  | _, _, _, .rot s hc hd' h, .rot _ _ _ g => .rot (at_back hd ne_r2 s) hc hd' (h.back h0 hd g)
  | _, _, _, .obj s h, .obj _ g => .obj (at_back hd ne_i2 s) (h.back h0 hd g)
  | _, _, _, .dT s h, .dT _ g => .dT (rd_back hd nf_t s) (h.back h0 hd g)
  | _, _, _, .dK s h, .dK _ g => .dK (rd_back hd nf_k s) (h.back h0 hd g)
  | _, _, _, .exc0, _ => .exc0
  | _, _, _, .exc s h, .exc _ g => .exc (at_back hd ne_x2 s) (h.back h0 hd g)
  | _, _, _, .gho h, .gho g => .gho (h.back h0 hd g)
  | _, _, _, .ktp s h, .ktp _ g => .ktp (s.imp (rd_back hd nf_p) id) (h.back h0 hd g)
  | _, _, _, .lkd s h, .lkd t g => .lkd (at_back2 (lkd_ne h0 t) s) (h.back h0 hd g)
  | _, _, _, .lkt s h hk, .lkt t g _ => .lkt (at_back2 (lkd_ne h0 t) s) (h.back h0 hd g) (hk.mono fun q xs z => at_back hd ne_t2 z)
theorem RepL.back (h0 : F a = some (.dK ks)) (hd : F2 a = some (zO od ks)) : ∀ {vs vs' : List V} {ds : List D}, RepL K F2 vs ds → RepL K F vs' ds → RepL K (upd F2 a (.dK ks)) vs ds
  | _, _, _, .nil, _ => .nil
  | _, _, _, .cons h t, .cons g u => .cons (h.back h0 hd g) (t.back h0 hd u)
theorem RepF.back (h0 : F a = some (.dK ks)) (hd : F2 a = some (zO od ks)) : ∀ {vs vs' : List (Str × V)} {ds : List (Str × D)}, RepF K F2 vs ds → RepF K F vs' ds → RepF K (upd F2 a (.dK ks)) vs ds
  | _, _, _, .nil, _ => .nil
  | _, _, _, .cons h t, .cons g u => .cons (h.back h0 hd g) (t.back h0 hd u)
theorem RepT.back (h0 : F a = some (.dK ks)) (hd : F2 a = some (zO od ks)) : ∀ {vs vs' : List (List Key × V)} {ds : List (List Key × D)}, RepT K F2 vs ds → RepT K F vs' ds → RepT K (upd F2 a (.dK ks)) vs ds
  | _, _, _, .nil, _ => .nil
  | _, _, _, .cons h t, .cons g u => .cons (h.back h0 hd g) (t.back h0 hd u)
theorem RepK.back (h0 : F a = some (.dK ks)) (hd : F2 a = some (zO od ks)) : ∀ {vs vs' : List (Key × V)} {ds : List (Key × D)}, RepK K F2 vs ds → RepK K F vs' ds → RepK K (upd F2 a (.dK ks)) vs ds
  | _, _, _, .nil, _ => .nil
  | _, _, _, .cons h t, .cons g u => .cons (h.back h0 hd g) (t.back h0 hd u)
end
theorem at_drop {F3 : Hp} (hd : F2 a = some (zO od ks)) (hF : ∀ b, b ≠ a → F3 b = F2 b) {p : Addr} {u : HO} (n : u ≠ zO od ks) (h : F2 p = some u) : F3 p = some u := by
  rw [hF p (fun e => by rw [e, hd] at h; exact n (Option.some.inj h).symm)]; exact h
theorem rd_drop {F3 : Hp} (hd : F2 a = some (zO od ks)) (hF : ∀ b, b ≠ a → F3 b = F2 b) {p : Addr} {vs : List V} (s : Rd F2 p (.lst vs)) : Rd F3 p (.lst vs) := by
  rcases s with s | ⟨o, s⟩
  · exact .inl (at_drop hd hF ne_l2 s)
  · exact .inr ⟨o, at_drop hd hF (fun z => nomatch z) s⟩
theorem rd_dropT {F3 : Hp} (hd : F2 a = some (zO od ks)) (hF : ∀ b, b ≠ a → F3 b = F2 b) {p : Addr} {vs : List V} (s : Rd F2 p (.tup vs)) : Rd F3 p (.tup vs) := by
  rcases s with s | ⟨o, s⟩
  · exact .inl (at_drop hd hF ne_t2 s)
  · exact .inr ⟨o, at_drop hd hF (fun z => nomatch z) s⟩
mutual
/-- what has no dict within stands behind the lock -/
theorem Rep.dropK {F3 : Hp} (hd : F2 a = some (zO od ks)) (hF : ∀ b, b ≠ a → F3 b = F2 b) : ∀ {v : V} {d : D}, Rep K F2 v d → d.noK = true → Rep K F3 v d
  | _, _, .non, _ => .non
  | _, _, .bl b, _ => .bl b
  | _, _, .int i, _ => .int i
  | _, _, .str k, _ => .str k
  | _, _, .ty n, _ => .ty n
  | _, _, .adr a, _ => .adr a
  | _, _, .lst s h, n => .lst (at_drop hd hF ne_l2 s) (h.dropK hd hF n)
  | _, _, .ro s h, n => .ro (s.imp (rd_drop hd hF) id) (h.dropK hd hF n)
  | _, _, .ktp s h, n => .ktp (s.imp (rd_dropT hd hF) id) (h.dropK hd hF n)
  | _, _, .tup s h, n => .tup (at_drop hd hF ne_t2 s) (h.dropK hd hF n)
  | _, _, .rot s hc hd' h, n => .rot (at_drop hd hF ne_r2 s) hc hd' (h.dropK hd hF n)
  | _, _, .obj s h, n => .obj (at_drop hd hF ne_i2 s) (h.dropK hd hF n)
  | _, _, .dT _ _, h => nomatch h
  | _, _, .dK _ _, h => nomatch h
  | _, _, .exc0, h => nomatch h
  | _, _, .exc _ _, h => nomatch h
  | _, _, .gho _, h => nomatch h
  | _, _, .lkd _ _, h => nomatch h
  | _, _, .lkt _ _ _, h => nomatch h
theorem RepL.dropK {F3 : Hp} (hd : F2 a = some (zO od ks)) (hF : ∀ b, b ≠ a → F3 b = F2 b) : ∀ {vs : List V} {ds : List D}, RepL K F2 vs ds → noKL ds = true → RepL K F3 vs ds
  | _, _, .nil, _ => .nil
  | _, _, .cons h t, n => .cons (h.dropK hd hF (Bool.and_eq_true _ _ ▸ n).1) (t.dropK hd hF (Bool.and_eq_true _ _ ▸ n).2)
theorem RepF.dropK {F3 : Hp} (hd : F2 a = some (zO od ks)) (hF : ∀ b, b ≠ a → F3 b = F2 b) : ∀ {vs : List (Str × V)} {ds : List (Str × D)}, RepF K F2 vs ds → noKF ds = true → RepF K F3 vs ds
  | _, _, .nil, _ => .nil
  | _, _, .cons h t, n => .cons (h.dropK hd hF (Bool.and_eq_true _ _ ▸ n).1) (t.dropK hd hF (Bool.and_eq_true _ _ ▸ n).2)
end
end
/-! ### the state -/
section
variable {K : PySem.W.Frag} {c : Fc} {F F2 H H2 : Hp} {ow ow2 : Addr → Option Hold} {δ δ2 : DSt} {tmp tmp2 : List (V × DV)} {σ σ2 : L2.St} {a : Addr} {od : Obj} {ks : List (Key × V)}
end
/-! ### a statement while a dict is locked -/
section
variable {X : Cx} {c : Fc} {W : WX}
/-! ### walked -/
def okK : Key → Prop
  | .inl _ => True
  | .inr x => PyData.strOk x = true
/-! ### an expression while an own dict is locked -/
def hidO (x : Option DV) : Option DV := match x with | some (.own _) => none | y => y
def hid (δ : DSt) : DSt := δ.map hidO
theorem hid_at {δ : DSt} {i : Nat} {x : DV} (h : (hid δ)[i]? = some (some x)) : ∃ d, x = .d d ∧ δ[i]? = some (some (.d d)) := by
  unfold hid at h
  rw [List.getElem?_map] at h
  cases q : δ[i]? with
  | none => rw [q] at h; cases h
  | some y =>
    rw [q] at h
    have h : hidO y = some x := Option.some.inj h
    cases y with
    | none => cases h
    | some y =>
      cases y with
      | d z => cases h; exact ⟨z, rfl, rfl⟩
      | own o => cases h
end
/-! ### list(d) -/
end DL
namespace DR
open PySem PySem.Spec PyProof.Rows L2 DL
variable {δ : DSt} {Q : DK} {E : XD}
end DR

set_option Elab.async false
set_option linter.all false
set_option maxRecDepth 100000
/-! DL79: a loop's target that unpacks tuples or lists -/
namespace DL
open PySem PySem.Spec PyProof.Rows L2
def orG (g h : TDG) : TDG := fun x δ Q => g x δ Q ∨ h x δ Q
theorem PG.or {X : Cx} {c : Fc} {vs : List Nat} {tg : Expr} {g h : TDG} (h1 : PG X tg (LG X.K c vs g)) (h2 : PG X tg (LG X.K c vs h)) : PG X tg (LG X.K c vs (orG g h)) :=
  ⟨fun pins s σ H v u Q I r ⟨δ, tmp, x, Qd, S, q, k⟩ => q.elim (fun q => h1.run pins s σ H v u Q I r ⟨δ, tmp, x, Qd, S, q, k⟩) fun q => h2.run pins s σ H v u Q I r ⟨δ, tmp, x, Qd, S, q, k⟩⟩
end DL
namespace DR
open PySem PySem.Spec PyProof.Rows L2 DL
theorem orgl {g h : TDG} {x : DL.D} {δ : DSt} {Q : DSt → Prop} (q : g x δ Q) : orG g h x δ Q := .inl q
theorem orgr {g h : TDG} {x : DL.D} {δ : DSt} {Q : DSt → Prop} (q : h x δ Q) : orG g h x δ Q := .inr q
end DR

set_option Elab.async false
set_option linter.all false
set_option maxRecDepth 100000
/-! DL80: readings of DL77 -/
namespace DR
open PySem PySem.Spec PyProof.Rows L2 DL
section
variable {δ : DSt} {cs : Cells} {Q : DV → DSt → Cells → Prop} {E : XD} {D : EndsC}
end
end DR

set_option Elab.async false
set_option linter.all false
set_option maxRecDepth 100000
/-! DL81: tuples of the module (a default, a constant) -/
namespace DL
open PySem PySem.Spec PyProof.Rows L2
section
variable {X : Cx} {c : Fc} {W : WX}
end
end DL
namespace DR
open PySem PySem.Spec PyProof.Rows L2 DL
variable {δ : DSt} {Q : List DL.D → DSt → Prop} {E : XD}
end DR

set_option Elab.async false
set_option linter.all false
set_option maxRecDepth 100000
/-! DL82: o.m(.., k = v) -/
namespace DL
open PySem PySem.Spec PyProof.Rows L2
section
variable {X : Cx} {k n : Nat} {f C : Addr} {fd : FuncData} {ps ks : List Str} {sp : Sp} {E : L2.St → XK} {m : Str} {pos apos : Pos} {e o : Expr} {es : List Expr} {kws : List Keyword} {t tk : TA} {to : TE} {gU : List Value → List Value → List Value} {gV : List V → List V → List V}
end
section
variable {X : Cx} {c : Fc} {W : WX} {k n : Nat} {f C : Addr} {fd : FuncData} {ps ks : List Str} {sd : SpD} {m : Str} {pos apos : Pos} {e o : Expr} {es : List Expr} {kws : List Keyword} {to : TD} {ta tk : TDA} {gU : List Value → List Value → List Value}
end
end DL
namespace DR
open PySem PySem.Spec PyProof.Rows L2 DL
end DR

set_option Elab.async false
set_option linter.all false
set_option maxRecDepth 100000
set_option maxHeartbeats 4000000
/-! DL83: lists within lists that change: cells made by an expression, looked at while an expression runs, written through an alias -/
namespace DL
open PySem PySem.Spec PyProof.Rows L2
mutual
/-- no list within -/
def D.noL : D → Bool
  | .lst _ => false
  | .ro _ => false
  | .tup xs => noLL xs
  | .rot xs => noLL xs
  | .ktp xs => noLL xs
  | .obj _ fs => noLF fs
  | .dT kvs => noLT kvs
  | .dK kvs => noLK kvs
  | .exc _ _ _ _ _ => false
  | .gho _ _ => false
  | .lkd _ _ _ _ => false
  | .lkt _ _ _ _ => false
  | _ => true
def noLL : List D → Bool
  | [] => true
  | d :: ds => d.noL && noLL ds
def noLF : List (Str × D) → Bool
  | [] => true
  | (_, d) :: ds => d.noL && noLF ds
def noLK : List (Key × D) → Bool
  | [] => true
  | (_, d) :: ds => d.noL && noLK ds
def noLT : List (List Key × D) → Bool
  | [] => true
  | (_, d) :: ds => d.noL && noLT ds
end
section
variable {K : PySem.W.Frag} {F F' : Hp} {L : List Addr}
/-- all at L are lists, F' has the rest -/
structure DropL (F F' : Hp) (L : List Addr) : Prop where
  ls : ∀ a ∈ L, ∃ vs, F a = some (.lst vs)
  at_ : ∀ b, b ∉ L → F' b = F b
theorem DropL.keep (q : DropL F F' L) {p : Addr} {u : HO} (n : ∀ vs, u ≠ .lst vs) (h : F p = some u) : F' p = some u := by
  rw [q.at_ p fun z => by obtain ⟨vs, e⟩ := q.ls p z; rw [h] at e; exact n vs (Option.some.inj e)]
  exact h
theorem DropL.rd (q : DropL F F' L) {p : Addr} {u : HO} (n : ∀ vs, u ≠ .lst vs) (h : Rd F p u) : Rd F' p u := by
  rcases h with h | ⟨o, h⟩
  · exact .inl (q.keep n h)
  · exact .inr ⟨o, q.keep (fun vs z => nomatch z) h⟩
theorem nl_t {vs : List V} : ∀ us, HO.tup vs ≠ .lst us := fun _ z => nomatch z
theorem nl_f {o : Obj} {u : HO} : ∀ us, HO.frz o u ≠ .lst us := fun _ z => nomatch z
theorem nl_i {C d : Addr} {vs : List (Str × V)} : ∀ us, HO.ins C d vs ≠ .lst us := fun _ z => nomatch z
theorem nl_k {vs : List (Key × V)} : ∀ us, HO.dK vs ≠ .lst us := fun _ z => nomatch z
theorem nl_d {vs : List (List Key × V)} : ∀ us, HO.dT vs ≠ .lst us := fun _ z => nomatch z
mutual
theorem Rep.dropL (q : DropL F F' L) : ∀ {v : V} {d : D}, Rep K F v d → d.noL = true → Rep K F' v d
  | _, _, .non, _ => .non
  | _, _, .bl b, _ => .bl b
  | _, _, .int i, _ => .int i
  | _, _, .str k, _ => .str k
  | _, _, .ty n, _ => .ty n
  | _, _, .adr a, _ => .adr a
  | _, _, .lst _ _, n => nomatch n
  | _, _, .ro _ _, n => nomatch n
  | _, _, .tup s h, n => .tup (q.keep nl_t s) (h.dropL q n)
  | _, _, .rot s hc hd' h, n => .rot (q.keep nl_f s) hc hd' (h.dropL q n)
  | _, _, .ktp s h, n => .ktp (s.imp (q.rd nl_t) id) (h.dropL q n)
  | _, _, .obj s h, n => .obj (q.keep nl_i s) (h.dropL q n)
  | _, _, .dT s h, n => .dT (q.rd nl_d s) (h.dropL q n)
  | _, _, .dK s h, n => .dK (q.rd nl_k s) (h.dropL q n)
  | _, _, .exc0, h => nomatch h
  | _, _, .exc _ _, h => nomatch h
  | _, _, .gho _, h => nomatch h
  | _, _, .lkd _ _, h => nomatch h
  | _, _, .lkt _ _ _, h => nomatch h
theorem RepL.dropL (q : DropL F F' L) : ∀ {vs : List V} {ds : List D}, RepL K F vs ds → noLL ds = true → RepL K F' vs ds
  | _, _, .nil, _ => .nil
  | _, _, .cons h t, n => .cons (h.dropL q (Bool.and_eq_true _ _ ▸ n).1) (t.dropL q (Bool.and_eq_true _ _ ▸ n).2)
theorem RepF.dropL (q : DropL F F' L) : ∀ {vs : List (Str × V)} {ds : List (Str × D)}, RepF K F vs ds → noLF ds = true → RepF K F' vs ds
  | _, _, .nil, _ => .nil
  | _, _, .cons h t, n => .cons (h.dropL q (Bool.and_eq_true _ _ ▸ n).1) (t.dropL q (Bool.and_eq_true _ _ ▸ n).2)
theorem RepK.dropL (q : DropL F F' L) : ∀ {vs : List (Key × V)} {ds : List (Key × D)}, RepK K F vs ds → noLK ds = true → RepK K F' vs ds
  | _, _, .nil, _ => .nil
  | _, _, .cons h t, n => .cons (h.dropL q (Bool.and_eq_true _ _ ▸ n).1) (t.dropL q (Bool.and_eq_true _ _ ▸ n).2)
theorem RepT.dropL (q : DropL F F' L) : ∀ {vs : List (List Key × V)} {ds : List (List Key × D)}, RepT K F vs ds → noLT ds = true → RepT K F' vs ds
  | _, _, .nil, _ => .nil
  | _, _, .cons h t, n => .cons (h.dropL q (Bool.and_eq_true _ _ ▸ n).1) (t.dropL q (Bool.and_eq_true _ _ ▸ n).2)
end
def IsLst (o : OC) : Prop := ∃ ds, o = .lst ds
end
section
variable {X : Cx} {c : Fc} {W : WX}
theorem region_out {K : PySem.W.Frag} {F F1 F2 H H' : Hp} {ow2 : Addr → Option Hold} {δ' : DSt} {σ' : L2.St} {L : List Addr} {tmp : List (V × DV)} (s1 : Same F F1) (hL : ∀ a ∈ L, F a = none ∧ ∃ vs, F1 a = some (.lst vs)) (f2 : ∀ b, b ∉ L → F1 b = F b) (S2 : SttF K ⟨[], [], F1, H⟩ F2 ow2 δ' tmp σ' H') :
    ∃ F'' : Hp, Ext F H F'' H' ∧ DropL F2 F'' L ∧ ∀ b, F2 b = none → F'' b = none := by
  obtain ⟨F'', eF⟩ : ∃ F'' : Hp, F'' = fun b => if b ∈ L then none else F2 b := ⟨_, rfl⟩
  have g1 : ∀ b, b ∈ L → F'' b = none := fun b h => by rw [eF]; exact if_pos h
  have g2 : ∀ b, b ∉ L → F'' b = F2 b := fun b h => by rw [eF]; exact if_neg h
  refine ⟨F'', ⟨fun b u e => ?_, fun b u e => S2.fr b u e (fun z => nomatch z), fun b u e => ?_, fun b hb => ?_⟩, ⟨fun a ha => ?_, g2⟩, fun b e => ?_⟩
  · have hb : b ∉ L := fun z => by rw [(hL b z).1] at e; cases e
    rw [g2 b hb]
    exact S2.f0 b u (s1 b u e)
  · by_cases h : b ∈ L
    · rw [g1 b h] at e; cases e
    · rw [g2 b h] at e; exact S2.fh _ _ e
  · by_cases h : b ∈ L
    · rw [g1 b h] at hb; exact (hb rfl).elim
    · rw [g2 b h] at hb
      rcases S2.fn b hb with z | z
      · exact .inl (by rw [← f2 b h]; exact z)
      · exact .inr z
  · obtain ⟨_, vs, e⟩ := hL a ha
    exact ⟨vs, S2.f0 a _ e⟩
  · by_cases h : b ∈ L
    · exact g1 b h
    · rw [g2 b h]; exact e
/-- what an expression makes becomes a cell -/
def cellE (t : TD) : TDc := fun δ cs Q E => t δ (fun y δ1 => ∃ o, y = .own o ∧ ∀ a, a ∉ cs.map (·.1) → Q (.d (.adr a)) δ1 ((a, o) :: cs)) E
theorem pec_cell {e : Expr} {t : TD} (he : PE X e (LE X.K c W t)) : PE X e (LEc X.K c W (cellE t)) :=
  PE_imp he fun σ H Q ⟨δ, cs, pre, tmp, Qd, Ed, S, q, k, w⟩ => ⟨δ, _, _, _, S, q, fun v y δ1 H1 ⟨o, ey, q1⟩ ⟨F, ow, S1⟩ => by
    subst ey
    obtain ⟨a', e0, ea, _⟩ := S1.tm.1
    subst e0
    have hfr : a' ∉ cs.map (·.1) := fun h => by
      obtain ⟨⟨b, o2⟩, hm, e⟩ := List.mem_map.mp h
      have e : b = a' := e
      subst e
      obtain ⟨k, hk, p', e0, eb, _⟩ := RepTmp.own S1.tm.2 (List.mem_append_right pre (List.mem_append_left tmp (List.mem_map.mpr ⟨(b, o2), hm, rfl⟩)))
      cases e0
      rw [ea] at eb
      cases eb
      exact Nat.lt_irrefl _ hk
    obtain ⟨ow2, S2⟩ := SttF.sink (A := pre) (B := stk cs ++ tmp) S1
    exact k _ _ _ ((a', o) :: cs) _ (q1 a' hfr) ⟨F, ow2, S2.push (.adr a')⟩, (w.app _).app _⟩
end
end DL
namespace DR
open PySem PySem.Spec PyProof.Rows L2 DL
section
variable {δ : DSt} {cs : Cells} {Q : DV → DSt → Cells → Prop} {E : XD} {D : EndsC}
theorem cellE {t : TD} (h : t δ (fun y δ1 => ∃ o, y = .own o ∧ ∀ a, a ∉ cs.map (·.1) → Q (.d (.adr a)) δ1 ((a, o) :: cs)) E) : DL.cellE t δ cs Q E := h
end
end DR

set_option Elab.async false
set_option linter.all false
set_option maxRecDepth 100000
/-! DL84: text.upper() -/
namespace DL
open PySem PySem.Spec PyProof.Rows L2
section
variable {X : Cx} {c : Fc} {W : WX}
end
end DL
namespace DR
open PySem PySem.Spec PyProof.Rows L2 DL
end DR

set_option Elab.async false
set_option linter.all false
set_option maxRecDepth 100000
/-! t[lo:hi] of a tuple, the whole of it or not -/
namespace DL
open PySem PySem.Spec PyProof.Rows L2
end DL

set_option Elab.async false
set_option linter.all false
set_option maxRecDepth 100000
set_option maxHeartbeats 4000000
/-! DL86: a slice of an own list, which stays own; a guarded def's lent lists -/
namespace DL
open PySem PySem.Spec PyProof.Rows L2
section
variable {X : Cx} {c : Fc} {W : WX}
end
end DL
namespace DR
open PySem PySem.Spec PyProof.Rows L2 DL
section
variable {δ : DSt} {Q : DK} {E : XD}
end
end DR

set_option Elab.async false
set_option linter.all false
set_option maxRecDepth 100000
set_option maxHeartbeats 4000000
/-! DL87: text.index(sign) -/
namespace DL
open PySem PySem.Spec PyProof.Rows L2
section
variable {X : Cx} {c : Fc} {W : WX}
end
end DL
namespace DR
open PySem PySem.Spec PyProof.Rows L2 DL
end DR

set_option Elab.async false
set_option linter.all false
set_option maxRecDepth 100000
set_option maxHeartbeats 4000000
/-! DL88: cells of any expression, expressions by a test over cells, tuples of a cell's items, calls and tests that look through the cells -/
namespace DL
open PySem PySem.Spec PyProof.Rows L2
section
variable {X : Cx} {c : Fc} {W : WX}
/-- what an expression with cells makes becomes a cell -/
def cellC (t : TDc) : TDc := fun δ cs Q E => t δ cs (fun y δ1 cs1 => ∃ o, y = .own o ∧ ∀ a, a ∉ cs1.map (·.1) → Q (.d (.adr a)) δ1 ((a, o) :: cs1)) E
theorem pec_cellC {e : Expr} {t : TDc} (he : PE X e (LEc X.K c W t)) : PE X e (LEc X.K c W (cellC t)) :=
  PE_imp he fun σ H Q ⟨δ, cs, pre, tmp, Qd, Ed, S, q, k, w⟩ => ⟨δ, cs, pre, tmp, _, _, S, q, fun v y δ1 cs1 H1 ⟨o, ey, q1⟩ ⟨F, ow, S1⟩ => by
    subst ey
    obtain ⟨a', e0, ea, _⟩ := S1.tm.1
    subst e0
    have hfr : a' ∉ cs1.map (·.1) := fun h => by
      obtain ⟨⟨b, o2⟩, hm, e⟩ := List.mem_map.mp h
      have e : b = a' := e
      subst e
      obtain ⟨k, hk, p', e0, eb, _⟩ := RepTmp.own S1.tm.2 (List.mem_append_right pre (List.mem_append_left tmp (List.mem_map.mpr ⟨(b, o2), hm, rfl⟩)))
      cases e0
      rw [ea] at eb
      cases eb
      exact Nat.lt_irrefl _ hk
    obtain ⟨ow2, S2⟩ := SttF.sink (A := pre) (B := stk cs1 ++ tmp) S1
    exact k _ _ _ ((a', o) :: cs1) _ (q1 a' hfr) ⟨F, ow2, S2.push (.adr a')⟩, w⟩
def ifExpC (c : TDTc) (t u : TDc) : TDc := fun δ cs Q E => c δ cs (fun b δ1 cs1 => if b = true then t δ1 cs1 Q E else u δ1 cs1 Q E) E
theorem pec_ifExp {e a b : Expr} {tc : TDTc} {t u : TDc} {pos : Pos} (hc : PT X e (LTc X.K c W tc)) (ha : PE X a (LEc X.K c W t)) (hb : PE X b (LEc X.K c W u)) : PE X (.IfExp e a b pos) (LEc X.K c W (ifExpC tc t u)) :=
  PE_imp (pe_ifExp hc ha hb) fun σ H Q ⟨δ, cs, pre, tmp, Qd, Ed, S, q, k, w⟩ => ⟨δ, cs, pre, tmp, _, _, S, q, fun b δ' cs' H' q' S' => by
    cases b
    · exact ⟨δ', cs', pre, tmp, Qd, Ed, S', q', k, w⟩
    · exact ⟨δ', cs', pre, tmp, Qd, Ed, S', q', k, w⟩, w⟩
/-- all cells are looked at -/
theorem regionA {K : PySem.W.Frag} {c : Fc} {F H : Hp} {ow : Addr → Option Hold} {δ : DSt} {σ : L2.St} {cs : Cells} {pre tmp : List (V × DV)} (S : SttF K c F ow δ (pre ++ (stk cs ++ tmp)) σ H) (lc : ∀ a o', (a, o') ∈ cs → IsLst o') :
    ∃ (L : List Addr) (F1 : Hp), Same F F1 ∧ Same F1 H ∧ (∀ a ∈ L, F a = none ∧ ∃ vs, F1 a = some (.lst vs)) ∧ (∀ b, b ∉ L → F1 b = F b) ∧ ∀ a o', (a, o') ∈ cs → Rep K F1 (.ref a) o'.toD := by
  let L : List Addr := cs.map (·.1)
  have ht := S.tm
  have hc : ∀ a o', (a, o') ∈ cs → F a = none ∧ OwnRep K F H a o' := fun a o' hm => by
    obtain ⟨k, _, q⟩ := RepTmp.own ht (List.mem_append_right pre (List.mem_append_left tmp (List.mem_map.mpr ⟨(a, o'), hm, rfl⟩)))
    obtain ⟨p', e0, _, b, _, r⟩ := q
    cases e0
    exact ⟨b, r⟩
  have isl : ∀ {a : Addr} {o : OC}, IsLst o → OwnRep K F H a o → ∃ vs, H a = some (.lst vs) := fun {a o} h r => by
    obtain ⟨ds, rfl⟩ := h
    obtain ⟨vs, e, _⟩ := r
    exact ⟨vs, e⟩
  have hL : ∀ a ∈ L, F a = none ∧ ∃ vs, H a = some (.lst vs) := fun a ha => by
    obtain ⟨⟨a', o'⟩, hm, rfl⟩ := List.mem_map.mp ha
    obtain ⟨b, r⟩ := hc _ _ hm
    exact ⟨b, isl (lc _ _ hm) r⟩
  let F1 : Hp := fun b => if b ∈ L then H b else F b
  have f1 : ∀ b, b ∈ L → F1 b = H b := fun b h => if_pos h
  have f2 : ∀ b, b ∉ L → F1 b = F b := fun b h => if_neg h
  have s1 : Same F F1 := fun b u e => by
    by_cases h : b ∈ L
    · rw [(hL b h).1] at e; cases e
    · rw [f2 b h]; exact e
  have s2 : Same F1 H := fun b u e => by
    by_cases h : b ∈ L
    · rw [f1 b h] at e; exact e
    · rw [f2 b h] at e; exact S.fh _ _ e
  exact ⟨L, F1, s1, s2, fun a ha => ⟨(hL a ha).1, by rw [f1 a ha]; exact (hL a ha).2⟩, f2, fun a o' hm => (hc a o' hm).2.rep (f1 a (List.mem_map.mpr ⟨(a, o'), hm, rfl⟩)) s1⟩
/-- the slots as they are seen through the cells -/
def FillS (K : PySem.W.Frag) (cs : Cells) (δ δ' : DSt) : Prop := δ'.length = δ.length ∧ ∀ (i : Nat) (x : DV), δ'[i]? = some (some x) → ∃ d y, x = .d y ∧ δ[i]? = some (some (.d d)) ∧ Fill K cs d y
theorem FillS.hid {K : PySem.W.Frag} {cs : Cells} {δ : DSt} : FillS K cs δ (hid δ) := ⟨by unfold DL.hid; rw [List.length_map], fun i x h => by
  obtain ⟨d, rfl, e⟩ := hid_at h
  exact ⟨d, d, rfl, e, .refl⟩⟩
theorem FillS.set {K : PySem.W.Frag} {cs : Cells} {δ δ' : DSt} (h : FillS K cs δ δ') {i : Nat} {d y : D} (e : δ[i]? = some (some (.d d))) (hf : Fill K cs d y) : FillS K cs δ (δ'.set i (some (.d y))) := ⟨by rw [List.length_set]; exact h.1, fun j x hx => by
  by_cases z : i = j
  · subst z
    have hi : i < δ'.length := by rw [h.1]; exact set_lt e
    rw [List.getElem?_set_self hi] at hx
    cases hx
    exact ⟨d, y, rfl, e, hf⟩
  · rw [List.getElem?_set_ne z] at hx
    exact h.2 j x hx⟩
theorem regionA_in {K : PySem.W.Frag} {c : Fc} {F F1 H : Hp} {ow : Addr → Option Hold} {δ δ' : DSt} {σ : L2.St} {cs : Cells} {tmp : List (V × DV)} (S : SttF K c F ow δ tmp σ H) (s1 : Same F F1) (s2 : Same F1 H) (hc : ∀ a o', (a, o') ∈ cs → Rep K F1 (.ref a) o'.toD) (hf : FillS K cs δ δ') :
    SttF K ⟨[], [], F1, H⟩ F1 (fun _ => none) δ' [] σ H := by
  refine ⟨s2, Same.refl _, fun a h => .inl h, fun a o h _ => h, fun a h => h, by rw [hf.1]; exact S.len, fun j x hx => ?_, True.intro, fun k i p z => by cases z⟩
  obtain ⟨d, y, rfl, e, hy⟩ := hf.2 j x hx
  obtain ⟨u, e2, ru⟩ := S.sl j _ e
  exact ⟨u, e2, hy F1 u hc (Rep.mono s1 ru)⟩
/-- a test while all is seen through the cells -/
def viewTA (K : PySem.W.Frag) (t : TDT) : TDTc := fun δ cs Q _ => ∃ δ', (∀ a o', (a, o') ∈ cs → IsLst o') ∧ FillS K cs δ δ' ∧ t δ' (fun b _ => Q b δ cs) (fun _ _ => False)
theorem ptc_viewA {K : PySem.W.Frag} {e : Expr} {t : TDT} (h : ∀ F0 H0, PT X e (LT X.K ⟨[], [], F0, H0⟩ W t)) (hK : X.K = K := by rfl) : PT X e (LTc X.K c W (viewTA K t)) := by
  subst hK
  have hu : PT X e fun σ H Q => ∃ F0 H0, LT X.K ⟨[], [], F0, H0⟩ W t σ H Q := ⟨fun pins s σ H Q I ⟨F0, H0, q⟩ => (h F0 H0).run pins s σ H Q I q⟩
  refine PT_imp hu fun σ H Q ⟨δ, cs, pre, tmp, Qd, Ed, ⟨F, ow, S⟩, ⟨δ', lc, hf, q⟩, k, w⟩ => ?_
  obtain ⟨L, F1, s1, s2, hL, f2, hc⟩ := regionA S lc
  refine ⟨F1, H, δ', [], _, _, ⟨F1, _, regionA_in S s1 s2 hc hf⟩, q, ?_, fun x δ' σ' H' F' ow' cls d z => z.elim⟩
  rintro b δ2 H' q' ⟨F2, ow2, S2⟩
  obtain ⟨F'', ext, dr, _⟩ := region_out s1 hL f2 S2
  exact k _ _ _ _ q' ⟨F'', ow, S.ext ext⟩
/-- o[i] = e, o what an expression over cells gives -/
def putLc (te to : TDc) (ti : TD) : TDSc := fun D δ cs => te δ cs (fun v δ1 cs1 => to δ1 cs1 (fun x δ2 cs2 => ti δ2 (fun k δ3 => ∃ n a ds j m, x.toD = .adr a ∧ cs2[n]? = some (a, OC.lst ds) ∧ k.toD = .int j ∧ ixN ds.length j = some m ∧ D.nx δ3 (cs2.set n (a, OC.lst (ds.set m v.toD)))) D.ex) D.ex) D.ex
theorem psc_putLc {o i e : Expr} {te to : TDc} {ti : TD} {pos pos' : Pos} (h : ∀ {te : TE} {g : TG}, PE X e te → PG X (.Subscript o i pos') g → PS X (.Assign [.Subscript o i pos'] e pos) (tAsg te g)) (hg : ∀ {to ti : TE} {t : TSet}, PE X o to → PE X i ti → PSet X t → PG X (.Subscript o i pos') (gSub to ti t))
    (ho : PE X o (LEc X.K c W to)) (he : PE X e (LEc X.K c W te)) (hi : PE X i (LE X.K c W ti)) : PS X (.Assign [.Subscript o i pos'] e pos) (LSc X.K c W (putLc te to ti)) :=
  PS_imp (h he (hg ho hi set_list)) fun D σ H ⟨δ, cs, pre, tmp, Dd, S, q, k, kr, kb, kc, w⟩ => ⟨δ, cs, pre, tmp, _, _, S, q, fun u y δ1 cs1 H1 q1 ⟨F1, ow1, S1⟩ => by
    obtain ⟨F2, S2, _⟩ := S1.top_frz
    refine ⟨δ1, cs1, (u, .d y.toD) :: pre, tmp, _, _, ⟨F2, ow1, S2⟩, q1, fun v x δ2 cs2 H2 q2 ⟨F3, ow3, S3⟩ => ?_, w⟩
    obtain ⟨F4, S4, _⟩ := S3.top_frz
    refine ⟨δ2, _, _, _, ⟨F4, ow3, S4⟩, q2, fun t z δ3 H3 ⟨n, a, ds, j, m, ex, en, ek, em, q3⟩ ⟨F5, ow5, S5⟩ => ?_, (((w.app _).app _).push).push⟩
    obtain ⟨F6, S6, _⟩ := S5.top_frz
    rw [ek] at S6
    cases S6.top
    have rx : Rep X.K F6 v x.toD := S6.pop.top
    rw [ex] at rx
    cases rx
    have ry : Rep X.K F6 u y.toD := S6.pop.pop.top
    have S7 := S6.pop.pop.pop
    change SttF X.K c F6 ow5 δ3 (pre ++ (stk cs2 ++ tmp)) σ H3 at S7
    obtain ⟨l, r, e1, e2⟩ := cells_at en
    have es : pre ++ (stk cs2 ++ tmp) = (pre ++ stk l) ++ (V.ref a, .own (.lst ds)) :: (stk r ++ tmp) := by rw [e1]; simp [stk]
    rw [es] at S7
    obtain ⟨p', e0, _, _, _, vs, ep, rk⟩ := S7.tm.mid
    cases e0
    refine ⟨a, vs, j, m, rfl, rfl, ep, by rw [rk.len]; exact em, k _ _ _ _ q3 ⟨F6, ow5, ?_⟩⟩
    have S8 := S7.writeC (o' := .lst (ds.set m y.toD)) (ob := .lst _) ⟨_, upd_same, rk.set ry m⟩
    rw [e2]
    have es' : pre ++ (stk (l ++ (a, OC.lst (ds.set m y.toD)) :: r) ++ tmp) = (pre ++ stk l) ++ (V.ref a, .own (.lst (ds.set m y.toD))) :: (stk r ++ tmp) := by simp [stk]
    rw [es']
    exact S8, w⟩
end
end DL
namespace DR
open PySem PySem.Spec PyProof.Rows L2 DL
section
variable {δ : DSt} {cs : Cells} {Q : DV → DSt → Cells → Prop} {E : XD} {D : EndsC} {K : PySem.W.Frag}
theorem cellC {t : TDc} (h : t δ cs (fun y δ1 cs1 => ∃ o, y = .own o ∧ ∀ a, a ∉ cs1.map (·.1) → Q (.d (.adr a)) δ1 ((a, o) :: cs1)) E) : DL.cellC t δ cs Q E := h
theorem ifExpC {c : TDTc} {t u : TDc} (h : c δ cs (fun b δ1 cs1 => if b = true then t δ1 cs1 Q E else u δ1 cs1 Q E) E) : DL.ifExpC c t u δ cs Q E := h
theorem viewTA {t : TDT} {Q : Bool → DSt → Cells → Prop} {δ' : DSt} (lc : ∀ a o', (a, o') ∈ cs → IsLst o') (hf : FillS K cs δ δ') (h : t δ' (fun b _ => Q b δ cs) (fun _ _ => False)) : DL.viewTA K t δ cs Q E := ⟨δ', lc, hf, h⟩
theorem putLc {te to : TDc} {ti : TD} (h : te δ cs (fun v δ1 cs1 => to δ1 cs1 (fun x δ2 cs2 => ti δ2 (fun k δ3 => ∃ n a ds j m, x.toD = .adr a ∧ cs2[n]? = some (a, OC.lst ds) ∧ k.toD = .int j ∧ ixN ds.length j = some m ∧ D.nx δ3 (cs2.set n (a, OC.lst (ds.set m v.toD)))) D.ex) D.ex) D.ex) : DL.putLc te to ti D δ cs := h
theorem ifCC {c : TDTc} {t u : TDSc} (h : c δ cs (fun b δ1 cs1 => if b = true then t D δ1 cs1 else u D δ1 cs1) D.ex) : DL.ifC c t u D δ cs := h
theorem upE2 {t : TD} (h : t δ (fun x δ' => Q x δ' cs) E) : DL.upE t δ cs Q E := h
end
end DR

set_option Elab.async false
set_option linter.all false
set_option maxRecDepth 100000
set_option maxHeartbeats 4000000
/-! DL89: list(x) of an own object whose __iter__ walks a tuple of its own -/
namespace DL
open PySem PySem.Spec PyProof.Rows L2
section
variable {X : Cx} {σ : L2.St} {pins : List (Addr × Obj)} {A1 : Around}
end
/-! ### in data -/
end DL

set_option Elab.async false
set_option linter.all false
set_option maxRecDepth 100000
set_option maxHeartbeats 4000000
/-! DL90: list(x) and e + x of an own list that stays own -/
namespace DL
open PySem PySem.Spec PyProof.Rows L2
section
variable {X : Cx} {c : Fc} {W : WX}
end
end DL
namespace DR
open PySem PySem.Spec PyProof.Rows L2 DL
section
variable {δ : DSt} {Q : DK} {E : XD}
end
end DR

set_option Elab.async false
set_option linter.all false
set_option maxRecDepth 100000
set_option maxHeartbeats 4000000
/-! DL91: {k: v}, one pair, a new own dict by plain keys -/
namespace DL
open PySem PySem.Spec PyProof.Rows L2
section
variable {X : Cx} {c : Fc} {W : WX}
def dispD (tk tv : TD) : TD := fun δ Q E => tk δ (fun x δ1 => tv δ1 (fun y δ2 => ∃ ks, x.toD = keyOne ks ∧ Q (.own (.dK [(ks, y.toD)])) δ2) E) E
theorem pd_disp1 {a b : Expr} {tk tv : TD} {pos : Pos} (hk : PE X a (LE X.K c W tk)) (hv : PE X b (LE X.K c W tv)) : PE X (.Dict [some a] [b] pos) (LE X.K c W (dispD tk tv)) :=
  PE_imp (pe_disp (pps_cons hk hv pps_nil) rfl rfl (by simp) (by show 1 ≤ 15; decide)) fun σ H Q ⟨δ, tmp, Qd, Ed, ⟨F, ow, S⟩, q, k, w⟩ => fun p n =>
    ⟨δ, (.ref p, .own (.dK [])) :: tmp, _, Ed, ⟨F, _, S.pushNew (o := .dK []) n ⟨[], upd_same, .nil⟩⟩, q, fun u x δ1 H1 q1 ⟨F1, ow1, S1⟩ => by
      obtain ⟨F2, S2, _⟩ := S1.top_frz
      refine ⟨δ1, _, _, Ed, ⟨F2, ow1, S2⟩, q1, fun t y δ2 H2 ⟨ks, ek, q2⟩ ⟨F3, ow3, S3⟩ => ?_, (w.push).push⟩
      obtain ⟨F4, S4, _⟩ := S3.top_frz
      have ry : Rep X.K F4 t y.toD := S4.top
      have S5 := S4.pop
      rw [ek] at S5
      obtain rfl := key_one S5.top
      have S6 := S5.pop
      obtain ⟨p', e0, _, _, _, vs, ep, rk⟩ := S6.tm.1
      cases e0
      cases rk
      refine ⟨ep, [(ks, t)], rfl, (by show 1 ≤ 15; decide), k _ _ _ _ q2 ⟨F4, ow3, ?_⟩⟩
      exact SttF.writeC (A := []) (o' := .dK [(ks, y.toD)]) (ob := .dK [(ks, t)]) S6 ⟨_, upd_same, .cons ry .nil⟩, w.push⟩
end
end DL
namespace DR
open PySem PySem.Spec PyProof.Rows L2 DL
section
variable {δ : DSt} {Q : DK} {E : XD}
theorem dispD {tk tv : TD} (h : tk δ (fun x δ1 => tv δ1 (fun y δ2 => ∃ ks, x.toD = keyOne ks ∧ Q (.own (.dK [(ks, y.toD)])) δ2) E) E) : DL.dispD tk tv δ Q E := h
end
end DR

set_option Elab.async false
set_option linter.all false
set_option maxRecDepth 100000
set_option maxHeartbeats 4000000
/-! DL92: == of dicts whose keys are tuples, where they hold the same -/
namespace DL
open PySem PySem.Spec PyProof.Rows L2
theorem same_tab {P : Program} {w : World} {A : Around} {s0 : Shared} {nm : String} {c d : Addr} {us vs : List (List Key × Addr × Value)} {E : Value → Shared → Prop} {Q : Bool → Shared → Prop} (hc : (c == sysModules) = false) (hd : (d == sysModules) = false) (mc : s0.heap.DictOfH (tupleKind (mixKind P w)) c us) (md : s0.heap.DictOfH (tupleKind (mixKind P w)) d vs) (room : (tupleKind (mixKind P w)).room A) (len : us.length = vs.length)
    (hits : ∀ p ∈ us, ∃ q : Addr × Value, (p.1, q) ∈ vs ∧ SeqAt.EqP P w A s0 p.2.2 q.2 true) (fin : Q true s0) : wpAny (model P w) A (Builtin.Dict.samePairs nm c d) Q E s0 := by
  obtain ⟨oc, ec, pc, gc, _, dc, lc, ic, _⟩ := mc
  obtain ⟨o2, e2, p2, g2, _, d2, l2, i2, n2⟩ := md
  have zc : ec.size = us.length := size_of_entries lc
  have z2 : e2.size = vs.length := size_of_entries l2
  have zz : ec.size = e2.size := by rw [zc, z2, len]
  unfold Builtin.Dict.samePairs; unfold Builtin.Dict.showsAll
  rw [if_neg (by rw [hc]; exact Bool.false_ne_true), if_neg (by rw [hd]; exact Bool.false_ne_true)]
  refine wpAny_bind (wpAny_pure ?_)
  refine wpAny_bind (wpAny_pure ?_)
  refine wpAny_bind (wpAny_dictEntries gc dc ?_)
  dsimp only
  refine wpAny_bind (wpAny_dictEntries g2 d2 ?_)
  rw [if_neg (by rw [zz]; simp)]
  refine wpAny_bind (wpAny_dictEpoch gc dc ?_)
  refine wpAny_bind ?_
  simp only [Std.Legacy.Range.forIn_eq_forIn_range', Std.Legacy.Range.size, Nat.div_one, Nat.add_sub_cancel, Nat.sub_zero]
  refine wpAny_forIn_list _ (fun left q t => t = s0 ∧ q = (none, ()) ∧ ∃ i, left = List.range' i (ec.size - i) ∧ i ≤ ec.size) _ ?_ ?_ _ _ ⟨rfl, rfl, 0, by simp, Nat.zero_le _⟩
  · rintro x left q t ⟨rfl, rfl, i, hr, hi⟩
    have lt : i < ec.size := by
      rcases Nat.lt_or_ge i ec.size with h | h
      · exact h
      · rw [Nat.sub_eq_zero_of_le h] at hr; cases hr
    obtain ⟨rfl, hleft⟩ : x = i ∧ left = List.range' (i + 1) (ec.size - (i + 1)) := by
      rw [show ec.size - i = (ec.size - (i + 1)) + 1 by omega, List.range'_succ] at hr
      injection hr with h1 h2
      exact ⟨h1, h2⟩
    refine wpAny_bind (wpAny_dictEntries gc dc ?_)
    obtain ⟨⟨k, ak, v⟩, hu⟩ : ∃ p, us[x]? = some p := ⟨_, List.getElem?_eq_getElem (by omega)⟩
    rw [entry_at lc x, hu]
    have hmem := List.mem_of_getElem? hu
    obtain ⟨q, hq, he⟩ := hits _ hmem
    show wpAny _ _ (holding [.ref ak, v] _ >>= _) _ _ _
    refine wpAny_bind (wpAny_holding (wpAny_bind (wpAny_dictFind_heap room (ic _ hmem) g2 d2 l2 i2 n2 (fun no => ?_) fun j p hj => ?_)))
    · obtain ⟨j, hj⟩ := List.getElem?_of_mem hq
      exact absurd hj (no j q)
    · obtain ⟨j2, hj2⟩ := List.getElem?_of_mem hq
      have ej : j = j2 := idxH_unique n2 hj hj2
      subst ej
      rw [hj] at hj2
      cases hj2
      refine wpAny_bind (wpAny_dictEntries g2 d2 ?_)
      rw [entry_at l2 j, hj]
      refine wpAny_holding (he _ _ ?_)
      change wpAny _ _ (if (!true) = true then _ else _) _ _ _
      rw [if_neg (by decide)]
      refine wpAny_bind (wpAny_dictEpoch gc dc ?_)
      rw [if_neg (by simp)]
      exact wpAny_pure ⟨rfl, rfl, x + 1, hleft, lt⟩
  · rintro q t ⟨rfl, rfl, i, hr, hi⟩
    exact wpAny_pure fin
theorem tab_ne {P : Program} {w : World} {A : Around} {s0 : Shared} {c d : Addr} {us vs : List (List Key × Addr × Value)} {E Q : Value → Shared → Prop} (hc : (c == sysModules) = false) (hd : (d == sysModules) = false) (mc : s0.heap.DictOfH (tupleKind (mixKind P w)) c us) (md : s0.heap.DictOfH (tupleKind (mixKind P w)) d vs) (cl : A.units < cLine) (room : (tupleKind (mixKind P w)).room A.in1) (len : us.length = vs.length)
    (hits : ∀ p ∈ us, ∃ q : Addr × Value, (p.1, q) ∈ vs ∧ SeqAt.EqP P w A.in1 s0 p.2.2 q.2 true) (fin : Q (.bool false) s0) : wpAny (model P w) A (compareOp .NotEq (.ref c) (.ref d)) Q E s0 := by
  refine wpAny_richCompare_same_room (op := .NotEq) mc.typeIs md.typeIs PySem.F.slot_dict_ne (wpAny_call_entry PySem.F.slot_dict_ne mc.typeIs PySem.F.entry_dict_ne ?_ (PySem.F.args_dict_ne_2 _ _)) cl
  change wpAny _ _ (Builtin.Dict.dictSlotArgs "__ne__" ⟨[.ref c, .ref d], []⟩ >>= _) _ _ s0
  refine wpAny_bind ?_
  unfold Builtin.Dict.dictSlotArgs
  refine wpAny_bind (wpAny_notOrdered_dict mc.typeIs ?_)
  change wpAny _ _ (pure (Value.ref c, Value.ref d)) _ _ s0
  refine wpAny_pure ?_
  refine wpAny_bind (wpAny_isInstance (T := "dict") md.typeIs PySem.F.sub_dict_dict ?_)
  simp only [Bool.not_true, if_false, Bool.false_eq_true]
  refine wpAny_bind (wpAny_pure (wpAny_bind (wpAny_pure (wpAny_bind (same_tab hc hd mc md room len hits ?_)))))
  exact wpAny_pure ⟨_, rfl, (fun x => nomatch x), by simpa using fin⟩
theorem paired_mem {α β : Type} {R : α → β → Prop} {b : β} : ∀ {l : List α} {k : List β}, Paired R l k → b ∈ k → ∃ a ∈ l, R a b
  | _, _, .nil, h => nomatch h
  | _, _, .cons q t, h => by
    rcases List.mem_cons.mp h with rfl | h
    · exact ⟨_, List.mem_cons_self, q⟩
    · obtain ⟨a, ha, r⟩ := paired_mem t h
      exact ⟨a, List.mem_cons_of_mem _ ha, r⟩
theorem atKey_in {ys : List (List Key × Addr × Value)} {k : List Key} {p : Addr × Value} (h : atKey ys k = some p) : (k, p) ∈ ys := by
  unfold atKey at h
  obtain ⟨q, hq, e⟩ := Option.map_eq_some_iff.mp h
  have hk := List.find?_some hq
  have hm := List.mem_of_find?_eq_some hq
  obtain ⟨k2, p2⟩ := q
  simp only [decide_eq_true_eq] at hk
  subst e
  subst hk
  exact hm
section
variable {X : Cx}
def rNeTabs : R2 := fun x y H Q => ∃ a b ks ls, x = .ref a ∧ y = .ref b ∧ Rd H a (.dT ks) ∧ Rd H b (.dT ls) ∧ ks.length = ls.length ∧ (∀ p ∈ ks, valV ls p.1 = some p.2 ∧ flatB p.2 = true) ∧ Q (.bl false) H
theorem op_ne_tabs (hu : X.A.units + 1 < cLine) : OpR X (compareOp .NotEq) rNeTabs := by
  intro pins s σ H x y v u Q I rx ry h
  obtain ⟨a, b, ks, ls, rfl, rfl, ea, eb, hlen, hp, q⟩ := h
  obtain rfl : v = Value.ref a := rx
  obtain rfl : u = Value.ref b := ry
  obtain ⟨_, ya, xs, ka, ma⟩ := dt_rd I.hok ea
  obtain ⟨_, yb, ys, kb, mb⟩ := dt_rd I.hok eb
  refine tab_ne ya yb ma mb (by omega) (tupleKind_room_in1 hu) (by rw [← ka.length, ← kb.length]; exact hlen) (fun p hm => ?_) (fin_bl I q rfl)
  obtain ⟨⟨k, v0⟩, hk, e1, _, r1⟩ := paired_mem ka hm
  obtain ⟨e2, f2⟩ := hp _ hk
  have rr := kb.val k
  rw [e2] at rr
  obtain ⟨y, hy, ry⟩ := rr.some_of
  obtain ⟨q2, hq2, e3⟩ := Option.map_eq_some_iff.mp hy
  refine ⟨q2, ?_, ?_⟩
  · rw [← e1]; exact atKey_in hq2
  · rw [e3]
    exact (eqAt_same r1 ry f2).eqP
end
end DL

set_option Elab.async false
set_option linter.all false
set_option maxRecDepth 100000
set_option maxHeartbeats 4000000
/-! DL93: x != y, e != y over own dicts with tuple keys that hold the same numbers; they stay own -/
namespace DL
open PySem PySem.Spec PyProof.Rows L2
/-- the same keys, the same numbers -/
def SameT (ks ls : List (List Key × D)) : Prop := ks.length = ls.length ∧ ∀ p ∈ ks, ∃ n : Int, p.2 = .int n ∧ valD ls p.1 = some (.int n)
theorem repT_mem {K : PySem.W.Frag} {F : Hp} {p : List Key × V} : ∀ {vs : List (List Key × V)} {ds : List (List Key × D)}, RepT K F vs ds → p ∈ vs → ∃ d, (p.1, d) ∈ ds ∧ Rep K F p.2 d
  | _, _, .nil, h => nomatch h
  | _, _, .cons r t, h => by
    rcases List.mem_cons.mp h with rfl | h
    · exact ⟨_, List.mem_cons_self, r⟩
    · obtain ⟨d, hd, r2⟩ := repT_mem t h
      exact ⟨d, List.mem_cons_of_mem _ hd, r2⟩
theorem sameT_rep {K : PySem.W.Frag} {F G : Hp} {vs us : List (List Key × V)} {ks ls : List (List Key × D)} (h : SameT ks ls) (r1 : RepT K F vs ks) (r2 : RepT K G us ls) : vs.length = us.length ∧ ∀ p ∈ vs, valV us p.1 = some p.2 ∧ flatB p.2 = true := by
  refine ⟨by rw [repT_len r1, repT_len r2]; exact h.1, fun ⟨pk, pw⟩ hp => ?_⟩
  obtain ⟨d, hd, r⟩ := repT_mem r1 hp
  obtain ⟨n, e, ev⟩ := h.2 _ hd
  dsimp only at e
  subst e
  obtain ⟨v, e2, rv⟩ := (repT_get r2).2 _ ev
  cases r
  cases rv
  exact ⟨e2, rfl⟩
section
variable {X : Cx} {c : Fc} {W : WX}
def neTO (i j : Nat) : TDT := fun δ Q _ => ∃ ks ls, δ[i]? = some (some (.own (.dT ks))) ∧ δ[j]? = some (some (.own (.dT ls))) ∧ SameT ks ls ∧ Q false δ
theorem ptd_neTO {i j : Nat} {x y : Str} {pos px py : Pos} (hu : X.A.units + 1 < cLine) (hx : PE X (.Name x px) (tVar i)) (hy : PE X (.Name y py) (tVar j)) : PT X (.Compare (.Name x px) [.NotEq] [.Name y py] pos) (LT X.K c W (neTO i j)) :=
  PT_imp (pt_cmpR (op_ne_tabs hu) hx hy rfl) fun σ H Q ⟨δ, tmp, Qd, Ed, ⟨F, ow, S⟩, ⟨ks, ls, ei, ej, hs, q⟩, k, w⟩ => by
    obtain ⟨_, e1, p1, rfl, _, _, _, vs, ep1, r1⟩ := S.sl _ _ ei
    obtain ⟨_, e2, p2, rfl, _, _, _, us, ep2, r2⟩ := S.sl _ _ ej
    obtain ⟨h1, h2⟩ := sameT_rep hs r1 r2
    exact ⟨_, e1, _, e2, p1, p2, vs, us, rfl, rfl, .inl ep1, .inl ep2, h1, h2, false, rfl, k _ _ _ q ⟨F, ow, S⟩⟩
def neTE (j : Nat) (t : TD) : TDT := fun δ Q E => t δ (fun x δ1 => ∃ ks ls, x.toD = .dT ks ∧ δ1[j]? = some (some (.own (.dT ls))) ∧ SameT ks ls ∧ Q false δ1) E
theorem ptd_neTE {j : Nat} {a : Expr} {y : Str} {t : TD} {pos py : Pos} (hu : X.A.units + 1 < cLine) (ha : PE X a (LE X.K c W t)) (hy : PE X (.Name y py) (tVar j)) : PT X (.Compare a [.NotEq] [.Name y py] pos) (LT X.K c W (neTE j t)) :=
  PT_imp (pt_cmpR (op_ne_tabs hu) ha hy rfl) fun σ H Q ⟨δ, tmp, Qd, Ed, S, q, k, w⟩ => ⟨δ, tmp, _, Ed, S, q, fun v x δ1 H1 ⟨ks, ls, ex, ej, hs, q1⟩ ⟨F1, ow1, S1⟩ => by
    obtain ⟨F2, S2, _⟩ := S1.top_frz
    rw [ex] at S2
    have rx := S2.top
    obtain ⟨_, e2, p2, rfl, _, _, _, us, ep2, r2⟩ := S2.sl _ _ ej
    cases rx with
    | dT s1 r1 =>
      obtain ⟨h1, h2⟩ := sameT_rep hs r1 r2
      exact ⟨_, e2, _, p2, _, us, rfl, rfl, rd_mono S2.fh s1, .inl ep2, h1, h2, false, rfl, k _ _ _ q1 ⟨F2, ow1, S2.pop⟩⟩, w⟩
end
end DL
namespace DR
open PySem PySem.Spec PyProof.Rows L2 DL
section
variable {δ : DSt} {Q : Bool → DSt → Prop} {E : XD}
theorem neTO {i j : Nat} {ks ls : List (List Key × DL.D)} (ei : δ[i]? = some (some (.own (.dT ks)))) (ej : δ[j]? = some (some (.own (.dT ls)))) (hs : SameT ks ls) (h : Q false δ) : DL.neTO i j δ Q E := ⟨ks, ls, ei, ej, hs, h⟩
theorem neTE {j : Nat} {t : TD} (h : t δ (fun x δ1 => ∃ ks ls, x.toD = .dT ks ∧ δ1[j]? = some (some (.own (.dT ls))) ∧ SameT ks ls ∧ Q false δ1) E) : DL.neTE j t δ Q E := h
end
end DR

set_option Elab.async false
set_option linter.all false
set_option maxRecDepth 100000
set_option maxHeartbeats 4000000
/-! DL94: an expression that walks an own dict with tuple keys: the keys are tuples of data -/
namespace DL
open PySem PySem.Spec PyProof.Rows L2
/-- the keys of the locked dict at d, each by its own address -/
def Itka (d : Addr) (o : Obj) (kvs : List (List Key × V)) : It :=
  ⟨fun i H => H d = some (.frz o (.dT kvs)) ∧ i < kvs.length, fun i H x H' => H' = H ∧ ∃ q, keyAt o i = some q ∧ x = .ref q, fun i H => H d = some (.frz o (.dT kvs)) ∧ kvs.length ≤ i⟩
/-- what is known of a locked dict with tuple keys: its object, its entries, where its keys lie -/
structure KeyA (od : Obj) (vs : List (List Key × V)) (d : Addr) (h : Heap) (H : Hp) : Prop where
  sys : (d == sysModules) = false
  obj : h.get? d = some od
  dict : od.ExactDict
  data : ∃ es ep, od.data = .dict es ep ∧ es.size = vs.length ∧ ∀ i, i < vs.length → ∃ (en : DictEntry) (q : Addr), es[i]? = some en ∧ en.key = .ref q ∧ keyAt od i = some q
  keys : KeysAt od vs H
theorem keyA_of {X : Cx} {pins : List (Addr × Obj)} {σ : L2.St} {H : Hp} {s : Shared} {d : Addr} {od : Obj} {vs : List (List Key × V)} (inv : Inv X pins σ H s) (here : H d = some (.frz od (.dT vs))) : KeyA od vs d s.heap H := by
  have z := inv.frzT here
  have key : ∀ {es : Array DictEntry} {ep : Nat} {i : Nat} {en : DictEntry} {q : Addr}, od.data = .dict es ep → es[i]? = some en → en.key = .ref q → keyAt od i = some q := fun {es ep i en q} a b e => by
    unfold keyAt
    rw [a]
    dsimp only
    rw [b]
    dsimp only
    rw [e]
  refine ⟨z.1, z.2.1, z.2.2.1, ?_, fun i k v e => ?_⟩
  · rcases z.2.2.2 with ⟨es, ep, a, b, ent⟩
    exact ⟨es, ep, a, b, fun i lt => let ⟨en, q, x, y, _⟩ := ent i vs[i].1 vs[i].2 (List.getElem?_eq_getElem lt); ⟨en, q, x, y, key a x y⟩⟩
  · rcases z.2.2.2 with ⟨es, ep, a, b, ent⟩
    exact let ⟨en, q, x, y, t⟩ := ent i k v e; ⟨q, key a x y, t⟩
theorem turn_keysA {P : Program} {w : World} {K : PySem.W.Frag} {tg : Expr} {d : Addr} {od : Obj} {es : Array DictEntry} {ep : Nat} {vs : List (List Key × V)} (j : Addr) (hod : od.data = .dict es ep) : Turn P w K tg (Itka d od vs) [j] j (fun i h => h.IsKeyIter j d i vs.length ep) :=
  have old := turn_keysT (P := P) (w := w) (K := K) (tg := tg) (d := d) (kvs := vs) j hod
  { mem := old.mem, obj := old.obj, keep := old.keep, done := old.done, self := old.self
    item := by
      rintro X rfl rfl rfl _ i pins s σ H E inv fp at0 ⟨here, lt⟩
      have ka := keyA_of inv here
      obtain ⟨es2, ep2, a, b, ent⟩ := ka.data
      cases hod.symm.trans a
      obtain ⟨en, q, x, y, kq⟩ := ent i lt
      have fj := fp j (List.mem_singleton.mpr rfl)
      refine next_key_item at0 ka.obj hod b x fun h2 at2 same => ⟨en.key, rfl, ?_⟩
      have inv2 : Inv X pins σ H { s with heap := h2 } := inv.turned (t' := s.toks) (fun _ _ n e => (same.2 _ n).trans e) fj.1 fj.2.1 fj.2.2.2.1 fj.2.2.2.2.1 fj.2.2.2.2.2
      rcases id at2 with ⟨oi, e1, e2, e3⟩
      exact go_of (s := { s with heap := h2 }) e1 e2 e3 (by decide) ⟨.ref q, H, inv2, y, ⟨rfl, q, kq, rfl⟩, at2, fun b hb => (fp b hb).1⟩ }
def iKeysA (td : TE) : TI := fun σ H R => td σ H fun x H1 => ∃ d od vs, x = .ref d ∧ H1 d = some (.frz od (.dT vs)) ∧ R (Itka d od vs) H1
theorem pi_keysA {X : Cx} {tg e : Expr} {td : TE} (he : PE X e td) : PI X tg e (iKeysA td) :=
  ⟨fun pins s σ H R inv h => thn (he.run pins s σ H _ inv h) fun u s1 ⟨x, H1, inv1, rx, d, od, vs, ex, here, q⟩ => by
    subst ex
    have eu : u = Value.ref d := rx
    subst eu
    have ka := keyA_of inv1 here
    obtain ⟨es, ep, a, b, _⟩ := ka.data
    exact iter_keys ka.sys ka.obj ka.dict a (pi_one (tk := s1.toks) inv1 _ (turn_keysA _ a) ⟨_, Heap.get?_push_size _ rfl, rfl, by rw [b] <;> rfl⟩ q)⟩
def tLockT (t : TE) : TE := fun σ H Q => ∃ d vs, H d = some (.dT vs) ∧ ∀ od, KeysAt od vs H → t σ (upd H d (.frz od (.dT vs))) fun v H' => H' d = some (.frz od (.dT vs)) ∧ Q v (upd H' d (.dT vs))
theorem pe_lockT {X : Cx} {e : Expr} {t : TE} (h : PE X e t) : PE X e (tLockT t) :=
  ⟨fun pins s σ H Q inv ⟨d, vs, hd, hw⟩ => by
    have lk := inv.lock hd trivial
    obtain ⟨od, inv1⟩ := lk
    have kk : KeysAt od vs H := fun i k v z => by
      obtain ⟨q, a, b⟩ := (keyA_of inv1 upd_same).keys i k v z
      have nq : q ≠ d := fun y => by rw [y, upd_same] at b; cases b
      exact ⟨q, a, (upd_ne nq).symm.trans b⟩
    exact thn (h.run pins s σ _ _ inv1 (hw od kk)) fun v s1 ⟨x, H1, inv2, r, here, q⟩ => ⟨x, _, inv2.unlock here (inv.nofrz hd trivial), r, q⟩⟩
/-- F, with the dict at p locked, and all tuples of the heap -/
def lkF (F H : Hp) (p : Addr) (u : HO) : Hp := fun b => if b = p then some u else match F b with
  | some o => some o
  | none => match H b with
    | some (.tup xs) => some (.tup xs)
    | _ => none
section
variable {F H : Hp} {p : Addr} {u : HO}
theorem lkF_f (n : F p = none) : Same F (lkF F H p u) := fun b o e => by
  unfold lkF
  rw [if_neg (ne_of_none e n), e]
theorem lkF_h (s : Same F H) : Same (lkF F H p u) (upd H p u) := fun b o e => by
  unfold lkF at e
  by_cases z : b = p
  · rw [if_pos z] at e; cases e; rw [z, upd_same]
  · rw [if_neg z] at e
    rw [upd_ne z]
    cases q : F b with
    | some x => rw [q] at e; cases e; exact s _ _ q
    | none =>
      rw [q] at e
      dsimp only at e
      split at e
      · rename_i xs h; cases e; exact h
      · cases e
theorem lkF_p : lkF F H p u p = some u := if_pos rfl
theorem lkF_t (s : Same F H) (nt : ∀ xs, H p ≠ some (.tup xs)) {q : Addr} {xs : List V} (h : H q = some (.tup xs)) : lkF F H p u q = some (.tup xs) := by
  unfold lkF
  rw [if_neg (fun z => by rw [z] at h; exact nt _ h)]
  cases e : F q with
  | some x => have := s _ _ e; rw [h] at this; cases this; rfl
  | none => dsimp only; rw [h]
end
section
variable {X : Cx} {c : Fc} {W : WX}
/-- while it runs, the own dict at slot j is walked; nothing else of one's own is touched; the answer has no addresses within -/
def lockOT (j : Nat) (t : TD) : TD := fun δ Q _ => ∃ kvs, δ[j]? = some (some (.own (.dT kvs))) ∧ ∀ p od vs, t (hid (δ.set j (some (.d (.lkt p od vs kvs))))) (fun x _ => PlnV x ∧ Q x δ) fun _ _ => False
theorem pd_lockOT {j : Nat} {e : Expr} {t : TD} (h : ∀ F0 H0, PE X e (LE X.K ⟨[], [], F0, H0⟩ W t)) : PE X e (LE X.K c W (lockOT j t)) := by
  have hu : PE X e fun σ H Q => ∃ F0 H0, LE X.K ⟨[], [], F0, H0⟩ W t σ H Q := ⟨fun pins s σ H Q I ⟨F0, H0, q⟩ => (h F0 H0).run pins s σ H Q I q⟩
  refine PE_imp (pe_lockT hu) fun σ H Q ⟨δ, tmp, Qd, Ed, ⟨F, ow, S⟩, ⟨kvs, ej, q⟩, k, w⟩ => ?_
  have hj : j < δ.length := (List.getElem?_eq_some_iff.mp ej).1
  obtain ⟨v, e1, p, rfl, eo, en, ew, vs, ep, r⟩ := S.sl _ _ ej
  refine ⟨p, vs, ep, fun od kk => ?_⟩
  have s1 : Same F (lkF F H p (.frz od (.dT vs))) := lkF_f en
  refine ⟨lkF F H p (.frz od (.dT vs)), upd H p (.frz od (.dT vs)), hid (δ.set j (some (.d (.lkt p od vs kvs)))), [], _, _, ⟨lkF F H p (.frz od (.dT vs)), fun _ => none, ?_⟩, q p od vs, ?_, fun x δ' σ' H' F' ow' cls d z => z.elim⟩
  · refine ⟨lkF_h S.fh, Same.refl _, fun a h => .inl h, fun a o h _ => h, fun a h => h, by unfold hid; rw [List.length_map, List.length_set]; exact S.len, fun i x hx => ?_, True.intro, fun k i p z => by cases z⟩
    obtain ⟨d, rfl, hy⟩ := hid_at hx
    by_cases z : j = i
    · subst z
      rw [List.getElem?_set_self hj] at hy
      cases hy
      exact ⟨_, e1, .lkt lkF_p (r.mono s1) (kk.mono fun q xs z => lkF_t S.fh (fun xs z => by rw [ep] at z; cases z) z)⟩
    · rw [List.getElem?_set_ne z] at hy
      obtain ⟨u, e2, ru⟩ := S.sl i _ hy
      exact ⟨u, e2, Rep.mono s1 ru⟩
  · intro v x δ' H' ⟨pl, q'⟩ ⟨F2, ow2, S2⟩
    have hd : F2 p = some (.frz od (.dT vs)) := S2.f0 p _ lkF_p
    have hh : H' p = some (.frz od (.dT vs)) := S2.fh _ _ hd
    have sh : Same H (upd H' p (.dT vs)) := fun b u e => by
      by_cases n : b = p
      · subst n; rw [ep] at e; rw [upd_same]; exact e
      · rw [upd_ne n]
        exact S2.fr b u (show upd H p (.frz od (.dT vs)) b = some u by rw [upd_ne n]; exact e) (fun z => nomatch z)
    have ext : Ext F H F (upd H' p (.dT vs)) := ⟨Same.refl _, sh, S.fh.trans sh, fun b e => .inl e⟩
    refine ⟨hh, k _ _ _ _ q' ?_⟩
    cases x with
    | d d => exact ⟨_, ow, (S.ext ext).push (Pln.rep pl S2.tm.1)⟩
    | own o =>
      obtain ⟨a, rfl, ea, na, wa, ra⟩ := S2.tm.1
      have wa : upd H p (.frz od (.dT vs)) a = none := wa.elim id fun z => nomatch z.1
      have ne : a ≠ p := fun z => by rw [z, upd_same] at wa; cases wa
      have wa : H a = none := (upd_ne ne).symm.trans wa
      have fa : F a = none := by
        cases z : F a with
        | none => rfl
        | some u => rw [S.fh _ _ z] at wa; cases wa
      have S' := (S.reown (ow' := owSet ow a (.t tmp.length)) (fun k b _ z => owSet_ne fun e => z (by rw [e]; exact wa)) (fun k b _ _ z => owSet_ne fun e => z (by rw [e]; exact wa))).ext ext
      exact ⟨_, _, { S' with tm := ⟨⟨a, rfl, owSet_at, fa, .inl (S.up _ wa), ownAt_up ne (PlnV.own (F' := F) pl ra)⟩, S'.tm⟩ }⟩
where
  ownAt_up {K : PySem.W.Frag} {F H : Hp} {a p : Addr} {u : HO} {o : OC} (ne : a ≠ p) (q : OwnRep K F H a o) : OwnRep K F (upd H p u) a o := by
    have e : upd H p u a = H a := upd_ne ne
    cases o with
    | lst ds => obtain ⟨vs, z, r⟩ := q; exact ⟨vs, e.trans z, r⟩
    | ins C fs => obtain ⟨dx, vs, z, r⟩ := q; exact ⟨dx, vs, e.trans z, r⟩
    | dT kvs => obtain ⟨vs, z, r⟩ := q; exact ⟨vs, e.trans z, r⟩
    | dK kvs => obtain ⟨vs, z, r⟩ := q; exact ⟨vs, e.trans z, r⟩
    | tab P r => obtain ⟨b, vs, z, r⟩ := q; exact ⟨b, vs, e.trans z, r⟩
/-! ### walked -/
def keysTD (kvs : List (List Key × D)) : List D := kvs.map fun kv => keyD kv.1
theorem repT_at {K : PySem.W.Frag} {F : Hp} : ∀ {vs : List (List Key × V)} {ds : List (List Key × D)}, RepT K F vs ds → vs.map (·.1) = ds.map (·.1)
  | _, _, .nil => rfl
  | _, _, .cons h t => by rw [List.map_cons, List.map_cons, repT_at t]
theorem keysT_at {vs : List (List Key × V)} {ds : List (List Key × D)} (e : vs.map (·.1) = ds.map (·.1)) {i : Nat} {d : D} (h : (keysTD ds)[i]? = some d) : ∃ k v, vs[i]? = some (k, v) ∧ d = keyD k ∧ ∃ x, (k, x) ∈ ds := by
  unfold keysTD at h
  rw [List.getElem?_map] at h
  cases q : ds[i]? with
  | none => rw [q] at h; cases h
  | some kd =>
    rw [q] at h
    cases h
    have e1 : (vs.map (·.1))[i]? = (ds.map (·.1))[i]? := by rw [e]
    rw [List.getElem?_map, List.getElem?_map, q] at e1
    cases z : vs[i]? with
    | none => rw [z] at e1; cases e1
    | some kv =>
      rw [z] at e1
      have e2 : kv.1 = kd.1 := Option.some.inj e1
      exact ⟨kv.1, kv.2, rfl, by rw [e2], kd.2, by rw [e2]; exact List.mem_of_getElem? q⟩
theorem rep_keyL {K : PySem.W.Frag} {F : Hp} : ∀ {ks : List Key}, (∀ k ∈ ks, okK k) → RepL K F (ks.map kV) (ks.map fun | .inl i => .int i | .inr x => .str x)
  | [], _ => .nil
  | .inl i :: ks, h => .cons (.int i) (rep_keyL fun k hk => h k (List.mem_cons_of_mem _ hk))
  | .inr x :: ks, h => .cons (.str (h (.inr x) List.mem_cons_self)) (rep_keyL fun k hk => h k (List.mem_cons_of_mem _ hk))
theorem serve_lkt {K : PySem.W.Frag} {p : Addr} {od : Obj} {vs : List (List Key × V)} {ds : List (List Key × D)} (el : vs.map (·.1) = ds.map (·.1)) (hk : ∀ kv ∈ ds, ∀ k ∈ kv.1, okK k) : Serve K (Itka p od vs) (.ref p) (.lkt p od vs ds) (keysTD ds) := by
  have ll : vs.length = (keysTD ds).length := by
    have := congrArg List.length el
    rw [List.length_map, List.length_map] at this
    unfold keysTD
    rw [List.length_map]
    exact this
  refine ⟨fun i F H s r hi => ?_, fun i F H s r hi => ?_, fun i F H x H' s r y d hd => ?_⟩
  · cases r with | lkt q _ _ => exact ⟨s _ _ q, by rw [ll]; exact hi⟩
  · cases r with | lkt q _ _ => exact ⟨s _ _ q, by rw [ll]; exact hi⟩
  · cases r with
    | lkt q _ kk =>
      obtain ⟨rfl, a, e1, rfl⟩ := y
      obtain ⟨k, v, e2, rfl, z, hm⟩ := keysT_at el hd
      obtain ⟨b, e3, e4⟩ := kk i k v e2
      rw [e1] at e3
      cases e3
      exact ⟨F, Ext.refl s, .tup e4 (rep_keyL (hk _ hm))⟩
def lkTI (t : TD) : TDI := fun δ Q E => t δ (fun x δ1 => ∃ p od vs kvs, x.toD = .lkt p od vs kvs ∧ (∀ kv ∈ kvs, ∀ k ∈ kv.1, okK k) ∧ Q (keysTD kvs) δ1) E
theorem pid_lkt {tg e : Expr} {t : TD} (he : PE X e (LE X.K c W t)) : PI X tg e (LI X.K c W (lkTI t)) :=
  PI_imp (pi_keysA he) fun σ H R ⟨δ, tmp, Qd, Ed, S, q, k, w⟩ => ⟨δ, tmp, _, _, S, q, fun v x δ' H' ⟨p, od, vs, kvs, e, hk, q'⟩ ⟨F, ow, S'⟩ => by
    obtain ⟨F2, S2, _⟩ := S'.top_frz
    rw [e] at S2
    have r0 := S2.top
    cases r0 with
    | lkt s r kk => exact ⟨p, od, _, rfl, S2.fh _ _ s, k _ _ _ _ _ _ q' (serve_lkt (repT_at r) hk) ⟨F2, ow, S2⟩⟩, w⟩
/-- a locked dict read as any other -/
def asT (t : TD) : TD := fun δ Q E => t δ (fun x δ1 => ∃ p od vs kvs, x.toD = .lkt p od vs kvs ∧ Q (.d (.dT kvs)) δ1) E
theorem pd_asT {e : Expr} {t : TD} (he : PE X e (LE X.K c W t)) : PE X e (LE X.K c W (asT t)) :=
  PE_imp he fun σ H Q ⟨δ, tmp, Qd, Ed, S, q, k, w⟩ => ⟨δ, tmp, _, Ed, S, q, fun v x δ' H' ⟨p, od, vs, kvs, e, q'⟩ ⟨F, ow, S'⟩ => by
    obtain ⟨F2, S2, _⟩ := S'.top_frz
    rw [e] at S2
    have r0 := S2.top
    cases r0 with
    | lkt s r kk => exact k _ _ _ _ q' ⟨F2, ow, S2.pop.push (.dT (.inr ⟨_, s⟩) r)⟩, w⟩
end
end DL
namespace DR
open PySem PySem.Spec PyProof.Rows L2 DL
variable {δ : DSt} {Q : DK} {E : XD}
theorem lockOT {j : Nat} {t : TD} {kvs : List (List Key × DL.D)} (e : δ[j]? = some (some (.own (.dT kvs)))) (h : ∀ p od vs, t (hid (δ.set j (some (.d (.lkt p od vs kvs))))) (fun x _ => PlnV x ∧ Q x δ) fun _ _ => False) : DL.lockOT j t δ Q E := ⟨kvs, e, h⟩
theorem lkTI {t : TD} {Q : List DL.D → DSt → Prop} (h : t δ (fun x δ1 => ∃ p od vs kvs, x.toD = .lkt p od vs kvs ∧ (∀ kv ∈ kvs, ∀ k ∈ kv.1, okK k) ∧ Q (keysTD kvs) δ1) E) : DL.lkTI t δ Q E := h
theorem asT {t : TD} (h : t δ (fun x δ1 => ∃ p od vs kvs, x.toD = .lkt p od vs kvs ∧ Q (.d (.dT kvs)) δ1) E) : DL.asT t δ Q E := h
end DR

set_option Elab.async false
set_option linter.all false
set_option maxRecDepth 100000
set_option maxHeartbeats 4000000
/-! DL95: cells: an expression seen through them, x.append(e) of an alias, two names set at once, a loop over an alias, a class called with two arguments -/
namespace DL
open PySem PySem.Spec PyProof.Rows L2
section
variable {X : Cx} {c : Fc} {W : WX}
/-- an answer that holds no list of another -/
def noLV : DV → Prop
  | .d z => z.noL = true
  | .own (.lst ds) => noLL ds = true
  | _ => False
/-- an expression while all is seen through the cells -/
def viewEA (K : PySem.W.Frag) (t : TD) : TDc := fun δ cs Q _ => ∃ δ', (∀ a o', (a, o') ∈ cs → IsLst o') ∧ FillS K cs δ δ' ∧ t δ' (fun x _ => noLV x ∧ Q x δ cs) (fun _ _ => False)
theorem pec_viewA {K : PySem.W.Frag} {e : Expr} {t : TD} (h : ∀ F0 H0, PE X e (LE X.K ⟨[], [], F0, H0⟩ W t)) (hK : X.K = K := by rfl) : PE X e (LEc X.K c W (viewEA K t)) := by
  subst hK
  have hu : PE X e fun σ H Q => ∃ F0 H0, LE X.K ⟨[], [], F0, H0⟩ W t σ H Q := ⟨fun pins s σ H Q I ⟨F0, H0, q⟩ => (h F0 H0).run pins s σ H Q I q⟩
  refine PE_imp hu fun σ H Q ⟨δ, cs, pre, tmp, Qd, Ed, ⟨F, ow, S⟩, ⟨δ', lc, hf, q⟩, k, w⟩ => ?_
  obtain ⟨L, F1, s1, s2, hL, f2, hc⟩ := regionA S lc
  refine ⟨F1, H, δ', [], _, _, ⟨F1, _, regionA_in S s1 s2 hc hf⟩, q, ?_, fun x δ' σ' H' F' ow' cls d z => z.elim⟩
  rintro u x δ2 H' ⟨nl, q'⟩ ⟨F2, ow2, S2⟩
  obtain ⟨F'', ext, dr, fn⟩ := region_out s1 hL f2 S2
  cases x with
  | d z => exact k _ _ _ _ _ q' ⟨F'', ow, (S.ext ext).push (Rep.dropL dr S2.top nl)⟩
  | own o =>
    cases o with
    | lst ds =>
      obtain ⟨a, rfl, ea, na, wa, vs, ep, rv⟩ := S2.tm.1
      have wa : H a = none := wa.elim id fun z => nomatch z.1
      have fa : F'' a = none := fn a na
      have S' := (S.reown (ow' := owSet ow a (.t (pre ++ (stk cs ++ tmp)).length)) (fun k b _ z => owSet_ne fun e => z (by rw [e]; exact wa)) (fun k b _ _ z => owSet_ne fun e => z (by rw [e]; exact wa))).ext ext
      exact k _ _ _ _ _ q' ⟨F'', _, { S' with tm := ⟨⟨a, rfl, owSet_at, fa, .inl (S.up _ wa), vs, ep, RepL.dropL dr rv nl⟩, S'.tm⟩ }⟩
    | _ => exact nl.elim
theorem cell_lst {K : PySem.W.Frag} {F H : Hp} {ow : Addr → Option Hold} {δ : DSt} {σ : L2.St} {cs : Cells} {pre tmp : List (V × DV)} {a : Addr} {ds : List D} (S : SttF K c F ow δ (pre ++ (stk cs ++ tmp)) σ H) (h : (a, OC.lst ds) ∈ cs) : ∃ vs, H a = some (.lst vs) ∧ RepL K F vs ds := by
  obtain ⟨kk, _, p', e0, _, b, _, vs, ep, rl⟩ := RepTmp.own S.tm (List.mem_append_right pre (List.mem_append_left tmp (List.mem_map.mpr ⟨(a, OC.lst ds), h, rfl⟩)))
  cases e0
  exact ⟨vs, ep, rl⟩
/-- x.append(e), x an alias of a list -/
def appC (i : Nat) (te : TDc) : TDSc := fun D δ cs => (∃ a ds, δ[i]? = some (some (.d (.adr a))) ∧ (a, OC.lst ds) ∈ cs) ∧
  te δ cs (fun v δ1 cs1 => ∃ n a ds, δ1[i]? = some (some (.d (.adr a))) ∧ cs1[n]? = some (a, OC.lst ds) ∧ ds.length < sizeLine ∧ D.nx δ1 (cs1.set n (a, OC.lst (ds ++ [v.toD])))) D.ex
theorem psc_app {i : Nat} {x : Str} {e : Expr} {te : TDc} {pos p2 p3 spos : Pos} (h : ∀ {to : TE} {t : TA}, PE X (.Name x p3) to → PA X [e] t → PE X (.Call (.Attribute (.Name x p3) "append" p2) [e] [] pos) (tBM X.K "list" rAppend to t))
    (hv : PE X (.Name x p3) (tVar i)) (he : PE X e (LEc X.K c W te)) (ha : starEach [e] X.env = (false, eval e X.env) :: starEach [] X.env := by rfl) (hs : swapsWith (.Call (.Attribute (.Name x p3) "append" p2) [e] [] pos) none spos.line X.env = pure false := by rfl) :
    PS X (.Expr (.Call (.Attribute (.Name x p3) "append" p2) [e] [] pos) spos) (LSc X.K c W (appC i te)) :=
  PS_imp (ps_expr (h hv (pa_cons he pa_nil ha)) hs) fun D σ H ⟨δ, cs, pre, tmp, Dd, ⟨F, ow, S⟩, ⟨⟨a0, ds0, ei0, hm0⟩, q⟩, k, kr, kb, kc, w⟩ => by
    obtain ⟨v, e1, r0⟩ := S.sl _ _ ei0
    cases (show Rep X.K F v (.adr a0) from r0)
    obtain ⟨vs0, ep0, _⟩ := cell_lst S hm0
    refine ⟨_, e1, .inl ⟨rfl, vs0, SqL.of ep0⟩, δ, cs, pre, tmp, _, _, ⟨F, ow, S⟩, q, fun u y δ1 cs1 H1 ⟨n, a, ds, ei, en, hz, q1⟩ ⟨F1, ow1, S1⟩ => ?_, w⟩
    obtain ⟨F2, S2, _⟩ := S1.top_frz
    obtain ⟨v', e2, r2⟩ := S2.sl _ _ ei
    rw [e1] at e2
    cases e2
    cases (show Rep X.K F2 _ (.adr a) from r2)
    have ry : Rep X.K F2 u y.toD := S2.top
    have S3 := S2.pop
    obtain ⟨l, r, e3, e4⟩ := cells_at en
    have es : pre ++ (stk cs1 ++ tmp) = (pre ++ stk l) ++ (V.ref a0, .own (.lst ds)) :: (stk r ++ tmp) := by rw [e3]; simp [stk]
    rw [es] at S3
    obtain ⟨p', e0, _, _, _, vs, ep, rk⟩ := S3.tm.mid
    cases e0
    refine ⟨a0, vs, u, rfl, rfl, ep, by rw [rk.len]; exact hz, k _ _ _ _ q1 ⟨F2, ow1, ?_⟩⟩
    have S4 := S3.writeC (o' := .lst (ds ++ [y.toD])) (ob := .lst _) ⟨_, upd_same, rk.app (.cons ry .nil)⟩
    rw [e4]
    have es' : pre ++ (stk (l ++ (a0, OC.lst (ds ++ [y.toD])) :: r) ++ tmp) = (pre ++ stk l) ++ (V.ref a0, .own (.lst (ds ++ [y.toD]))) :: (stk r ++ tmp) := by simp [stk]
    rw [es']
    exact S4
/-- x, y = e, f -/
def par2C (i j : Nat) (oi oj : Bool) (t u : TDc) : TDSc := fun D δ cs => t δ cs (fun x δ1 cs1 => u δ1 cs1 (fun y δ2 cs2 => D.nx ((δ2.set j (some (asD oj y))).set i (some (asD oi x))) cs2) D.ex) D.ex
theorem psc_par2 {i j : Nat} {oi oj : Bool} {x y : Str} {a b : Expr} {t u : TDc} {px py pt pos : Pos} {kt k2 pt2} (ha : PE X a (LEc X.K c W t)) (hb : PE X b (LEc X.K c W u)) (ni : i ∉ c.sl) (nj : j ∉ c.sl) (h : ∀ {ta : TA}, PA X [a, b] ta → PS X (.Assign [.Tuple [.Name x px, .Name y py] k2 pt2] (.Tuple [a, b] kt pt) pos) (tPar i j ta)) (hij : i ≠ j)
    (h1 : starEach [a, b] X.env = (false, eval a X.env) :: starEach [b] X.env := by rfl) (h2 : starEach [b] X.env = (false, eval b X.env) :: starEach [] X.env := by rfl) :
    PS X (.Assign [.Tuple [.Name x px, .Name y py] k2 pt2] (.Tuple [a, b] kt pt) pos) (LSc X.K c W (par2C i j oi oj t u)) :=
  PS_imp (h (pa_cons ha (pa_cons hb pa_nil h2) h1)) fun D σ H ⟨δ, cs, pre, tmp, Dd, S, q, k, kr, kb, kc, w⟩ => ⟨δ, cs, pre, tmp, _, _, S, q, fun v x δ1 cs1 H1 q1 S1 => ⟨δ1, cs1, (v, x) :: pre, tmp, _, _, S1, q1, fun u y δ2 cs2 H2 q2 ⟨F, ow, S'⟩ => by
    have S2 : SttF X.K c F ow δ2 ((u, y) :: (v, x) :: (pre ++ (stk cs2 ++ tmp))) σ H2 := S'
    obtain ⟨F3, S3⟩ := S2.top_as oj
    obtain ⟨F4, ow4, S4⟩ := S3.set' nj
    obtain ⟨F5, S5⟩ := S4.top_as oi
    refine ⟨v, u, rfl, k _ _ _ _ q2 ?_⟩
    rw [List.set_comm _ _ hij]
    exact S5.set' ni, w⟩, w⟩
/-- for .. in x, x an alias of a list that stays as it is -/
def forDA (g : TDG) (tb : TDSc) (D : EndsC) (a : Addr) (ds : List DL.D) : List DL.D → DSt → Cells → Prop
  | [], δ, cs => D.nx δ cs
  | x :: xs, δ, cs => g x δ fun δ1 => tb { nx := fun δ cs => (a, OC.lst ds) ∈ cs ∧ forDA g tb D a ds xs δ cs, ct := fun δ cs => (a, OC.lst ds) ∈ cs ∧ forDA g tb D a ds xs δ cs, bk := D.nx, ex := D.ex, rt := fun x δ cs => ∃ y, x = .d y ∧ D.rt (.d y) δ cs } δ1 cs
def forCA (i : Nat) (g : TDG) (tb : TDSc) : TDSc := fun D δ cs => ∃ a ds, δ[i]? = some (some (.d (.adr a))) ∧ (a, OC.lst ds) ∈ cs ∧ forDA g tb D a ds ds δ cs
theorem psc_forA {i : Nat} {x : Str} {tg : Expr} {body : List Stmt} {g : TDG} {tb : TDSc} {px pos : Pos} (hp : PassesOwn (model X.prog X.w) X.A X.env X.xe) (hc : X.calm = true) (hv : PE X (.Name x px) (tVar i)) {vs : List Nat} (hg : PG X tg (LG X.K c vs g)) (hb : PSs X body (LSc X.K c W tb))
    (hs : ∀ v, foldedSetIterable (.Name x px) X.env v = pure v := by intro _; rfl) : PS X (.For tg (.Name x px) body [] pos) (LSc X.K c W (forCA i g tb)) :=
  PS_imp (ps_for hp hc (pi_list hv) hg hb hs) fun D σ H ⟨δ, cs, pre, tmp, Dd, ⟨F, ow, S⟩, ⟨a, ds, ei, hm, q⟩, k, kr, kb, kc, w⟩ => by
    obtain ⟨v, e1, r0⟩ := S.sl _ _ ei
    cases (show Rep X.K F v (.adr a) from r0)
    obtain ⟨vs0, ep0, _⟩ := cell_lst S hm
    refine ⟨_, e1, a, rfl, ⟨vs0, SqL.of ep0⟩, ?_⟩
    refine ⟨fun i m σ H => m = ds.length - i ∧ i ≤ ds.length ∧ ∃ δ cs, Stt X.K c δ (pre ++ (stk cs ++ tmp)) σ H ∧ (a, OC.lst ds) ∈ cs ∧ forDA g tb Dd a ds (ds.drop i) δ cs, ⟨ds.length, by simp, Nat.zero_le _, δ, cs, ⟨F, ow, S⟩, hm, q⟩, ?_⟩
    rintro i m σ2 H2 ⟨rfl, hi, δ2, cs2, ⟨F2, ow2, S2⟩, hm2, q2⟩
    obtain ⟨vs2, ep2, rl2⟩ := cell_lst S2 hm2
    by_cases hlt : i < ds.length
    · obtain ⟨u, eu, ru⟩ := rl2.get (List.getElem?_eq_getElem hlt)
      refine .inr ⟨⟨vs2, u, SqL.of ep2, eu⟩, fun σ H => i + 1 ≤ ds.length ∧ ∃ δ cs, Stt X.K c δ (pre ++ (stk cs ++ tmp)) σ H ∧ (a, OC.lst ds) ∈ cs ∧ forDA g tb Dd a ds (ds.drop (i + 1)) δ cs, fun σ' H' h => ⟨ds.length - (i + 1), by omega, rfl, h⟩, fun x H' y => ?_⟩
      obtain ⟨rfl, y⟩ := y
      have ex := y vs2 (SqL.of ep2)
      rw [eu] at ex
      cases ex
      rw [List.drop_eq_getElem_cons hlt] at q2
      exact ⟨δ2, (pre ++ (stk cs2 ++ tmp)), _, _, ⟨F2, ow2, S2.push ru⟩, q2, fun δ4 σ4 H4 q4 S4 _ => ⟨δ4, cs2, pre, tmp, _, S4, q4, fun δ5 cs5 σ5 H5 ⟨m5, q5⟩ S5 => ⟨hlt, δ5, cs5, S5, m5, q5⟩, fun u z δ5 cs5 σ5 H5 ⟨y, ez, q5⟩ ⟨F5, ow5, S5⟩ => by
        subst ez
        have ry : Rep X.K F5 u y := S5.tm.1
        exact kr u (.d y) δ5 cs5 σ5 H5 q5 ⟨F5, ow5, S5.pop.push ry⟩, fun δ5 cs5 σ5 H5 q5 ⟨F5, ow5, S5⟩ => k δ5 cs5 σ5 H5 q5 ⟨F5, ow5, S5⟩, fun δ5 cs5 σ5 H5 ⟨m5, q5⟩ S5 => ⟨hlt, δ5, cs5, S5, m5, q5⟩, w⟩⟩
    · have e : i = ds.length := by omega
      subst e
      rw [List.drop_length] at q2
      exact .inl ⟨⟨vs2, SqL.of ep2, by rw [rl2.len]; exact Nat.le_refl _⟩, k _ _ _ _ q2 ⟨F2, ow2, S2⟩⟩
/-- C(e, f), both seen through the cells; the new object holds no list -/
def newV2 (K : PySem.W.Frag) (C : Addr) (dd : List D) (sd : SpD) (t u : TDc) : TDc := fun δ cs Q E => t δ cs (fun x δ1 cs1 => u δ1 cs1 (fun x2 δ2 cs2 => ∃ a y a2 y2, x = .d a ∧ x2 = .d a2 ∧ (∀ a o', (a, o') ∈ cs2 → IsLst o') ∧ Fill K cs2 a y ∧ Fill K cs2 a2 y2 ∧
  sd (.own (.ins C []) :: ([y, y2] ++ [] ++ dd).map .d) (fun r os => r = .d .non ∧ ∃ fs os', os = .ins C fs :: os' ∧ ((D.obj C fs).noL = true ∧ Q (.d (.obj C fs)) δ2 cs2)) (fun _ os => ∃ o os', os = o :: os' ∧ False)) E) E
theorem pec_newV2 {K : PySem.W.Frag} {k : Nat} {f C : Addr} {fd : FuncData} {ps : List Str} {sd : SpD} {x : Str} {p pos : Pos} {e e2 : Expr} {t u : TDc} {gU : List Value → List Value → List Value} {gV : List V → List V → List V} {dv : List V} {dd : List D} (M : Mk X.K C f) (G : FnOk X.prog X.w X.K X.mg X.base (L2.CX X.prog X.w) k f fd ps (spOf X.K sd)) (hr : Room (k + 1) X.A) (hg : Gl X x) (hm : X.mg x = some (.ref C)) (kb : KBn X.K fd ps 3 [] gU gV) (hd : ∀ F, RepL X.K F dv dd) (hv : ∀ v vs zs, gV (v :: vs) zs = v :: (vs ++ zs ++ dv)) (tk0 : Takes X W)
    (ha : PE X e (LEc X.K c W t)) (hb : PE X e2 (LEc X.K c W u)) (hK : X.K = K := by rfl)
    (hall : (backToKw pos (keywordEach [] X.env)).all (·.1.isSome) = true := by rfl) (hks : (backToKw pos (keywordEach [] X.env)).filterMap (·.1) = [] := by rfl) (hdb : (x == ("__debug__" : Str)) = false := by decide)
    (he : starEach [e, e2] X.env = (false, eval e X.env) :: starEach [e2] X.env := by rfl) (he2 : starEach [e2] X.env = (false, eval e2 X.env) :: starEach [] X.env := by rfl) (hpl : ((backTo pos (starEach [e, e2] X.env)).any (·.1) || (backToKw pos (keywordEach [] X.env)).any (·.1.isNone)) = false := by rfl) :
    PE X (.Call (.Name x p) [e, e2] [] pos) (LEc X.K c W (newV2 K C dd sd t u)) := by
  subst hK
  refine PE_imp (pe_newK (E := WE W) M G hr hg hm kb (fun τ => passAt tk0 τ) (pa_cons ha (pa_cons hb pa_nil he2) he) pk_nil hall hks hdb he hpl) fun σ H Q ⟨δ, cs, pre, tmp, Qd, Ed, S, q, kk, w⟩ => ?_
  refine ⟨δ, cs, pre, tmp, _, Ed, S, q, fun v z δ1 cs1 H1 q1 S1 => ⟨δ1, cs1, (v, z) :: pre, tmp, _, Ed, S1, q1, fun v2 z2 δ2 cs2 H2 ⟨a, y, a2, y2, ez, ez2, lc, hf, hf2, sp⟩ ⟨F, ow, S2⟩ => ?_, w⟩, w⟩
  subst ez ez2
  show ([v, v2] : List V).length = 2 ∧ ([] : List V).length = 0 ∧ _
  refine ⟨rfl, rfl, fun o dx no ndx ne => ?_⟩
  rw [hv]
  have S2' : SttF X.K c F ow δ2 ((v2, .d a2) :: (v, .d a) :: (pre ++ (stk cs2 ++ tmp))) σ H2 := S2
  have ra2 : Rep X.K F v2 a2 := S2'.tm.1
  have ra : Rep X.K F v a := S2'.tm.2.1
  have S0 := S2'.pop.pop
  obtain ⟨L, F1, s1, s2, hL, f2, hc⟩ := regionA S0 lc
  have ry : Rep X.K F1 v y := hf F1 v hc (Rep.mono s1 ra)
  have ry2 : Rep X.K F1 v2 y2 := hf2 F1 v2 hc (Rep.mono s1 ra2)
  have Sr := regionA_in S0 s1 s2 hc (FillS.hid (K := X.K) (cs := cs2) (δ := δ2))
  have rall : RepL X.K F1 ([v, v2] ++ [] ++ dv) ([y, y2] ++ [] ++ dd) := by
    have hdd := hd F1
    simpa using RepL.cons ry (RepL.cons ry2 hdd)
  refine lift_make (as := ([y, y2] ++ [] ++ dd).map .d) (xs := ([y, y2] ++ [] ++ dd).map .d) (Qd := fun r _ => match r with | .d o => o.noL = true ∧ Qd (.d o) δ2 cs2 | .own _ => False) (Ed := fun _ _ => False) Sr rall.avs argsOf_d (by rw [slots_d]; exact .nil) sp ?_ (fun x δ' σ' H' F' ow' cls d z => z.elim) o dx no ndx ne
  rintro u r δ' H' q' ⟨F2, ow2, S2⟩
  cases r with
  | own _ => exact q'.elim
  | d o =>
    obtain ⟨F'', ext, dr, _⟩ := region_out s1 hL f2 S2
    exact kk _ _ _ _ _ q'.2 ⟨F'', ow, (S0.ext ext).push (Rep.dropL dr S2.top q'.1)⟩
end
end DL
namespace DR
open PySem PySem.Spec PyProof.Rows L2 DL
section
variable {δ : DSt} {cs : Cells} {Q : DV → DSt → Cells → Prop} {E : XD} {D : EndsC} {K : PySem.W.Frag}
theorem viewEA {t : TD} {δ' : DSt} (lc : ∀ a o', (a, o') ∈ cs → IsLst o') (hf : FillS K cs δ δ') (h : t δ' (fun x _ => noLV x ∧ Q x δ cs) (fun _ _ => False)) : DL.viewEA K t δ cs Q E := ⟨δ', lc, hf, h⟩
theorem appC {i : Nat} {te : TDc} {a : Addr} {ds : List DL.D} (ei : δ[i]? = some (some (.d (.adr a)))) (hm : (a, OC.lst ds) ∈ cs) (h : te δ cs (fun v δ1 cs1 => ∃ n a ds, δ1[i]? = some (some (.d (.adr a))) ∧ cs1[n]? = some (a, OC.lst ds) ∧ ds.length < sizeLine ∧ D.nx δ1 (cs1.set n (a, OC.lst (ds ++ [v.toD])))) D.ex) : DL.appC i te D δ cs := ⟨⟨a, ds, ei, hm⟩, h⟩
theorem par2C {i j : Nat} {oi oj : Bool} {t u : TDc} (h : t δ cs (fun x δ1 cs1 => u δ1 cs1 (fun y δ2 cs2 => D.nx ((δ2.set j (some (asD oj y))).set i (some (asD oi x))) cs2) D.ex) D.ex) : DL.par2C i j oi oj t u D δ cs := h
theorem forCA {i : Nat} {g : TDG} {tb : TDSc} {a : Addr} {ds : List DL.D} (ei : δ[i]? = some (some (.d (.adr a)))) (hm : (a, OC.lst ds) ∈ cs) (h : forDA g tb D a ds ds δ cs) : DL.forCA i g tb D δ cs := ⟨a, ds, ei, hm, h⟩
theorem forA_inv {g : TDG} {tb : TDSc} {D : EndsC} {a : Addr} {xs : List DL.D} {δ : DSt} {cs : Cells} (I : Nat → DSt → Cells → Prop) (h0 : I 0 δ cs)
    (hs : ∀ i x δ cs (N : DSt → Cells → Prop), xs[i]? = some x → I i δ cs → (∀ δ' cs', (a, OC.lst xs) ∈ cs' → I (i + 1) δ' cs' → N δ' cs') → g x δ (fun δ1 => tb { nx := N, ct := N, bk := D.nx, ex := D.ex, rt := fun x δ cs => ∃ y, x = .d y ∧ D.rt (.d y) δ cs } δ1 cs))
    (hn : ∀ δ cs, I xs.length δ cs → D.nx δ cs) : forDA g tb D a xs xs δ cs := by
  have go : ∀ (m i : Nat) δ cs, i + m = xs.length → I i δ cs → forDA g tb D a xs (xs.drop i) δ cs := fun m => by
    induction m with
    | zero =>
      intro i δ cs e h
      have e : i = xs.length := e
      subst e
      rw [List.drop_length]
      exact hn δ cs h
    | succ m ih =>
      intro i δ cs e h
      have hl : i < xs.length := by omega
      rw [List.drop_eq_getElem_cons hl]
      exact hs i _ δ cs _ (List.getElem?_eq_getElem hl) h fun δ' cs' hm h' => ⟨hm, ih (i + 1) δ' cs' (by omega) h'⟩
  have := go xs.length 0 δ cs (Nat.zero_add _) h0
  rwa [List.drop_zero] at this
theorem newV2 {C : Addr} {dd : List DL.D} {sd : SpD} {t u : TDc} (h : t δ cs (fun x δ1 cs1 => u δ1 cs1 (fun x2 δ2 cs2 => ∃ a y a2 y2, x = .d a ∧ x2 = .d a2 ∧ (∀ a o', (a, o') ∈ cs2 → IsLst o') ∧ Fill K cs2 a y ∧ Fill K cs2 a2 y2 ∧
  sd (.own (.ins C []) :: ([y, y2] ++ [] ++ dd).map .d) (fun r os => r = .d .non ∧ ∃ fs os', os = .ins C fs :: os' ∧ ((DL.D.obj C fs).noL = true ∧ Q (.d (.obj C fs)) δ2 cs2)) (fun _ os => ∃ o os', os = o :: os' ∧ False)) E) E) : DL.newV2 K C dd sd t u δ cs Q E := h
end
end DR

set_option Elab.async false
set_option linter.all false
/-! least sums of chains -/
namespace Dst
section
variable {N : Type} [DecidableEq N]
abbrev Row (N : Type) := N × N × Int
/-- chains of at most n rows -/
inductive Walk (rs : List (Row N)) : Nat → N → N → Int → Prop
  | nil {n : Nat} {a : N} : Walk rs n a a 0
  | cons {n : Nat} {a c b : N} {m s : Int} (h : (a, c, m) ∈ rs) (t : Walk rs n c b s) : Walk rs (n + 1) a b (m + s)
def leO (o : Option Int) (s : Int) : Prop := ∃ t, o = some t ∧ t ≤ s
theorem leO.le {o : Option Int} {s s' : Int} (h : leO o s) (l : s ≤ s') : leO o s' := let ⟨t, e, q⟩ := h; ⟨t, e, Int.le_trans q l⟩
theorem Walk.more {rs : List (Row N)} {n : Nat} {a b : N} {s : Int} (h : Walk rs n a b s) : ∀ {k : Nat}, n ≤ k → Walk rs k a b s := by
  induction h with
  | nil => exact fun _ => .nil
  | cons h t ih =>
    intro k hk
    cases k with
    | zero => omega
    | succ k => exact .cons h (ih (by omega))
theorem Walk.mono {rs rs' : List (Row N)} {n : Nat} {a b : N} {s : Int} (h : Walk rs n a b s) (i : ∀ r ∈ rs, r ∈ rs') : Walk rs' n a b s := by
  induction h with
  | nil => exact .nil
  | cons h t ih => exact .cons (i _ h) ih
theorem Walk.app {rs : List (Row N)} {n k : Nat} {a b c : N} {s t : Int} (h : Walk rs n a b s) (g : Walk rs k b c t) : Walk rs (n + k) a c (s + t) := by
  induction h with
  | nil => rw [Int.zero_add]; exact g.more (by omega)
  | @cons n a d b m s h t' ih => rw [Int.add_assoc, Nat.add_right_comm]; exact .cons h (ih g)
/-- chains by their names -/
inductive Path (rs : List (Row N)) : List N → Int → Prop
  | one {a : N} : Path rs [a] 0
  | cons {a c : N} {m s : Int} {p : List N} (h : (a, c, m) ∈ rs) (t : Path rs (c :: p) s) : Path rs (a :: c :: p) (m + s)
theorem Path.walk {rs : List (Row N)} {q : List N} {s : Int} (h : Path rs q s) : ∀ {a b : N} {p : List N}, q = a :: p → q.getLast? = some b → Walk rs p.length a b s := by
  induction h with
  | one => intro a b p e l; cases e; cases l; exact .nil
  | cons h t ih =>
    intro a b p e l
    cases e
    rw [List.getLast?_cons_cons] at l
    exact .cons h (ih rfl l)
/-- the rest of a chain from one of its names on -/
theorem Path.from {rs : List (Row N)} (nn : ∀ r ∈ rs, 0 ≤ r.2.2) {q : List N} {s : Int} (h : Path rs q s) : ∀ {a : N}, a ∈ q → ∃ p s', Path rs (a :: p) s' ∧ s' ≤ s ∧ (a :: p).getLast? = q.getLast? ∧ (a :: p).Sublist q := by
  induction h with
  | @one b => intro a ha; cases List.mem_singleton.mp ha; exact ⟨[], 0, .one, Int.le_refl _, rfl, List.Sublist.refl _⟩
  | @cons b c m s p h t ih =>
    intro a ha
    by_cases e : a = b
    · subst e; exact ⟨c :: p, m + s, .cons h t, Int.le_refl _, rfl, List.Sublist.refl _⟩
    · obtain ⟨p', s', h1, h2, h3, h4⟩ := ih ((List.mem_cons.mp ha).resolve_left e)
      have : 0 ≤ m := nn _ h
      exact ⟨p', s', h1, by omega, by rw [List.getLast?_cons_cons]; exact h3, h4.cons _⟩
theorem Walk.path {rs : List (Row N)} (nn : ∀ r ∈ rs, 0 ≤ r.2.2) {n : Nat} {a b : N} {s : Int} (h : Walk rs n a b s) : ∃ p s', Path rs (a :: p) s' ∧ s' ≤ s ∧ (a :: p).getLast? = some b ∧ (a :: p).Nodup := by
  induction h with
  | @nil n a => exact ⟨[], 0, .one, Int.le_refl _, rfl, List.nodup_cons.mpr ⟨(fun h => nomatch h), .nil⟩⟩
  | @cons n a c b m s h t ih =>
    obtain ⟨p, s', h1, h2, h3, h4⟩ := ih
    have m0 : 0 ≤ m := nn _ h
    by_cases e : a ∈ c :: p
    · obtain ⟨p', s2, g1, g2, g3, g4⟩ := h1.from nn e
      exact ⟨p', s2, g1, by omega, g3.trans h3, h4.sublist g4⟩
    · exact ⟨c :: p, m + s', .cons h h1, by omega, by rw [List.getLast?_cons_cons]; exact h3, List.nodup_cons.mpr ⟨e, h4⟩⟩
theorem nodup_len : ∀ {l k : List N}, l.Nodup → (∀ a ∈ l, a ∈ k) → l.length ≤ k.length
  | [], _, _, _ => Nat.zero_le _
  | a :: l, k, h, i => by
    have ha := i a List.mem_cons_self
    have := nodup_len (l := l) (k := k.erase a) (List.nodup_cons.mp h).2 fun b hb => (List.mem_erase_of_ne (fun e : b = a => (List.nodup_cons.mp h).1 (by rw [← e]; exact hb))).mpr (i b (List.mem_cons_of_mem _ hb))
    rw [List.length_erase_of_mem ha] at this
    have : 0 < k.length := List.length_pos_of_mem ha
    rw [List.length_cons]
    omega
theorem Path.mem {rs : List (Row N)} {ns : List N} (hr : ∀ r ∈ rs, r.1 ∈ ns ∧ r.2.1 ∈ ns) {q : List N} {s : Int} (h : Path rs q s) : ∀ {a : N} {p : List N}, q = a :: p → a ∈ ns → ∀ b ∈ q, b ∈ ns := by
  induction h with
  | one => intro a p e ha b hb; cases e; cases List.mem_singleton.mp hb; exact ha
  | cons h t ih =>
    intro a p e ha b hb
    cases e
    rcases List.mem_cons.mp hb with rfl | hb
    · exact ha
    · exact ih rfl (hr _ h).2 b hb
/-- no more rows than names are needed -/
theorem Walk.short {rs : List (Row N)} {ns : List N} (hr : ∀ r ∈ rs, r.1 ∈ ns ∧ r.2.1 ∈ ns) (nn : ∀ r ∈ rs, 0 ≤ r.2.2) {n : Nat} {a b : N} {s : Int} (h : Walk rs n a b s) (ha : a ∈ ns) : ∃ s', s' ≤ s ∧ Walk rs ns.length a b s' := by
  obtain ⟨p, s', h1, h2, h3, h4⟩ := h.path nn
  refine ⟨s', h2, (h1.walk rfl h3).more ?_⟩
  have := nodup_len h4 (h1.mem hr rfl ha)
  rw [List.length_cons] at this
  omega
/-- the entries are the least sums -/
structure IsDist (ns : List N) (rs : List (Row N)) (f : N → N → Option Int) : Prop where
  sound : ∀ a b s, f a b = some s → ∃ n, Walk rs n a b s
  least : ∀ a b n s, a ∈ ns → b ∈ ns → Walk rs n a b s → leO (f a b) s
theorem IsDist.unique {ns : List N} {rs : List (Row N)} {f g : N → N → Option Int} (hf : IsDist ns rs f) (hg : IsDist ns rs g) {a b : N} (ha : a ∈ ns) (hb : b ∈ ns) : f a b = g a b := by
  cases e : f a b with
  | none =>
    cases e' : g a b with
    | none => rfl
    | some t =>
      obtain ⟨n, w⟩ := hg.sound _ _ _ e'
      obtain ⟨t, e2, _⟩ := hf.least _ _ _ _ ha hb w
      rw [e] at e2; cases e2
  | some s =>
    obtain ⟨n, w⟩ := hf.sound _ _ _ e
    obtain ⟨t, e2, l⟩ := hg.least _ _ _ _ ha hb w
    obtain ⟨n', w'⟩ := hg.sound _ _ _ e2
    obtain ⟨t', e3, l'⟩ := hf.least _ _ _ _ ha hb w'
    rw [e] at e3
    cases e3
    rw [e2, show s = t by omega]
end
end Dst

set_option Elab.async false
set_option linter.all false
/-! dicts by two names -/
namespace KT
open PySem PySem.Spec PyProof.Rows L2 DL
abbrev Row := Str × Str × Int
abbrev rowD (r : Row) : D := .tup [.str r.1, .str r.2.1, .int r.2.2]
def optD : Option Int → D
  | none => .non
  | some i => .int i
abbrev Fn := Str → Str → Option Int
def k2 (a b : Str) : List Key := [.inr a, .inr b]
def es (l : List (Str × Str)) (f : Fn) : List (List Key × D) := l.map fun p => (k2 p.1 p.2, optD (f p.1 p.2))
def sq (ns : List Str) : List (Str × Str) := ns.flatMap fun a => ns.map fun b => (a, b)
def up2 (f : Fn) (a b : Str) (v : Option Int) : Fn := fun x y => if x = a ∧ y = b then v else f x y
theorem k2_inj {a b c d : Str} : k2 a b = k2 c d ↔ a = c ∧ b = d := by
  unfold k2
  constructor
  · intro h
    injection h with h1 h2
    injection h2 with h2 _
    exact ⟨Sum.inr.inj h1, Sum.inr.inj h2⟩
  · rintro ⟨rfl, rfl⟩; rfl
theorem mem_sq {ns : List Str} {a b : Str} : (a, b) ∈ sq ns ↔ a ∈ ns ∧ b ∈ ns := by
  unfold sq
  rw [List.mem_flatMap]
  constructor
  · rintro ⟨c, hc, h⟩
    obtain ⟨d, hd, e⟩ := List.mem_map.mp h
    cases e
    exact ⟨hc, hd⟩
  · rintro ⟨h1, h2⟩
    exact ⟨a, h1, List.mem_map.mpr ⟨b, h2, rfl⟩⟩
theorem val_es {f : Fn} {a b : Str} : ∀ {l : List (Str × Str)}, (a, b) ∈ l → valD (es l f) (k2 a b) = some (optD (f a b))
  | (c, d) :: l, h => by
    by_cases e : k2 c d = k2 a b
    · have e1 : valD (es ((c, d) :: l) f) (k2 a b) = some (optD (f c d)) := by simp [valD, es, List.find?_cons, e]
      obtain ⟨rfl, rfl⟩ := k2_inj.mp e
      exact e1
    · have e1 : valD (es ((c, d) :: l) f) (k2 a b) = valD (es l f) (k2 a b) := by simp [valD, es, List.find?_cons, e]
      rw [e1]
      refine val_es ((List.mem_cons.mp h).resolve_left fun z => e ?_)
      cases z
      rfl
theorem val_no {f : Fn} {a b : Str} : ∀ {l : List (Str × Str)}, (a, b) ∉ l → valD (es l f) (k2 a b) = none
  | [], _ => rfl
  | (c, d) :: l, h => by
    have e : ¬ k2 c d = k2 a b := fun e => by
      obtain ⟨rfl, rfl⟩ := k2_inj.mp e
      exact h List.mem_cons_self
    have e1 : valD (es ((c, d) :: l) f) (k2 a b) = valD (es l f) (k2 a b) := by simp [valD, es, List.find?_cons, e]
    rw [e1]
    exact val_no fun z => h (List.mem_cons_of_mem _ z)
theorem put_es {f : Fn} {a b : Str} {v : Option Int} {l : List (Str × Str)} (h : (a, b) ∈ l) : putT (es l f) (k2 a b) (optD v) = es l (up2 f a b v) := by
  unfold putT
  rw [val_es h, Option.isSome_some, if_pos rfl]
  unfold es
  rw [List.map_map]
  refine List.map_congr_left fun p _ => ?_
  show (if k2 p.1 p.2 = k2 a b then (k2 p.1 p.2, optD v) else (k2 p.1 p.2, optD (f p.1 p.2))) = _
  unfold up2
  by_cases e : p.1 = a ∧ p.2 = b
  · rw [if_pos (k2_inj.mpr e), if_pos e]
  · rw [if_neg (fun z => e (k2_inj.mp z)), if_neg e]
theorem put_new {f : Fn} {a b : Str} {l : List (Str × Str)} (h : (a, b) ∉ l) : putT (es l f) (k2 a b) (optD (f a b)) = es (l ++ [(a, b)]) f := by
  unfold putT
  rw [val_no h, Option.isSome_none, if_neg Bool.false_ne_true]
  unfold es
  rw [List.map_append]
  rfl
theorem es_len {f : Fn} {l : List (Str × Str)} : (es l f).length = l.length := List.length_map ..
theorem sum_const {α : Type} {n : Nat} : ∀ {l : List α}, (l.map fun _ => n).sum = l.length * n
  | [] => by simp
  | _ :: l => by rw [List.map_cons, List.sum_cons, sum_const, List.length_cons, Nat.succ_mul, Nat.add_comm]
theorem sq_len {ns : List Str} : (sq ns).length = ns.length * ns.length := by
  unfold sq
  rw [List.length_flatMap]
  simp only [List.length_map]
  exact sum_const
/-! in their order -/
theorem sq_take {ns : List Str} {i j : Nat} {a b : Str} (nd : ns.Nodup) (ha : ns[i]? = some a) (hb : ns[j]? = some b) : (a, b) ∉ (ns.take i).flatMap (fun x => ns.map fun y => (x, y)) ++ (ns.take j).map fun y => (a, y) := by
  have out : ∀ {k : Nat} {c : Str}, ns[k]? = some c → c ∉ ns.take k := fun {k c} hc h => by
    obtain ⟨m, hm, e⟩ := List.mem_take_iff_getElem.mp h
    have hk := (List.getElem?_eq_some_iff.mp hc).1
    have e2 := (List.getElem?_eq_some_iff.mp hc).2
    have h1 : m < k := by omega
    have := (List.nodup_iff_pairwise_ne.mp nd) |> fun z => (List.pairwise_iff_getElem.mp z) m k (by omega) hk h1
    exact this (e.trans e2.symm)
  intro h
  rcases List.mem_append.mp h with h | h
  · obtain ⟨c, hc, h⟩ := List.mem_flatMap.mp h
    obtain ⟨d, _, e⟩ := List.mem_map.mp h
    cases e
    exact out ha hc
  · obtain ⟨d, hd, e⟩ := List.mem_map.mp h
    cases e
    exact out hb hd
end KT

set_option Elab.async false
set_option linter.all false
set_option maxRecDepth 100000
set_option maxHeartbeats 0
set_option pp.deepTerms false
set_option pp.deepTerms.threshold 8

namespace RD9
open PySem PySem.Spec PyProof.Rows L2
theorem mulr {i j : Int} (h1 : -(2 ^ 64) < j) (h2 : j < 2 ^ 64) : CMul i j := .inr ⟨h1, h2⟩
theorem divw {i j : Int} (h1 : 0 < j) (h2 : j.natAbs.log2 < 9000) : CDivW i j := ⟨h1, h2⟩
theorem mull {i j : Int} (h1 : -(2 ^ 64) < i) (h2 : i < 2 ^ 64) : CMul i j := .inl ⟨h1, h2⟩
theorem pow18 : CPow 10 18 := ⟨by decide, by decide, by decide⟩
theorem pow12 : CPow 10 12 := ⟨by decide, by decide, by decide⟩
theorem scalI {i j : Int} : scal (.int i) (.int j) = true := rfl
theorem scalS {i j : Str} : scal (.str i) (.str j) = true := rfl
theorem iteEqI {A B : Prop} {i j : Int} (h : if decide (i = j) = true then A else B) : if (if false = true then !decide (V.int i = V.int j) else decide (V.int i = V.int j)) = true then A else B := by
  rw [show decide (V.int i = V.int j) = decide (i = j) from decide_eq_decide.mpr ⟨fun e => V.int.inj e, fun e => congrArg _ e⟩]; exact h
theorem iteNeI {A B : Prop} {i j : Int} (h : if (!decide (i = j)) = true then A else B) : if (if true = true then !decide (V.int i = V.int j) else decide (V.int i = V.int j)) = true then A else B := by
  rw [show decide (V.int i = V.int j) = decide (i = j) from decide_eq_decide.mpr ⟨fun e => V.int.inj e, fun e => congrArg _ e⟩]; exact h
theorem iteEqS {A B : Prop} {i j : Str} (h : if decide (i = j) = true then A else B) : if (if false = true then !decide (V.str i = V.str j) else decide (V.str i = V.str j)) = true then A else B := by
  rw [show decide (V.str i = V.str j) = decide (i = j) from decide_eq_decide.mpr ⟨fun e => V.str.inj e, fun e => congrArg _ e⟩]; exact h
theorem iteNeS {A B : Prop} {i j : Str} (h : if (!decide (i = j)) = true then A else B) : if (if true = true then !decide (V.str i = V.str j) else decide (V.str i = V.str j)) = true then A else B := by
  rw [show decide (V.str i = V.str j) = decide (i = j) from decide_eq_decide.mpr ⟨fun e => V.str.inj e, fun e => congrArg _ e⟩]; exact h
theorem iteNF {A B : Prop} (h : A) : if (if true = true then !false else false) = true then A else B := h
theorem iteNT {A B : Prop} (h : B) : if (if true = true then !true else true) = true then A else B := h
theorem iteIF {A B : Prop} (h : B) : if (if false = true then !false else false) = true then A else B := h
theorem iteIT {A B : Prop} (h : A) : if (if false = true then !true else true) = true then A else B := h
theorem lkn {α : Type} {f : Str} {fs : List (Str × α)} (h : (List.lookup f fs).isNone = true) : List.lookup f fs = none := Option.isNone_iff_eq_none.mp h
theorem nd0 : ([] : List Nat).Nodup := .nil
theorem nd1 {a : Nat} : [a].Nodup := List.nodup_cons.mpr ⟨(fun h => nomatch h), .nil⟩
theorem sh0 {α : Type} : ([] : List α).length ≤ sizeLine := by show 0 ≤ sizeLine; decide
theorem sh1 {α : Type} {a : α} : [a].length ≤ sizeLine := by show 1 ≤ sizeLine; decide
theorem sh2 {α : Type} {a b : α} : [a, b].length ≤ sizeLine := by show 2 ≤ sizeLine; decide
theorem sh3 {α : Type} {a b c : α} : [a, b, c].length ≤ sizeLine := by show 3 ≤ sizeLine; decide
theorem sh4 {α : Type} {a b c d : α} : [a, b, c, d].length ≤ sizeLine := by show 4 ≤ sizeLine; decide
end RD9
local macro_rules
  | `(tactic| walk_at "da") => `(tactic| repeat (first | exact DR.args_n | apply DR.args_d | (apply DR.args_o; (with_unfolding_all rfl))))
local macro_rules
  | `(tactic| walk_at "dt") => `(tactic| repeat (first | exact DR.tk_n | (apply DR.tk_c; (with_unfolding_all rfl))))
local macro_rules
  | `(tactic| walk_at "dc") => `(tactic| first | (exact RD9.mulr (by decide) (by decide)) | (exact RD9.mull (by decide) (by decide)) | (exact RD9.mulr (by omega) (by omega)) | (exact RD9.mull (by omega) (by omega)) | (show (0 : Int) < _; first | decide | omega) | (exact RD9.divw (by decide) (by decide +kernel)) | (exact RD9.divw (by omega) (by decide +kernel)))
local macro_rules
  | `(tactic| walk_at "dd1") => `(tactic| with_reducible first
    | apply DR.op | (apply DR.var; (with_unfolding_all rfl)) | apply DR.const | apply DR.cons | apply DR.nil | apply DR.seq | apply DR.set | apply DR.tv | apply DR.built | apply DR.call | apply DR.consO
    | apply DR.if_ | apply DR.ifE | apply DR.ret | apply DR.retN | apply DR.next | apply DR.drop | apply DR.setO | apply DR.setLc | apply DR.par | apply DR.par3 | apply DR.consk | apply DR.nilk | apply DR.unpack
    | (apply DR.fvar; (with_unfolding_all rfl)) | (apply DR.mvar; (with_unfolding_all rfl)) | apply DR.lst | apply DR.tup | apply DR.not | apply DR.and | apply DR.or | apply DR.boolE | apply DR.notv | apply DR.andv | apply DR.orv | apply DR.chain | apply DR.neg
    | (apply DR.ixo; (with_unfolding_all rfl)) | (apply DR.setItem; (with_unfolding_all rfl)) | (apply DR.meth; (with_unfolding_all rfl)) | (apply DR.builtO; (with_unfolding_all rfl))
    | apply DR.newDK | (apply DR.getKO; (with_unfolding_all rfl)) | apply DR.putK | apply DR.inKO | apply DR.inKF | (apply DR.aug; (with_unfolding_all rfl)) | apply DR.makeO | (apply DR.methO; (with_unfolding_all rfl); exact RD9.lkn (by with_unfolding_all rfl)) | (apply DR.owniO; (with_unfolding_all rfl); (with_unfolding_all rfl)) | apply DR.sortK | apply DR.tupItems
    | apply DR.both | apply DR.sub | apply DR.newk | (apply DR.newl; (with_unfolding_all rfl)) | apply DR.callr | apply DR.starA | apply DR.tseq | apply DR.clsm | apply DR.owni | apply DR.tryc | apply DR.tryca | apply DR.tryo | apply DR.trym | apply DR.xf | apply DR.raiser | apply DR.methr | apply DR.methk | apply DR.clsmk | apply DR.join | apply DR.upper | apply DR.dzip | apply DR.tzip | apply DR.slc | apply DR.slN | apply DR.slS | apply DR.cnt | apply DR.cntT | apply DR.rotI | apply DR.lenSetR | apply DR.dcomp | apply DR.rev | apply DR.intO | apply DR.negO | apply DR.tupgV | apply DR.getK | apply DR.index
    | apply DR.inLO | apply DR.enumi | apply DR.zipi | apply DR.zipm | apply DR.lenSet | apply DR.comp2 | apply DR.compX
    | apply DR.for_ | apply DR.comp | apply DR.yes | apply DR.nameg | apply DR.tupg | apply DR.namesC | apply DR.namesN | apply DR.listi | apply DR.tupi | apply DR.stri | apply DR.range1 | apply DR.raise
    | apply DR.newT | (apply DR.getO; (with_unfolding_all rfl)) | apply DR.getF | apply DR.put | apply DR.inO | apply DR.inF | apply DR.prop | refine ⟨⟨_, by with_unfolding_all rfl⟩, ?_⟩
    | apply DR.fld | (apply DR.fldo; (with_unfolding_all rfl); (with_unfolding_all rfl)) | apply DR.fldset | apply DR.make | apply DR.methd
    | apply RD9.iteEqI | apply RD9.iteNeI | apply RD9.iteEqS | apply RD9.iteNeS | refine ⟨RD9.scalI, ?_⟩ | refine ⟨RD9.scalS, ?_⟩
    | apply RD9.iteNF | apply RD9.iteNT | apply RD9.iteIF | apply RD9.iteIT
    | apply DR.iteT | apply DR.iteF | apply DR.nit | apply DR.nif
    | (apply DR.rt; walk_at "dt") | (apply DR.nx; walk_at "dt") | (apply DR.ex; walk_at "dt")
    | refine ⟨RD9.sh3, ?_⟩ | refine ⟨RD9.sh2, ?_⟩ | refine ⟨RD9.sh1, ?_⟩ | refine ⟨RD9.sh0, ?_⟩ | refine ⟨RD9.sh4, ?_⟩ | refine ⟨RD9.pow18, ?_⟩ | refine ⟨RD9.pow12, ?_⟩
    | refine ⟨DR.nost_i, ?_⟩ | refine ⟨DR.nost_b, ?_⟩ | refine ⟨DR.nost_n, ?_⟩
    | refine ⟨_, _, (by with_unfolding_all rfl), (by walk_at "da"), (by with_unfolding_all first | exact RD9.nd0 | exact RD9.nd1 | exact RD9.nd2 rfl), ?_⟩
    | refine ⟨_, (by walk_at "da"), (by with_unfolding_all first | exact RD9.nd0 | exact RD9.nd1 | exact RD9.nd2 rfl), ?_⟩
    | refine ⟨_, _, _, by with_unfolding_all rfl, rfl, by with_unfolding_all rfl, ?_⟩
    | refine ⟨[_], rfl, ?_⟩ | refine ⟨[_, _], rfl, ?_⟩ | refine ⟨[], rfl, ?_⟩ | refine ⟨[_, _, _], rfl, ?_⟩ | refine ⟨[_, _, _, _], rfl, ?_⟩ | refine ⟨[_, _, _, _, _], rfl, ?_⟩ | refine ⟨[_, _, _, _, _, _], rfl, ?_⟩
    | refine ⟨_, _, rfl, rfl, by with_unfolding_all walk_at "dc", ?_⟩
    | refine ⟨_, _, rfl, rfl, ?_⟩
    | refine ⟨_, rfl, _, rfl, ?_⟩
    | refine ⟨_, rfl, ?_⟩
    | refine ⟨_, _, rfl, ?_⟩
    | refine ⟨_, .inl rfl, ?_⟩
    | refine ⟨RD9.f1k (by with_unfolding_all rfl), ?_⟩
    | refine ⟨RD9.lkn (by with_unfolding_all rfl), ?_⟩
   )
local macro_rules
  | `(tactic| walk_at "dd") => `(tactic| repeat walk_at "dd1")

namespace KT
open PySem PySem.Spec PyProof.Rows L2 DL
def top (i : Nat) : Stmt := PySem.Challenge.pw_coveredday_k13_closed_entries_and_chains.main.body.getD i (.Pass ⟨0, 0, 0, 0⟩)
structure TxtB (mg : Str → Option Value) : Prop where
  b_int : mg "int" = none
  b_abs : mg "abs" = none
  b_len : mg "len" = none
  b_range : mg "range" = none
  b_min : mg "min" = none
/-- a source of draws: at most n of them are made -/
def Src (n : Nat) (xs : List D) : Prop := ∃ x y z : Int, xs = [.int x, .int y, .int z] ∧ 0 ≤ y ∧ y ≤ 12000000000000000000 ∧ 0 ≤ z ∧ z ≤ n
def sdDraw : SpD := fun as Q _ => ∃ (xs : List D) (m : Int) (n : Nat), as = [.own (.lst xs), .d (.int m)] ∧ Src n xs ∧ n < 1000000000 ∧ 0 < m ∧ m < 2 ^ 64 ∧ ∀ (r : Int) (ys : List D), 0 ≤ r → r < m → Src (n + 1) ys → Q (.d (.int r)) [.lst ys]
section
variable {P : Program} {w : World} {K : PySem.W.Frag} {mg : Str → Option Value} {base : Heap}
abbrev s_law_draw : Stmt := top 34
theorem sc_law_draw : FnScope ["source", "many", "digit", "mixed"] ["source", "many"] (defScope s_law_draw) := ⟨rfl, rfl, rfl, by decide +kernel, rfl, by decide +kernel, by decide +kernel⟩
theorem ok_draw {f : Addr} {fd : FuncData} (G : Fun K "_law_draw" "_law_draw" s_law_draw f fd) (T : TxtB mg) : FnOk P w K mg base (L2.CX P w) 1 f fd ["source", "many"] (spOf K sdDraw) := by
  refine okD G sc_law_draw [0] (fun as Q E ⟨xs, m, n, e, _⟩ => by subst e; exact ⟨rfl, rfl⟩) ⟨_, fun cdv A outer s H E ad F0 H0 hr => (pds_cons (psd_if (ptd_cmp op_gt (op2_I0 fun _ _ _ => .bl _) (pd_ixO (i := 0) (pv 0) (pd_const pe_int (fun _ => .int _)) (fun _ _ => rfl)) (pd_const pe_int (fun _ => .int _)) (nomark _)) (pds_cons (psd_set (i := 2) (pd_op op_mod (op2_I fun _ _ _ => .int _) (pd_builtB (fun h => pe_callTy call_int1 (by rfl) T.b_int (by decide +kernel) h) cn_int.op (pda_cons (pd_ixO (i := 0) (pv 0) (pd_const pe_int (fun _ => .int _)) (fun _ _ => rfl)) pda_nil)) (pd_var (pv 1))) (by show ¬ (2 ∈ ([0] : List Nat)); decide) sc_law_draw.nd rfl (.inl rfl))
      (pds_cons (psd_setItem (j := 0) (fun h g => ps_asg h g) (fun ho hi hs => pg_sub ho hi hs) (pv 0) (pd_op op_fdivW (op2_I fun _ _ _ => .int _) (pd_ixO (i := 0) (pv 0) (pd_const pe_int (fun _ => .int _)) (fun _ _ => rfl)) (pd_var (pv 1))) (pd_const pe_int (fun _ => .int _)))
      (pds_one (psd_ret (pd_var (pv 2)))))) pds_nil)
      (pds_cons (psd_setItem (j := 0) (fun h g => ps_asg h g) (fun ho hi hs => pg_sub ho hi hs) (pv 0) (pd_op op_add (op2_I0 fun _ _ _ => .int _) (pd_ixO (i := 0) (pv 0) (pd_const pe_int (fun _ => .int _)) (fun _ _ => rfl)) (pd_const pe_int (fun _ => .int _))) (pd_const pe_int (fun _ => .int _)))
      (pds_cons (psd_set (i := 3) (pd_op op_mod (op2_I fun _ _ _ => .int _) (pd_builtB (fun h => pe_callTy call_int1 (by rfl) T.b_int (by decide +kernel) h) cn_int.op (pda_cons (pd_op op_add (op2_I0 fun _ _ _ => .int _) (pd_op op_pow (op2_I fun _ _ _ => .int _) (pd_op op_add (op2_I0 fun _ _ _ => .int _) (pd_ixO (i := 0) (pv 0) (pd_const pe_int (fun _ => .int _)) (fun _ _ => rfl)) (pd_op op_mul (op2_I fun _ _ _ => .int _) (pd_const pe_int (fun _ => .int _)) (pd_ixO (i := 0) (pv 0) (pd_const pe_int (fun _ => .int _)) (fun _ _ => rfl)))) (pd_const pe_int (fun _ => .int _))) (pd_op op_mul (op2_I fun _ _ _ => .int _) (pd_const pe_int (fun _ => .int _)) (pd_ixO (i := 0) (pv 0) (pd_const pe_int (fun _ => .int _)) (fun _ _ => rfl)))) pda_nil)) (pd_const pe_int (fun _ => .int _))) (by show ¬ (3 ∈ ([0] : List Nat)); decide) sc_law_draw.nd rfl (.inl rfl))
      (pds_cons (psd_set (i := 3) (pd_op op_mod (op2_I fun _ _ _ => .int _) (pd_builtB (fun h => pe_callTy call_int1 (by rfl) T.b_int (by decide +kernel) h) cn_int.op (pda_cons (pd_op op_pow (op2_I fun _ _ _ => .int _) (pd_op op_add (op2_I0 fun _ _ _ => .int _) (pd_var (pv 3)) (pd_op op_mul (op2_I fun _ _ _ => .int _) (pd_const pe_int (fun _ => .int _)) (pd_ixO (i := 0) (pv 0) (pd_const pe_int (fun _ => .int _)) (fun _ _ => rfl)))) (pd_const pe_int (fun _ => .int _))) pda_nil)) (pd_const pe_int (fun _ => .int _))) (by show ¬ (3 ∈ ([0] : List Nat)); decide) sc_law_draw.nd rfl (.inl rfl))
      (pds_one (psd_ret (pd_op op_mod (op2_I fun _ _ _ => .int _) (pd_builtB (fun h => pe_callTy call_int1 (by rfl) T.b_int (by decide +kernel) h) cn_int.op (pda_cons (pd_op op_fdivW (op2_I fun _ _ _ => .int _) (pd_var (pv 3)) (pd_const pe_int (fun _ => .int _))) pda_nil)) (pd_var (pv 1))))))))), ?_⟩
  rintro as Qd Ed ⟨xs, m, n, rfl, ⟨x, y, z, rfl, y0, y1, z0, z1⟩, hn, m0, m1, k⟩
  refine DR.start (δ' := [some (.own (.lst [.int x, .int y, .int z])), some (.d (.int m)), none, none]) rfl ?_
  walk_at "dd"
  refine DR.split (fun c => ?_) (fun c => ?_)
  · walk_at "dd"
    refine ⟨wide_div m0 (b := 64) (by omega) (by decide) (by decide), ?_⟩
    walk_at "dd"
    exact k _ _ (Int.emod_nonneg _ (by omega)) (Int.emod_lt_of_pos _ m0) ⟨_, y, z, rfl, y0, y1, z0, by omega⟩
  · walk_at "dd"
    refine ⟨⟨by decide, by decide, by omega⟩, ?_⟩
    walk_at "dd"
    have h1 : 0 ≤ ((y + 7919 * (z + 1)) ^ (2 : Int).toNat + 32452843 * (z + 1)) % 2305843009213693951 := Int.emod_nonneg _ (by decide)
    have h2 : ((y + 7919 * (z + 1)) ^ (2 : Int).toNat + 32452843 * (z + 1)) % 2305843009213693951 < 2305843009213693951 := Int.emod_lt_of_pos _ (by decide)
    refine ⟨⟨by decide, by decide, by omega⟩, ?_⟩
    walk_at "dd"
    exact k _ _ (Int.emod_nonneg _ (by omega)) (Int.emod_lt_of_pos _ m0) ⟨x, y, z + 1, rfl, y0, y1, by omega, by omega⟩
end
end KT

set_option Elab.async false
set_option linter.all false
set_option maxRecDepth 100000
set_option maxHeartbeats 0
set_option pp.deepTerms false
set_option pp.deepTerms.threshold 8


namespace KT
open PySem PySem.Spec PyProof.Rows L2 DL
theorem atI_map {f : α → β} {xs : List α} {i : Nat} {x : α} (h : xs[i]? = some x) : atI (xs.map f) (i : Int) = some (f x) := by
  unfold atI
  rw [List.length_map]
  have hl : i < xs.length := by
    rcases Nat.lt_or_ge i xs.length with h1 | h1
    · exact h1
    · rw [List.getElem?_eq_none h1] at h; cases h
  have e : ixN xs.length (i : Int) = some i := by
    unfold ixN
    rw [if_pos (by omega)]
    simp [hl]
  rw [e]
  show (xs.map f)[i]? = _
  rw [List.getElem?_map, h]
  rfl
theorem draw {xs : List D} {m : Int} {n : Nat} {Q : DV → List OC → Prop} {E : Ex → List OC → Prop} (s : Src n xs) (h : n < 1000000000) (m0 : 0 < m) (m1 : m < 2 ^ 64) (k : ∀ (r : Int) (ys : List D), 0 ≤ r → r < m → Src (n + 1) ys → Q (.d (.int r)) [.lst ys]) : sdDraw [.own (.lst xs), .d (.int m)] Q E := ⟨xs, m, n, rfl, s, h, m0, m1, k⟩
section
variable {P : Program} {w : World} {K : PySem.W.Frag} {mg : Str → Option Value} {base : Heap}
abbrev s_law_source : Stmt := top 33
abbrev s_law_size : Stmt := top 36
theorem sc_law_size : FnScope ["source", "sort"] ["source"] (defScope s_law_size) := ⟨rfl, rfl, rfl, by decide +kernel, rfl, by decide +kernel, by decide +kernel⟩
def sdSize : SpD := fun as Q _ => ∃ (xs : List D) (n : Nat), as = [.own (.lst xs)] ∧ Src n xs ∧ n < 999999998 ∧ ∀ (r : Int) (ys : List D), 0 ≤ r → r ≤ 1000000000000 → Src (n + 2) ys → Q (.d (.int r)) [.lst ys]
theorem ok_size (D_law_draw : DefD P w K mg base "_law_draw" 1 ["source", "many"] sdDraw) {f : Addr} {fd : FuncData} (G : Fun K "_law_size" "_law_size" s_law_size f fd) (T : TxtB mg) : FnOk P w K mg base (L2.CX P w) 3 f fd ["source"] (spOf K sdSize) := by
  refine okD G sc_law_size [0] (fun as Q E ⟨xs, m, e, _⟩ => by subst e; exact ⟨rfl, rfl⟩) ⟨_, fun cdv A outer s H E ad F0 H0 hr => (pds_cons (psd_set (i := 1) (pd_call D_law_draw.ok (hr.mono (by decide)) (by rfl) D_law_draw.mg D_law_draw.kp D_law_draw.b (takes_of rfl rfl rfl rfl) (pda_own (i := 0) (pv 0) (pda_cons (pd_const pe_int (fun _ => .int _)) pda_nil))) (by show ¬ (1 ∈ ([0] : List Nat)); decide) sc_law_size.nd rfl (.inl rfl))
      (pds_cons (psd_if (ptd_cmp op_eq op2_eq.op (pd_var (pv 1)) (pd_const pe_int (fun _ => .int _)) (nomark _)) (pds_one (psd_ret (pd_call D_law_draw.ok (hr.mono (by decide)) (by rfl) D_law_draw.mg D_law_draw.kp D_law_draw.b (takes_of rfl rfl rfl rfl) (pda_own (i := 0) (pv 0) (pda_cons (pd_op op_add (op2_I0 fun _ _ _ => .int _) (pd_op op_pow (op2_I fun _ _ _ => .int _) (pd_const pe_int (fun _ => .int _)) (pd_const pe_int (fun _ => .int _))) (pd_const pe_int (fun _ => .int _))) pda_nil))))) pds_nil)
      (pds_one (psd_ret (pd_call D_law_draw.ok (hr.mono (by decide)) (by rfl) D_law_draw.mg D_law_draw.kp D_law_draw.b (takes_of rfl rfl rfl rfl) (pda_own (i := 0) (pv 0) (pda_cons (pd_ifExp (ptd_cmp op_eq op2_eq.op (pd_var (pv 1)) (pd_const pe_int (fun _ => .int _)) (nomark _)) (pd_const pe_int (fun _ => .int _)) (pd_const pe_int (fun _ => .int _))) pda_nil))))))), ?_⟩
  rintro as Qd Ed ⟨xs, n, rfl, hs, hn, k⟩
  refine DR.start (δ' := [some (.own (.lst xs)), none]) rfl ?_
  walk_at "dd"
  refine draw hs (by omega) (by decide) (by decide) fun r ys r0 r1 hs => ?_
  walk_at "dd"
  refine DR.split (fun c => ?_) (fun c => ?_)
  · walk_at "dd"
    refine draw hs (by omega) (by decide) (by decide) fun r ys r0 r1 hs => ?_
    walk_at "dd"
    exact k _ _ r0 (Int.le_of_lt_add_one r1) hs
  · walk_at "dd"
    refine DR.split (fun c => ?_) (fun c => ?_)
    · walk_at "dd"
      refine draw hs (by omega) (by decide) (by decide) fun r ys r0 r1 hs => ?_
      walk_at "dd"
      exact k _ _ r0 (by omega) hs
    · walk_at "dd"
      refine draw hs (by omega) (by decide) (by decide) fun r ys r0 r1 hs => ?_
      walk_at "dd"
      exact k _ _ r0 (by omega) hs
end
end KT

set_option Elab.async false
set_option linter.all false
set_option maxRecDepth 100000
set_option maxHeartbeats 0
set_option pp.deepTerms false
set_option pp.deepTerms.threshold 8


namespace KT
open PySem PySem.Spec PyProof.Rows L2 DL
def Nm (g : Str) : Prop := g ≠ "cash" ∧ 1 ≤ g.length ∧ g.length ≤ 12 ∧ ∀ c ∈ g.cps.toList, 97 ≤ c ∧ c ≤ 122
def Goods (gs : List Str) : Prop := gs.Nodup ∧ 1 ≤ gs.length ∧ gs.length ≤ 5 ∧ ∀ g ∈ gs, Nm g
def Low (z : Str) : Prop := ∀ c ∈ z.cps.toList, 97 ≤ c ∧ c ≤ 122
def keyOf (b : Bool) (g : Str) : Option Nat := if b then g.cps.toList.getLast? else g.cps.toList.head?
def keys : List (Option Nat) := [some 116, some 112, some 114, some 113, some 115]
def sg (c : Nat) : Str := ⟨#[c]⟩
def kc (i : Nat) : Nat := [116, 112, 114, 113, 115].getD i 0
theorem abz_at {r : Int} (h0 : 0 ≤ r) (h1 : r < 26) : atI (Str.ofString "abcdefghijklmnopqrstuvwxyz").cps.toList r = some (97 + r.toNat) := by
  have e : ∀ k : Fin 26, atI (Str.ofString "abcdefghijklmnopqrstuvwxyz").cps.toList (k.val : Int) = some (97 + k.val) := by decide +kernel
  have := e ⟨r.toNat, by omega⟩
  rwa [Int.toNat_of_nonneg h0] at this
theorem tp_at {i : Nat} (h : i < 5) : atI (Str.ofString "tprqs").cps.toList (i : Int) = some (kc i) := by
  have e : ∀ k : Fin 5, atI (Str.ofString "tprqs").cps.toList (k.val : Int) = some (kc k.val) := by decide +kernel
  exact e ⟨i, h⟩
theorem kc_low {i : Nat} (h : i < 5) : 97 ≤ kc i ∧ kc i ≤ 122 := by
  have e : ∀ k : Fin 5, 97 ≤ kc k.val ∧ kc k.val ≤ 122 := by decide
  exact e ⟨i, h⟩
theorem keys_at {i : Nat} (h : i < 5) : keys[i]? = some (some (kc i)) := by
  have e : ∀ k : Fin 5, keys[k.val]? = some (some (kc k.val)) := by decide
  exact e ⟨i, h⟩
theorem str_cps {a b : Str} : (a ++ b).cps.toList = a.cps.toList ++ b.cps.toList := Array.toList_append
theorem str_len {a b : Str} : (a ++ b).length = a.length + b.length := Array.size_append
theorem sg_cps {c : Nat} : (sg c).cps.toList = [c] := rfl
theorem sg_len {c : Nat} : (sg c).length = 1 := rfl
theorem low_app {a b : Str} (h1 : Low a) (h2 : Low b) : Low (a ++ b) := fun c hc => by
  rw [str_cps] at hc
  exact (List.mem_append.mp hc).elim (h1 c) (h2 c)
theorem low_sg {c : Nat} (h : 97 ≤ c ∧ c ≤ 122) : Low (sg c) := fun d hd => by
  rw [sg_cps] at hd
  cases hd with
  | head => exact h
  | tail _ h => cases h
theorem upto_at {m i : Nat} {x : D} (h : (upto 0 m)[i]? = some x) : x = .int i ∧ i < m := by
  unfold upto at h
  rw [List.getElem?_map] at h
  rcases Nat.lt_or_ge i m with hi | hi
  · rw [List.getElem?_range hi] at h
    cases h
    exact ⟨by show D.int (0 + (i : Int)) = _; rw [Int.zero_add], hi⟩
  · rw [List.getElem?_eq_none (by rw [List.length_range]; exact hi)] at h
    cases h
theorem upto_len {m : Nat} : (upto 0 m).length = m := by
  unfold upto
  simp
theorem nodup_map {α β : Type} {f : α → β} {l : List α} (h : (l.map f).Nodup) : l.Nodup := by
  induction l with
  | nil => exact .nil
  | cons a l ih =>
    rw [List.map_cons, List.nodup_cons] at h
    exact List.nodup_cons.mpr ⟨fun z => h.1 (List.mem_map_of_mem z), ih h.2⟩
theorem nm_of {b : Bool} {i : Nat} {z : Str} (hi : i < 5) (hz : z.length ≤ 11) (hl : Low z) : Nm (if b = true then z ++ sg (kc i) else sg (kc i) ++ z) ∧ keyOf b (if b = true then z ++ sg (kc i) else sg (kc i) ++ z) = some (kc i) := by
  have hk : keyOf b (if b = true then z ++ sg (kc i) else sg (kc i) ++ z) = some (kc i) := by
    cases b
    · show (sg (kc i) ++ z).cps.toList.head? = _
      rw [str_cps, sg_cps]
      rfl
    · show (z ++ sg (kc i)).cps.toList.getLast? = _
      rw [str_cps, sg_cps]
      simp
  refine ⟨⟨fun e => ?_, ?_, ?_, ?_⟩, hk⟩
  · rw [e] at hk
    have h1 : ∀ b : Bool, ∀ k : Fin 5, ¬ keyOf b "cash" = some (kc k.val) := by decide +kernel
    exact h1 b ⟨i, hi⟩ hk
  · cases b <;> (simp only [Bool.false_eq_true, if_true, if_false, str_len, sg_len]; omega)
  · cases b <;> (simp only [Bool.false_eq_true, if_true, if_false, str_len, sg_len]; omega)
  · cases b
    · exact low_app (low_sg (kc_low hi)) hl
    · exact low_app hl (low_sg (kc_low hi))
def sdGoods : SpD := fun as Q _ => ∃ (xs : List D) (n : Nat), as = [.own (.lst xs), .d (.int 5)] ∧ Src n xs ∧ n < 999999000 ∧ ∀ (gs : List Str) (ys : List D) (m : Nat), Goods gs → m ≤ n + 100 → Src m ys → Q (.own (.lst (gs.map .str))) [.lst ys]
section
variable {P : Program} {w : World} {K : PySem.W.Frag} {mg : Str → Option Value} {base : Heap}
abbrev s_law_goods : Stmt := top 35
theorem sc_law_goods : FnScope ["source", "most", "many", "at_end", "found", "place", "letters", "turn"] ["source", "most"] (defScope s_law_goods) := ⟨rfl, rfl, rfl, by decide +kernel, rfl, by decide +kernel, by decide +kernel⟩
theorem ok_goods (D_law_draw : DefD P w K mg base "_law_draw" 1 ["source", "many"] sdDraw) {f : Addr} {fd : FuncData} (G : Fun K "_law_goods" "_law_goods" s_law_goods f fd) (T : TxtB mg) : FnOk P w K mg base (L2.CX P w) 3 f fd ["source", "most"] (spOf K sdGoods) := by
  refine okD G sc_law_goods [0] (fun as Q E ⟨xs, m, e, _⟩ => by subst e; exact ⟨rfl, rfl⟩) ⟨_, fun cdv A outer s H E ad F0 H0 hr => (pds_cons (psd_set (i := 2) (pd_builtB (fun h => pe_callB (call_min2 rfl) (by rfl) T.b_min (by decide +kernel) h) cn_two.op (pda_cons (pd_var (pv 1)) (pda_cons (pd_ifExp (ptd_cmp op_gt (op2_I0 fun _ _ _ => .bl _) (pd_call D_law_draw.ok (hr.mono (by decide)) (by rfl) D_law_draw.mg D_law_draw.kp D_law_draw.b (takes_of rfl rfl rfl rfl) (pda_own (i := 0) (pv 0) (pda_cons (pd_const pe_int (fun _ => .int _)) pda_nil))) (pd_const pe_int (fun _ => .int _)) (nomark _)) (pd_op op_add (op2_I0 fun _ _ _ => .int _) (pd_const pe_int (fun _ => .int _)) (pd_call D_law_draw.ok (hr.mono (by decide)) (by rfl) D_law_draw.mg D_law_draw.kp D_law_draw.b (takes_of rfl rfl rfl rfl) (pda_own (i := 0) (pv 0) (pda_cons (pd_const pe_int (fun _ => .int _)) pda_nil)))) (pd_op op_add (op2_I0 fun _ _ _ => .int _) (pd_const pe_int (fun _ => .int _)) (pd_call D_law_draw.ok (hr.mono (by decide)) (by rfl) D_law_draw.mg D_law_draw.kp D_law_draw.b (takes_of rfl rfl rfl rfl) (pda_own (i := 0) (pv 0) (pda_cons (pd_const pe_int (fun _ => .int _)) pda_nil))))) pda_nil))) (by show ¬ (2 ∈ ([0] : List Nat)); decide) sc_law_goods.nd rfl (.inl rfl))
      (pds_cons (psd_set (i := 3) (pd_cmp op_eq op2_eq.op (pd_call D_law_draw.ok (hr.mono (by decide)) (by rfl) D_law_draw.mg D_law_draw.kp D_law_draw.b (takes_of rfl rfl rfl rfl) (pda_own (i := 0) (pv 0) (pda_cons (pd_const pe_int (fun _ => .int _)) pda_nil))) (pd_const pe_int (fun _ => .int _)) (nomark _)) (by show ¬ (3 ∈ ([0] : List Nat)); decide) sc_law_goods.nd rfl (.inl rfl))
      (pds_cons (psd_setO (i := 4) (pd_lst (fun h => pe_lst h) pda_nil) (by show ¬ (4 ∈ ([0] : List Nat)); decide) sc_law_goods.nd rfl (.inl rfl))
      (pds_cons (psd_for (passes_of rfl) rfl (pid_range1 (by rfl) T.b_range (pda_cons (pd_var (pv 2)) pda_nil)) (pgd_name (i := 5) (vs := [5]) (pg_name (i := 5) sc_law_goods.nd rfl (.inl rfl)) (by show ¬ (5 ∈ ([0] : List Nat)); decide) (by decide))
      (pds_cons (psd_set (i := 6) (pd_const pe_str (fun _ => .str (by decide +kernel))) (by show ¬ (6 ∈ ([0] : List Nat)); decide) sc_law_goods.nd rfl (.inl rfl))
      (pds_cons (psd_for (passes_of rfl) rfl (pid_range1 (by rfl) T.b_range (pda_cons (pd_ifExp (ptd_cmp op_eq op2_eq.op (pd_call D_law_draw.ok (hr.mono (by decide)) (by rfl) D_law_draw.mg D_law_draw.kp D_law_draw.b (takes_of rfl rfl rfl rfl) (pda_own (i := 0) (pv 0) (pda_cons (pd_const pe_int (fun _ => .int _)) pda_nil))) (pd_const pe_int (fun _ => .int _)) (nomark _)) (pd_const pe_int (fun _ => .int _)) (pd_call D_law_draw.ok (hr.mono (by decide)) (by rfl) D_law_draw.mg D_law_draw.kp D_law_draw.b (takes_of rfl rfl rfl rfl) (pda_own (i := 0) (pv 0) (pda_cons (pd_const pe_int (fun _ => .int _)) pda_nil)))) pda_nil)) (pgd_name (i := 7) (vs := [7]) (pg_name (i := 7) sc_law_goods.nd rfl (.inl rfl)) (by show ¬ (7 ∈ ([0] : List Nat)); decide) (by decide))
      (pds_one (psd_set (i := 6) (pd_op op_add_str op2_addS (pd_var (pv 6)) (pd_ix ix_str op2_ixS (pd_const pe_str (fun _ => .str (by decide +kernel))) (pd_call D_law_draw.ok (hr.mono (by decide)) (by rfl) D_law_draw.mg D_law_draw.kp D_law_draw.b (takes_of rfl rfl rfl rfl) (pda_own (i := 0) (pv 0) (pda_cons (pd_const pe_int (fun _ => .int _)) pda_nil))) (fun _ _ => rfl))) (by show ¬ (6 ∈ ([0] : List Nat)); decide) sc_law_goods.nd rfl (.inl rfl))))
      (pds_one (psd_expr (pd_methO (j := 4) (fun ho h => pe_bm PySem.F.plainAttrs_list PySem.F.slot_list_append PySem.F.type_list_append mt_append ho h) mo_append (pv 4) (pda_cons (pd_ifExp (ptd_val (pd_var (pv 3)) (fun h => pt_val h)) (pd_op op_add_str op2_addS (pd_var (pv 6)) (pd_ix ix_str op2_ixS (pd_const pe_str (fun _ => .str (by decide +kernel))) (pd_var (pv 5)) (fun _ _ => rfl))) (pd_op op_add_str op2_addS (pd_ix ix_str op2_ixS (pd_const pe_str (fun _ => .str (by decide +kernel))) (pd_var (pv 5)) (fun _ _ => rfl)) (pd_var (pv 6)))) pda_nil)))))))
      (pds_one (psd_ret (pd_mvar (pv 4) (by show ¬ (4 ∈ ([0] : List Nat)); decide)))))))), ?_⟩
  rintro as Qd Ed ⟨xs, n, rfl, hs, hn, k⟩
  refine DR.start (δ' := [some (.own (.lst xs)), some (.d (.int 5)), none, none, none, none, none, none]) rfl ?_
  refine DR.cut (fun δ => ∃ ys m mn, δ = [some (.own (.lst ys)), some (.d (.int 5)), some (.d (.int mn)), none, none, none, none, none] ∧ Src m ys ∧ m ≤ n + 2 ∧ 1 ≤ mn ∧ mn ≤ 5) (fun N kN => ?_) ?_
  · walk_at "dd"
    refine draw hs (by omega) (by decide) (by decide) fun r ys r0 r1 hs => ?_
    walk_at "dd"
    refine DR.split (fun c => ?_) (fun c => ?_)
    · walk_at "dd"
      refine draw hs (by omega) (by decide) (by decide) fun r ys r0 r1 hs => ?_
      walk_at "dd"
      exact kN _ ⟨ys, _, _, rfl, hs, by omega, (by show (1 : Int) ≤ if 1 + r < 5 then 1 + r else 5; split <;> omega), (by show (if 1 + r < 5 then 1 + r else 5 : Int) ≤ 5; split <;> omega)⟩
    · walk_at "dd"
      refine draw hs (by omega) (by decide) (by decide) fun r ys r0 r1 hs => ?_
      walk_at "dd"
      exact kN _ ⟨ys, _, _, rfl, hs, by omega, (by show (1 : Int) ≤ if 4 + r < 5 then 4 + r else 5; split <;> omega), (by show (if 4 + r < 5 then 4 + r else 5 : Int) ≤ 5; split <;> omega)⟩
  rintro δ ⟨ys, m, mn, rfl, hs, hm, h1, h5⟩
  walk_at "dd"
  refine draw hs (by omega) (by decide) (by decide) fun r ys r0 r1 hs => ?_
  walk_at "dd"
  generalize (if false = true then !decide (V.int r = V.int 0) else decide (V.int r = V.int 0)) = b
  refine ⟨by omega, by omega, DR.for_inv (fun i δ => ∃ gs ys m p l t, δ = [some (.own (.lst ys)), some (.d (.int 5)), some (.d (.int mn)), some (.d (.bl b)), some (.own (.lst (gs.map .str))), p, l, t] ∧ Src m ys ∧ m ≤ n + 3 + 14 * i ∧ gs.map (keyOf b) = keys.take i ∧ ∀ g ∈ gs, Nm g) ⟨[], ys, _, _, _, _, rfl, hs, by omega, rfl, fun g h => nomatch h⟩ ?_ ?_⟩
  · rintro i x δ N hx ⟨gs, ys, m, p, l, t, rfl, hs, hm, hk, hg⟩ kN
    obtain ⟨rfl, hi⟩ := upto_at hx
    refine DR.nameg (DR.seq (DR.set (DR.const ?_)))
    with_reducible refine DR.cut (fun δ => ∃ ys m z t, δ = [some (.own (.lst ys)), some (.d (.int 5)), some (.d (.int mn)), some (.d (.bl b)), some (.own (.lst (gs.map .str))), some (.d (.int i)), some (.d (.str z)), t] ∧ Src m ys ∧ m ≤ n + 16 + 14 * i ∧ z.length ≤ 11 ∧ Low z) (fun N2 kN2 => ?_) ?_
    · with_reducible refine DR.for_ ?_
      with_reducible refine DR.icut (fun xs δ => ∃ (ys : List D) (c : Int), xs = upto 0 c.toNat ∧ c ≤ 11 ∧ δ = [some (.own (.lst ys)), some (.d (.int 5)), some (.d (.int mn)), some (.d (.bl b)), some (.own (.lst (gs.map .str))), some (.d (.int i)), some (.d (.str "")), t] ∧ ∃ m', Src m' ys ∧ m' ≤ m + 2) (fun N3 kN3 => ?_) ?_
      · walk_at "dd"
        refine draw hs (by omega) (by decide) (by decide) fun r ys r0 r1 hs => ?_
        walk_at "dd"
        refine DR.split (fun c => ?_) (fun c => ?_)
        · walk_at "dd"
          exact ⟨by decide, by decide, kN3 _ _ ⟨_, 11, rfl, by decide, rfl, _, hs, by omega⟩⟩
        · walk_at "dd"
          refine draw hs (by omega) (by decide) (by decide) fun r ys r0 r1 hs => ?_
          walk_at "dd"
          exact ⟨by omega, by omega, kN3 _ _ ⟨_, r, rfl, by omega, rfl, _, hs, by omega⟩⟩
      · rintro xs δ ⟨ys, c, rfl, hc, rfl, m1, hs, hm1⟩
        refine DR.for_inv (fun i2 δ => ∃ ys m2 z t, δ = [some (.own (.lst ys)), some (.d (.int 5)), some (.d (.int mn)), some (.d (.bl b)), some (.own (.lst (gs.map .str))), some (.d (.int i)), some (.d (.str z)), t] ∧ Src m2 ys ∧ m2 ≤ m + 2 + i2 ∧ z.length = i2 ∧ Low z) ⟨ys, _, _, _, rfl, hs, by omega, rfl, fun c h => nomatch h⟩ ?_ ?_
        · rintro i2 x δ N hx ⟨ys, m2, z, t, rfl, hs, hm2, hz, hl⟩ kN
          obtain ⟨rfl, hi2⟩ := upto_at hx
          walk_at "dd"
          refine draw hs (by omega) (by decide) (by decide) fun r ys r0 r1 hs => ?_
          walk_at "dd"
          refine ⟨_, _, _, rfl, rfl, by decide, abz_at r0 r1, ?_⟩
          walk_at "dd"
          refine ⟨(show _ ≤ sizeLine from (by show z.length + 1 ≤ sizeLine; exact Nat.le_trans (by omega) (show 12 ≤ sizeLine by decide))), ?_⟩
          walk_at "dd"
          exact kN _ ⟨_, _, z ++ sg (97 + r.toNat), _, rfl, hs, by omega, by rw [str_len, sg_len, hz], low_app hl (low_sg (by omega))⟩
        · rintro δ ⟨ys, m2, z, t, rfl, hs, hm2, hz, hl⟩
          rw [upto_len] at hm2 hz
          exact kN2 _ ⟨ys, m2, z, t, rfl, hs, by omega, by omega, hl⟩
    · rintro δ ⟨ys, m, z, t, rfl, hs, hm, hz, hl⟩
      walk_at "dd"
      have hi5 : i < 5 := by omega
      have nm := nm_of (b := b) (z := z) hi5 hz hl
      have fin : ∀ v : Str, v = (if b = true then z ++ sg (kc i) else sg (kc i) ++ z) → N [some (.own (.lst ys)), some (.d (.int 5)), some (.d (.int mn)), some (.d (.bl b)), some (.own (.lst (gs.map .str ++ [.str v]))), some (.d (.int i)), some (.d (.str z)), t] := fun v e => by
        refine kN _ ⟨gs ++ [v], ys, m, _, _, _, by rw [List.map_append]; rfl, hs, by omega, ?_, ?_⟩
        · rw [List.map_append, hk, List.take_succ, keys_at hi5, e]
          exact congrArg (fun x => keys.take i ++ [x]) nm.2
        · intro g hg'
          rcases List.mem_append.mp hg' with h | h
          · exact hg g h
          · rw [List.mem_singleton.mp h, e]; exact nm.1
      have hgl : gs.length < sizeLine := by
        have : gs.length = (keys.take i).length := by rw [← hk, List.length_map]
        rw [this, List.length_take]
        exact Nat.lt_of_le_of_lt (Nat.min_le_left ..) (Nat.lt_of_lt_of_le hi5 (by decide))
      refine DR.splitB (fun hb => ?_) (fun hb => ?_)
      · walk_at "dd"
        refine ⟨_, _, _, rfl, rfl, by decide, tp_at hi5, ?_⟩
        walk_at "dd"
        refine ⟨(show _ ≤ sizeLine from (by show z.length + 1 ≤ sizeLine; exact Nat.le_trans (by omega) (show 12 ≤ sizeLine by decide))), ?_⟩
        walk_at "dd"
        refine ⟨[_], _, rfl, rfl, _, rfl, by rw [List.length_map]; exact hgl, ?_⟩
        exact fin _ (by rw [hb, if_pos rfl]; rfl)
      · walk_at "dd"
        refine ⟨_, _, _, rfl, rfl, by decide, tp_at hi5, ?_⟩
        walk_at "dd"
        refine ⟨(show _ ≤ sizeLine from (by show 1 + z.length ≤ sizeLine; exact Nat.le_trans (by omega) (show 12 ≤ sizeLine by decide))), ?_⟩
        walk_at "dd"
        refine ⟨[_], _, rfl, rfl, _, rfl, by rw [List.length_map]; exact hgl, ?_⟩
        exact fin _ (by rw [hb, if_neg Bool.false_ne_true]; rfl)
  · rintro δ ⟨gs, ys, m, p, l, t, rfl, hs, hm, hk, hg⟩
    walk_at "dd"
    rw [upto_len] at hm hk
    refine k gs ys m ⟨?_, ?_, ?_, hg⟩ (by omega) hs
    · refine nodup_map (f := keyOf b) ?_
      rw [hk]
      exact (List.take_sublist _ _).nodup (by decide)
    · rw [← List.length_map (f := keyOf b), hk, List.length_take]
      show 1 ≤ min _ 5
      omega
    · rw [← List.length_map (f := keyOf b), hk, List.length_take]
      show min _ 5 ≤ 5
      omega
end
end KT

set_option Elab.async false
set_option linter.all false
set_option maxRecDepth 100000
set_option maxHeartbeats 0
set_option pp.deepTerms false
set_option pp.deepTerms.threshold 8


namespace KT
open PySem PySem.Spec PyProof.Rows L2 DL
abbrev prD (p : Str × Str) : D := .tup [.str p.1, .str p.2]
def prRow (ns : List Str) (a : Str) : List (Str × Str) := (ns.filter fun b => decide (b ≠ a)).map fun b => (a, b)
theorem prRow_f {ns : List Str} {a : Str} : ns.filterMap (fun b => if b = a then none else some (D.tup [.str a, .str b])) = (prRow ns a).map prD := by
  unfold prRow
  induction ns with
  | nil => rfl
  | cons b ns ih =>
    rw [List.filterMap_cons, List.filter_cons]
    by_cases e : b = a
    · rw [if_pos e, if_neg (by simp [e])]
      exact ih
    · rw [if_neg e, if_pos (by simp [e]), List.map_cons, List.map_cons]
      exact congrArg _ ih
theorem prRow_len {ns : List Str} {a : Str} : (prRow ns a).length ≤ ns.length := by
  unfold prRow
  rw [List.length_map]
  exact List.length_filter_le ..
theorem flat_len {α β : Type} {f : α → List β} {n : Nat} : ∀ {l : List α}, (∀ a ∈ l, (f a).length ≤ n) → (l.flatMap f).length ≤ l.length * n
  | [], _ => by simp
  | a :: l, h => by
    rw [List.flatMap_cons, List.length_append, List.length_cons, Nat.succ_mul]
    have := h a List.mem_cons_self
    have := flat_len (l := l) fun b hb => h b (List.mem_cons_of_mem _ hb)
    omega
def prs (ns : List Str) : List (Str × Str) := ns.flatMap (prRow ns)
def sdPairs : SpD := fun as Q _ => ∃ ns : List Str, as = [.d (.lst (ns.map .str))] ∧ ns.length ≤ 10 ∧ Q (.d (.lst ((prs ns).map prD))) []
section
variable {P : Program} {w : World} {K : PySem.W.Frag} {mg : Str → Option Value} {base : Heap}
abbrev s_law_pairs : Stmt := top 37
theorem sc_law_pairs : FnScope ["names", "found", "one", "other"] ["names"] (defScope s_law_pairs) := ⟨rfl, rfl, rfl, by decide +kernel, rfl, by decide +kernel, by decide +kernel⟩
theorem ok_pairs {f : Addr} {fd : FuncData} (G : Fun K "_law_pairs" "_law_pairs" s_law_pairs f fd) (T : TxtB mg) : FnOk P w K mg base (L2.CX P w) 1 f fd ["names"] (spOf K sdPairs) := by
  refine okD G sc_law_pairs [] (fun as Q E ⟨xs, e, _⟩ => by subst e; exact ⟨rfl, rfl⟩) ⟨_, fun cdv A outer s H E ad F0 H0 hr => (pds_cons (psd_set (i := 1) (pd_lst (fun h => pe_lst h) pda_nil) (by show ¬ (1 ∈ ([] : List Nat)); decide) sc_law_pairs.nd rfl (.inl rfl))
      (pds_cons (psd_for (passes_of rfl) rfl (pid_list (pd_var (pv 0))) (pgd_name (i := 2) (vs := [2]) (pg_name (i := 2) sc_law_pairs.nd rfl (.inr rfl)) (by show ¬ (2 ∈ ([] : List Nat)); decide) (by decide))
      (pds_one (psd_set (i := 1) (pd_op op_cat op2_cat (pd_var (pv 1)) (pd_lc (own := [("other", 3)]) (by rfl) sc_law_pairs.nd (pid_list (pd_var (pv 0))) (blkOk_by (own := [("other", 3)]) (N := ["names", "found", "one", "other"]) (sc := defScope s_law_pairs) (by decide +kernel)) (fun _ _ _ _ _ => (pgd_name (i := 3) (vs := [3]) (pg_name (i := 3) sc_law_pairs.nd rfl (.inl rfl)) (by show ¬ (3 ∈ ([] : List Nat)); decide) (by decide))) (fun _ _ _ _ _ => (ptsd_one (ptd_cmp op_ne op2_ne.op (pd_var (pv 3)) (pd_var (pv 2)) (nomark _)))) (fun _ _ _ _ _ => (pd_tup (fun h => pe_tup h) (pda_cons (pd_var (pv 2)) (pda_cons (pd_var (pv 3)) pda_nil)))) (by show ∀ i ∈ ([3] : List Nat), ¬ (i ∈ ([] : List Nat)); decide))) (by show ¬ (1 ∈ ([] : List Nat)); decide) sc_law_pairs.nd rfl (.inl rfl))))
      (pds_one (psd_ret (pd_var (pv 1)))))), ?_⟩
  rintro as Qd Ed ⟨ns, rfl, hn, k⟩
  refine DR.start (δ' := [some (.d (.lst (ns.map .str))), none, none, none]) rfl ?_
  walk_at "dd"
  refine DR.for_inv (fun i δ => ∃ p q, δ = [some (.d (.lst (ns.map .str))), some (.d (.lst (((ns.take i).flatMap (prRow ns)).map prD))), p, q]) ⟨_, _, rfl⟩ ?_ ?_
  · rintro i x δ N hx ⟨p, q, rfl⟩ kN
    obtain ⟨a, ha, rfl⟩ := DR.map_at hx
    walk_at "dd"
    refine DR.lc_filterM (fun b => if b = a then none else some (D.tup [.str a, .str b])) ?_ ?_
    · intro b acc N hb hl kN
      walk_at "dd"
      refine DR.splitN (fun c => ?_) (fun c => ?_)
      · rw [if_pos c, Option.toList_none, List.append_nil] at kN
        exact kN
      · rw [if_neg c] at kN
        walk_at "dd"
        exact ⟨Nat.lt_of_lt_of_le hl (Nat.le_trans hn (by decide)), kN⟩
    · walk_at "dd"
      rw [prRow_f]
      have h1 : ((ns.take i).flatMap (prRow ns)).length ≤ 100 := by
        have h2 := flat_len (f := prRow ns) (n := 10) (l := ns.take i) fun a _ => Nat.le_trans prRow_len hn
        have h3 : (ns.take i).length ≤ 10 := by rw [List.length_take]; omega
        omega
      have h4 : (prRow ns a).length ≤ 10 := Nat.le_trans prRow_len hn
      have e : ((ns.take i).flatMap (prRow ns)).map prD ++ (prRow ns a).map prD = ((ns.take (i + 1)).flatMap (prRow ns)).map prD := by
        rw [List.take_succ, ha, List.flatMap_append, List.map_append]
        simp
      refine ⟨by rw [List.length_map, List.length_map]; exact Nat.le_trans (show _ ≤ 110 by omega) (by decide), ?_⟩
      rw [e]
      exact kN _ ⟨_, _, rfl⟩
  · rintro δ ⟨p, q, rfl⟩
    rw [List.length_map, List.take_length]
    walk_at "dd"
    exact k
end
end KT

set_option Elab.async false
set_option linter.all false
/-! sums that are lowered along the rows -/
namespace KT
open PySem
open Dst (leO Walk IsDist)
def better (rest old : Option Int) (m : Int) : Bool := match rest, old with
  | none, _ => false
  | some _, none => true
  | some r, some o => decide (m + r < o)
def relax (f : Fn) (u d o : Str) (m : Int) : Fn := if better (f d o) (f u o) m = true then up2 f u o (some (m + (f d o).getD 0)) else f
def leF (f g : Fn) : Prop := ∀ x y s, leO (f x y) s → leO (g x y) s
theorem leF.refl (f : Fn) : leF f f := fun _ _ _ h => h
theorem leF.trans {f g h : Fn} (a : leF f g) (b : leF g h) : leF f h := fun x y s z => b x y s (a x y s z)
def Sound (rs : List Row) (f : Fn) : Prop := ∀ a b s, f a b = some s → ∃ n, Walk rs n a b s
theorem relax_mono {f : Fn} {u d o : Str} {m : Int} : leF f (relax f u d o m) := fun x y s ⟨t, e, l⟩ => by
  unfold relax
  by_cases h : better (f d o) (f u o) m = true
  · rw [if_pos h]
    unfold up2
    by_cases q : x = u ∧ y = o
    · rw [if_pos q]
      obtain ⟨rfl, rfl⟩ := q
      rw [e] at h
      cases z : f d y with
      | none => rw [z] at h; cases h
      | some r =>
        rw [z] at h
        have h : decide (m + r < t) = true := h
        exact ⟨_, rfl, by have := of_decide_eq_true h; simp only [Option.getD_some]; omega⟩
    · rw [if_neg q]; exact ⟨t, e, l⟩
  · rw [if_neg h]; exact ⟨t, e, l⟩
theorem relax_sound {rs : List Row} {f : Fn} {u d o : Str} {m : Int} (h : Sound rs f) (hr : (u, d, m) ∈ rs) : Sound rs (relax f u d o m) := fun a b s => by
  unfold relax
  by_cases q : better (f d o) (f u o) m = true
  · rw [if_pos q]
    unfold up2
    by_cases z : a = u ∧ b = o
    · rw [if_pos z]
      obtain ⟨rfl, rfl⟩ := z
      intro e
      cases e
      cases y : f d b with
      | none => rw [y] at q; cases q
      | some r =>
        obtain ⟨n, w⟩ := h _ _ _ y
        exact ⟨n + 1, .cons hr w⟩
    · rw [if_neg z]; exact h a b s
  · rw [if_neg q]; exact h a b s
theorem relax_done {f : Fn} {u d o : Str} {m s : Int} (h : leO (f d o) s) : leO (relax f u d o m u o) (m + s) := by
  obtain ⟨t, e, l⟩ := h
  unfold relax
  rw [e]
  by_cases q : better (some t) (f u o) m = true
  · rw [if_pos q]
    unfold up2
    rw [if_pos ⟨rfl, rfl⟩]
    exact ⟨_, rfl, by simp only [Option.getD_some]; omega⟩
  · rw [if_neg q]
    cases y : f u o with
    | none => rw [y] at q; exact absurd rfl q
    | some p =>
      rw [y] at q
      have q : ¬ decide (m + t < p) = true := q
      exact ⟨p, rfl, by have := of_decide_eq_false (Bool.eq_false_iff.mpr q); omega⟩
/-- within a round that began at f0 -/
structure Rnd (rs done : List Row) (ns : List Str) (f0 f : Fn) : Prop where
  sound : Sound rs f
  mono : leF f0 f
  done : ∀ r ∈ done, ∀ b ∈ ns, ∀ s, leO (f0 r.2.1 b) s → leO (f r.1 b) (r.2.2 + s)
theorem Rnd.start {rs : List Row} {ns : List Str} {f : Fn} (h : Sound rs f) : Rnd rs [] ns f f := ⟨h, .refl _, fun r h => nomatch h⟩
theorem Rnd.relax {rs done : List Row} {ns : List Str} {f0 f : Fn} {u d o : Str} {m : Int} (h : Rnd rs done ns f0 f) (hr : (u, d, m) ∈ rs) : Rnd rs done ns f0 (relax f u d o m) :=
  ⟨relax_sound h.sound hr, h.mono.trans relax_mono, fun r hr b hb s l => relax_mono _ _ _ (h.done r hr b hb s l)⟩
theorem Rnd.row {rs done : List Row} {ns : List Str} {f0 f : Fn} {r : Row} (h : Rnd rs done ns f0 f) (a : ∀ b ∈ ns, ∀ s, leO (f0 r.2.1 b) s → leO (f r.1 b) (r.2.2 + s)) : Rnd rs (done ++ [r]) ns f0 f :=
  ⟨h.sound, h.mono, fun r' h' => (List.mem_append.mp h').elim (h.done r') fun e => by rw [List.mem_singleton.mp e]; exact a⟩
/-- chains of t rows are counted -/
def Upto (rs : List Row) (ns : List Str) (t : Nat) (f : Fn) : Prop := Sound rs f ∧ ∀ a b s, a ∈ ns → b ∈ ns → Walk rs t a b s → leO (f a b) s
theorem Rnd.next {rs : List Row} {ns : List Str} {f0 f : Fn} {t : Nat} (hr : ∀ r ∈ rs, r.1 ∈ ns ∧ r.2.1 ∈ ns) (u : Upto rs ns t f0) (h : Rnd rs rs ns f0 f) : Upto rs ns (t + 1) f := ⟨h.sound, fun a b s ha hb w => by
  cases w with
  | nil => exact h.mono _ _ _ (u.2 _ _ _ ha hb .nil)
  | cons g w => exact h.done _ g b hb _ (u.2 _ _ _ (hr _ g).2 hb w)⟩
def init (a b : Str) : Option Int := if a = b then some 0 else none
theorem upto0 {rs : List Row} {ns : List Str} : Upto rs ns 0 init := by
  refine ⟨fun a b s e => ?_, fun a b s _ _ w => ?_⟩
  · unfold init at e
    by_cases q : a = b
    · rw [if_pos q] at e; cases e; subst q; exact ⟨0, .nil⟩
    · rw [if_neg q] at e; cases e
  · cases w
    unfold init
    rw [if_pos rfl]
    exact ⟨0, rfl, Int.le_refl _⟩
theorem Upto.dist {rs : List Row} {ns : List Str} {f : Fn} (hr : ∀ r ∈ rs, r.1 ∈ ns ∧ r.2.1 ∈ ns) (nn : ∀ r ∈ rs, 0 ≤ r.2.2) (h : Upto rs ns ns.length f) : IsDist ns rs f := ⟨h.1, fun a b n s ha hb w => by
  obtain ⟨s', l, w'⟩ := w.short hr nn ha
  exact (h.2 _ _ _ ha hb w').le l⟩
end KT

set_option Elab.async false
set_option linter.all false
namespace KT
open PySem
open Dst (leO Walk IsDist)
def ins {α : Type} (l : List α) (k : Nat) (x : α) : List α := l.take k ++ [x] ++ l.drop k
theorem ins_perm {α : Type} {l : List α} {k : Nat} {x : α} : (ins l k x).Perm (x :: l) := by
  unfold ins
  rw [List.append_assoc]
  have h : (l.take k ++ ([x] ++ l.drop k)).Perm (x :: (l.take k ++ l.drop k)) := List.perm_middle
  rwa [List.take_append_drop] at h
theorem mem_ins {α : Type} {l : List α} {k : Nat} {x y : α} : y ∈ ins l k x ↔ y = x ∨ y ∈ l := by rw [ins_perm.mem_iff, List.mem_cons]
theorem ins_len {α : Type} {l : List α} {k : Nat} {x : α} : (ins l k x).length = l.length + 1 := by rw [ins_perm.length_eq, List.length_cons]
theorem ins_map {α β : Type} {f : α → β} {l : List α} {k : Nat} {x : α} : (ins l k x).map f = (l.map f).take k ++ [f x] ++ (l.map f).drop k := by
  unfold ins
  rw [List.map_append, List.map_append, List.map_take, List.map_drop]
  rfl
abbrev ends (r : Row) : Str × Str := (r.1, r.2.1)
theorem ins_nd {rs : List Row} {k : Nat} {r : Row} (h : (rs.map ends).Nodup) (n : ends r ∉ rs.map ends) : ((ins rs k r).map ends).Nodup := by
  rw [(ins_perm.map ends).nodup_iff]
  exact List.nodup_cons.mpr ⟨n, h⟩
theorem prs_mem {ns : List Str} {a b : Str} : (a, b) ∈ prs ns ↔ a ∈ ns ∧ b ∈ ns ∧ a ≠ b := by
  unfold prs prRow
  rw [List.mem_flatMap]
  constructor
  · rintro ⟨c, hc, h⟩
    obtain ⟨d, hd, e⟩ := List.mem_map.mp h
    cases e
    obtain ⟨h1, h2⟩ := List.mem_filter.mp hd
    exact ⟨hc, h1, fun e => of_decide_eq_true h2 e.symm⟩
  · rintro ⟨h1, h2, h3⟩
    exact ⟨a, h1, List.mem_map.mpr ⟨b, List.mem_filter.mpr ⟨h2, decide_eq_true fun e => h3 e.symm⟩, rfl⟩⟩
theorem prs_nd {ns : List Str} (nd : ns.Nodup) : (prs ns).Nodup := by
  have go : ∀ l : List Str, l.Nodup → (l.flatMap (prRow ns)).Nodup := fun l => by
    induction l with
    | nil => exact fun _ => .nil
    | cons a l ih =>
      intro h
      obtain ⟨h1, h2⟩ := List.nodup_cons.mp h
      rw [List.flatMap_cons]
      refine List.nodup_append.mpr ⟨?_, ih h2, ?_⟩
      · unfold prRow
        have : ∀ k : List Str, k.Nodup → (k.map fun b => (a, b)).Nodup := fun k => by
          induction k with
          | nil => exact fun _ => .nil
          | cons b k ih =>
            intro h
            obtain ⟨h1, h2⟩ := List.nodup_cons.mp h
            refine List.nodup_cons.mpr ⟨fun z => ?_, ih h2⟩
            obtain ⟨c, hc, e⟩ := List.mem_map.mp z
            cases e
            exact h1 hc
        exact this _ (nd.sublist List.filter_sublist)
      · intro x hx y hy e
        subst e
        obtain ⟨c, hc, hy⟩ := List.mem_flatMap.mp hy
        unfold prRow at hx hy
        obtain ⟨b, _, e1⟩ := List.mem_map.mp hx
        obtain ⟨b', _, e2⟩ := List.mem_map.mp hy
        rw [← e1] at e2
        cases e2
        exact h1 hc
  exact go ns nd
theorem prs_len {ns : List Str} {n : Nat} (h : ns.length ≤ n) : (prs ns).length ≤ n * n := Nat.le_trans (flat_len (n := n) fun a _ => Nat.le_trans prRow_len h) (Nat.mul_le_mul_right n h)
/-- a name of a list without repeats stands not ahead of itself -/
theorem nd_take {α : Type} {l : List α} {i : Nat} {x : α} (nd : l.Nodup) (h : l[i]? = some x) : x ∉ l.take i := fun z => by
  obtain ⟨m, hm, e⟩ := List.mem_take_iff_getElem.mp z
  have hk := (List.getElem?_eq_some_iff.mp h).1
  have e2 := (List.getElem?_eq_some_iff.mp h).2
  have := (List.pairwise_iff_getElem.mp (List.nodup_iff_pairwise_ne.mp nd)) m i (by omega) hk (by omega)
  exact this (e.trans e2.symm)
def RowOk (ns : List Str) (r : Row) : Prop := r.1 ∈ ns ∧ r.2.1 ∈ ns ∧ r.1 ≠ r.2.1 ∧ 0 ≤ r.2.2 ∧ r.2.2 ≤ 1000000000000
structure GoodRows (ns : List Str) (rs : List Row) : Prop where
  row : ∀ r ∈ rs, RowOk ns r
  nd : (rs.map ends).Nodup
  all : ∀ a b, a ∈ ns → b ∈ ns → ∃ n s, Walk rs n a b s
/-- the first turn: rows of the first i pairs -/
structure P1 (ns : List Str) (i : Nat) (rs : List Row) : Prop where
  row : ∀ r ∈ rs, RowOk ns r
  nd : (rs.map ends).Nodup
  inn : ∀ r ∈ rs, ends r ∈ (prs ns).take i
  len : rs.length ≤ i
theorem P1.skip {ns : List Str} {i : Nat} {rs : List Row} (h : P1 ns i rs) : P1 ns (i + 1) rs := ⟨h.row, h.nd, fun r hr => List.mem_take_iff_getElem.mpr (by
  obtain ⟨m, hm, e⟩ := List.mem_take_iff_getElem.mp (h.inn r hr)
  exact ⟨m, by omega, e⟩), Nat.le_succ_of_le h.len⟩
theorem P1.more {ns : List Str} {i k : Nat} {rs : List Row} {a b : Str} {m : Int} (h : P1 ns i rs) (nd : ns.Nodup) (e : (prs ns)[i]? = some (a, b)) (m0 : 0 ≤ m) (m1 : m ≤ 1000000000000) : P1 ns (i + 1) (ins rs k (a, b, m)) := by
  have hp := prs_mem.mp (List.mem_of_getElem? e)
  have hn : (a, b) ∉ rs.map ends := fun z => by
    obtain ⟨r, hr, q⟩ := List.mem_map.mp z
    exact nd_take (prs_nd nd) e (by rw [← q]; exact h.inn r hr)
  refine ⟨fun r hr => ?_, ins_nd h.nd hn, fun r hr => ?_, by rw [ins_len]; exact Nat.succ_le_succ h.len⟩
  · rcases mem_ins.mp hr with rfl | hr
    · exact ⟨hp.1, hp.2.1, hp.2.2, m0, m1⟩
    · exact h.row r hr
  · rcases mem_ins.mp hr with rfl | hr
    · rw [List.take_succ, e]
      exact List.mem_append_right _ List.mem_cons_self
    · exact h.skip.inn r hr
/-- the second turn: the first j pairs have chains -/
structure P2 (ns : List Str) (j : Nat) (rs : List Row) : Prop where
  row : ∀ r ∈ rs, RowOk ns r
  nd : (rs.map ends).Nodup
  all : ∀ p ∈ (prs ns).take j, ∃ n s, Walk rs n p.1 p.2 s
  len : rs.length ≤ (prs ns).length + j
theorem P2.start {ns : List Str} {rs : List Row} (h : P1 ns (prs ns).length rs) : P2 ns 0 rs := ⟨h.row, h.nd, (fun p hp => by rw [List.take_zero] at hp; exact nomatch hp), h.len⟩
theorem P2.skip {ns : List Str} {j : Nat} {rs : List Row} {a b : Str} {f : Fn} {s : Int} (h : P2 ns j rs) (e : (prs ns)[j]? = some (a, b)) (d : IsDist ns rs f) (q : f a b = some s) : P2 ns (j + 1) rs := ⟨h.row, h.nd, fun p hp => by
  rw [List.take_succ, e] at hp
  rcases List.mem_append.mp hp with hp | hp
  · exact h.all p hp
  · rw [List.mem_singleton.mp hp]
    obtain ⟨n, w⟩ := d.sound _ _ _ q
    exact ⟨n, s, w⟩, Nat.le_succ_of_le h.len⟩
theorem P2.more {ns : List Str} {j k : Nat} {rs : List Row} {a b : Str} {m : Int} {f : Fn} (h : P2 ns j rs) (e : (prs ns)[j]? = some (a, b)) (d : IsDist ns rs f) (q : f a b = none) (m0 : 0 ≤ m) (m1 : m ≤ 1000000000000) : P2 ns (j + 1) (ins rs k (a, b, m)) := by
  have hp := prs_mem.mp (List.mem_of_getElem? e)
  have hn : (a, b) ∉ rs.map ends := fun z => by
    obtain ⟨⟨a', b', t⟩, hr, y⟩ := List.mem_map.mp z
    cases y
    obtain ⟨u, y, _⟩ := d.least _ _ _ _ hp.1 hp.2.1 (.cons hr (.nil (n := 0)))
    rw [q] at y
    cases y
  refine ⟨fun r hr => ?_, ins_nd h.nd hn, fun p hp' => ?_, by rw [ins_len]; exact Nat.succ_le_succ h.len⟩
  · rcases mem_ins.mp hr with rfl | hr
    · exact ⟨hp.1, hp.2.1, hp.2.2, m0, m1⟩
    · exact h.row r hr
  · rw [List.take_succ, e] at hp'
    rcases List.mem_append.mp hp' with hp' | hp'
    · obtain ⟨n, s, w⟩ := h.all p hp'
      exact ⟨n, s, w.mono fun r hr => mem_ins.mpr (.inr hr)⟩
    · rw [List.mem_singleton.mp hp']
      exact ⟨1, _, .cons (mem_ins.mpr (.inl rfl)) .nil⟩
theorem P2.done {ns : List Str} {rs : List Row} (h : P2 ns (prs ns).length rs) : GoodRows ns rs := ⟨h.row, h.nd, fun a b ha hb => by
  by_cases e : a = b
  · subst e; exact ⟨0, 0, .nil⟩
  · exact h.all (a, b) (by rw [List.take_length]; exact prs_mem.mpr ⟨ha, hb, e⟩)⟩
end KT

set_option Elab.async false
set_option linter.all false
/-! least sums by names between -/
namespace KT
open PySem
open Dst (leO Walk IsDist)
/-- chains whose names between stand in M -/
inductive IW (rs : List Row) (M : List Str) : Str → Str → Int → Prop
  | nil {a : Str} : IW rs M a a 0
  | row {a b : Str} {m : Int} (h : (a, b, m) ∈ rs) : IW rs M a b m
  | via {a c b : Str} {s t : Int} (h : c ∈ M) (x : IW rs M a c s) (y : IW rs M c b t) : IW rs M a b (s + t)
theorem IW.nonneg {rs : List Row} {M : List Str} (nn : ∀ r ∈ rs, 0 ≤ r.2.2) {a b : Str} {s : Int} (h : IW rs M a b s) : 0 ≤ s := by
  induction h with
  | nil => exact Int.le_refl _
  | row h => exact nn _ h
  | via _ _ _ h1 h2 => omega
theorem IW.split {rs : List Row} {M : List Str} {m : Str} (nn : ∀ r ∈ rs, 0 ≤ r.2.2) {a b : Str} {s : Int} (h : IW rs (M ++ [m]) a b s) :
    (∃ s', IW rs M a b s' ∧ s' ≤ s) ∨ ∃ s1 s2, IW rs M a m s1 ∧ IW rs M m b s2 ∧ s1 + s2 ≤ s := by
  induction h with
  | nil => exact .inl ⟨_, .nil, Int.le_refl _⟩
  | row h => exact .inl ⟨_, .row h, Int.le_refl _⟩
  | @via a c b s t h x y ih1 ih2 =>
    rcases List.mem_append.mp h with h | h
    · rcases ih1 with ⟨s', g, l⟩ | ⟨s1, s2, g1, g2, l⟩
      · rcases ih2 with ⟨t', k, l'⟩ | ⟨t1, t2, k1, k2, l'⟩
        · exact .inl ⟨_, .via h g k, by omega⟩
        · exact .inr ⟨_, _, .via h g k1, k2, by omega⟩
      · rcases ih2 with ⟨t', k, l'⟩ | ⟨t1, t2, k1, k2, l'⟩
        · exact .inr ⟨_, _, g1, .via h g2 k, by omega⟩
        · have := g2.nonneg nn
          have := k1.nonneg nn
          exact .inr ⟨_, _, g1, k2, by omega⟩
    · have e : c = m := List.mem_singleton.mp h
      subst e
      obtain ⟨s', g, l⟩ : ∃ s', IW rs M a c s' ∧ s' ≤ s := by
        rcases ih1 with ⟨s', g, l⟩ | ⟨s1, s2, g1, g2, l⟩
        · exact ⟨_, g, l⟩
        · have := g2.nonneg nn
          exact ⟨_, g1, by omega⟩
      obtain ⟨t', k, l'⟩ : ∃ t', IW rs M c b t' ∧ t' ≤ t := by
        rcases ih2 with ⟨s', g, l⟩ | ⟨s1, s2, g1, g2, l⟩
        · exact ⟨_, g, l⟩
        · have := g1.nonneg nn
          exact ⟨_, g2, by omega⟩
      exact .inr ⟨_, _, g, k, by omega⟩
theorem IW.of {rs : List Row} {ns : List Str} (hr : ∀ r ∈ rs, r.1 ∈ ns ∧ r.2.1 ∈ ns) {n : Nat} {a b : Str} {s : Int} (h : Walk rs n a b s) : IW rs ns a b s := by
  induction h with
  | nil => exact .nil
  | cons h t ih => exact .via (hr _ h).2 (.row h) ih
/-- names between out of M are counted -/
structure Btw (rs : List Row) (ns M : List Str) (f : Fn) : Prop where
  sound : Sound rs f
  dom : ∀ a b s, f a b = some s → a ∈ ns ∧ b ∈ ns
  low : ∀ a b s, a ∈ ns → b ∈ ns → IW rs M a b s → leO (f a b) s
theorem Btw.dist {rs : List Row} {ns : List Str} {f : Fn} (hr : ∀ r ∈ rs, r.1 ∈ ns ∧ r.2.1 ∈ ns) (h : Btw rs ns ns f) : IsDist ns rs f := ⟨h.sound, fun a b n s ha hb w => h.low a b s ha hb (IW.of hr w)⟩
/-- a lower sum is kept -/
def low2 (f : Fn) (a b : Str) (v : Int) : Fn := match f a b with
  | none => up2 f a b (some v)
  | some o => if v < o then up2 f a b (some v) else f
theorem low2_mono {f : Fn} {a b : Str} {v : Int} : leF f (low2 f a b v) := fun x y s ⟨t, e, l⟩ => by
  unfold low2
  cases q : f a b with
  | none =>
    show leO (up2 f a b (some v) x y) s
    unfold up2
    by_cases z : x = a ∧ y = b
    · obtain ⟨rfl, rfl⟩ := z; rw [q] at e; cases e
    · rw [if_neg z]; exact ⟨t, e, l⟩
  | some o =>
    show leO ((if v < o then up2 f a b (some v) else f) x y) s
    by_cases c : v < o
    · rw [if_pos c]
      unfold up2
      by_cases z : x = a ∧ y = b
      · rw [if_pos z]
        obtain ⟨rfl, rfl⟩ := z
        rw [q] at e
        cases e
        exact ⟨v, rfl, by omega⟩
      · rw [if_neg z]; exact ⟨t, e, l⟩
    · rw [if_neg c]; exact ⟨t, e, l⟩
theorem low2_at {f : Fn} {a b : Str} {v : Int} : leO (low2 f a b v a b) v := by
  unfold low2
  cases q : f a b with
  | none => exact ⟨v, by show up2 f a b (some v) a b = _; unfold up2; rw [if_pos ⟨rfl, rfl⟩], Int.le_refl _⟩
  | some o =>
    show leO ((if v < o then up2 f a b (some v) else f) a b) v
    by_cases c : v < o
    · rw [if_pos c]; exact ⟨v, by unfold up2; rw [if_pos ⟨rfl, rfl⟩], Int.le_refl _⟩
    · rw [if_neg c]; exact ⟨o, q, by omega⟩
theorem low2_cases {f : Fn} {a b x y : Str} {v s : Int} (h : low2 f a b v x y = some s) : (x = a ∧ y = b ∧ s = v) ∨ f x y = some s := by
  unfold low2 at h
  cases q : f a b with
  | none =>
    rw [q] at h
    have h : up2 f a b (some v) x y = some s := h
    unfold up2 at h
    by_cases z : x = a ∧ y = b
    · rw [if_pos z] at h; cases h; exact .inl ⟨z.1, z.2, rfl⟩
    · rw [if_neg z] at h; exact .inr h
  | some o =>
    rw [q] at h
    have h : (if v < o then up2 f a b (some v) else f) x y = some s := h
    by_cases c : v < o
    · rw [if_pos c] at h
      unfold up2 at h
      by_cases z : x = a ∧ y = b
      · rw [if_pos z] at h; cases h; exact .inl ⟨z.1, z.2, rfl⟩
      · rw [if_neg z] at h; exact .inr h
    · rw [if_neg c] at h; exact .inr h
/-- sound, over the names alone -/
structure Snd (rs : List Row) (ns : List Str) (f : Fn) : Prop where
  sound : Sound rs f
  dom : ∀ a b s, f a b = some s → a ∈ ns ∧ b ∈ ns
theorem Snd.low2 {rs : List Row} {ns : List Str} {f : Fn} {a b : Str} {v : Int} (h : Snd rs ns f) (ha : a ∈ ns) (hb : b ∈ ns) (w : ∃ n, Walk rs n a b v) : Snd rs ns (low2 f a b v) := ⟨fun x y s e => by
  rcases low2_cases e with ⟨rfl, rfl, rfl⟩ | e
  · exact w
  · exact h.sound _ _ _ e, fun x y s e => by
  rcases low2_cases e with ⟨rfl, rfl, rfl⟩ | e
  · exact ⟨ha, hb⟩
  · exact h.dom _ _ _ e⟩
/-- one turn over a name in the middle, begun at f0 -/
structure Mid (rs : List Row) (ns : List Str) (m : Str) (done : List (Str × Str)) (f0 f : Fn) : Prop where
  snd : Snd rs ns f
  mono : leF f0 f
  done : ∀ p ∈ done, ∀ s t, leO (f0 p.1 m) s → leO (f0 m p.2) t → leO (f p.1 p.2) (s + t)
theorem Mid.end {rs : List Row} {ns M : List Str} {m : Str} {f0 f : Fn} (nn : ∀ r ∈ rs, 0 ≤ r.2.2) (hm : m ∈ ns) (h0 : Btw rs ns M f0) (h : Mid rs ns m (sq ns) f0 f) : Btw rs ns (M ++ [m]) f := ⟨h.snd.sound, h.snd.dom, fun a b s ha hb w => by
  rcases w.split nn with ⟨s', g, l⟩ | ⟨s1, s2, g1, g2, l⟩
  · exact (h.mono _ _ _ (h0.low _ _ _ ha hb g)).le l
  · exact (h.done (a, b) (mem_sq.mpr ⟨ha, hb⟩) _ _ (h0.low _ _ _ ha hm g1) (h0.low _ _ _ hm hb g2)).le l⟩
end KT

set_option Elab.async false
set_option linter.all false
/-! a dict of sums by two names, as far as they are known -/
namespace KT
open PySem DL
open PySem.Spec PyProof.Rows L2
open Dst (leO Walk IsDist)
structure Dct (ns : List Str) (kvs : List (List Key × D)) (f : Fn) : Prop where
  val : ∀ a b, valD kvs (k2 a b) = (f a b).map D.int
  keys : ∀ p ∈ kvs, p.1 ∈ (sq ns).map fun q => k2 q.1 q.2
  nd : (kvs.map (·.1)).Nodup
theorem Dct.nil {ns : List Str} : Dct ns [] fun _ _ => none := ⟨(fun _ _ => rfl), (fun p h => nomatch h), List.Pairwise.nil⟩
theorem Dct.len {ns : List Str} {kvs : List (List Key × D)} {f : Fn} (h : Dct ns kvs f) : kvs.length ≤ ns.length * ns.length := by
  have := Dst.nodup_len (N := List Key) h.nd (k := (sq ns).map fun q => k2 q.1 q.2) fun a ha => by
    obtain ⟨p, hp, rfl⟩ := List.mem_map.mp ha
    exact h.keys p hp
  rw [List.length_map, List.length_map, sq_len] at this
  exact this
theorem val_mem {kvs : List (List Key × D)} {k : List Key} (h : valD kvs k = none) : k ∉ kvs.map (·.1) := fun z => by
  obtain ⟨p, hp, e⟩ := List.mem_map.mp z
  unfold valD at h
  rw [Option.map_eq_none_iff, List.find?_eq_none] at h
  exact h p hp (decide_eq_true e)
theorem val_put {kvs : List (List Key × D)} {k j : List Key} {d : D} : valD (putT kvs k d) j = if j = k then some d else valD kvs j := by
  unfold putT
  cases q : (valD kvs k).isSome with
  | true =>
    rw [if_pos rfl]
    have go : ∀ l : List (List Key × D), valD (l.map fun p => if p.1 = k then (p.1, d) else p) j = if j = k then (valD l j).map fun _ => d else valD l j := fun l => by
      induction l with
      | nil => by_cases e : j = k <;> simp [valD, e]
      | cons p l ih =>
        by_cases e : j = k
        · subst e
          by_cases z : p.1 = j
          · simp [valD, List.find?_cons, z]
          · have := ih
            simp only [if_pos] at this ⊢
            simp [valD, List.find?_cons, z] at this ⊢
            exact this
        · by_cases z : p.1 = j
          · have zk : ¬ p.1 = k := fun y => e (z.symm.trans y)
            simp [valD, List.find?_cons, z, e]
          · have := ih
            rw [if_neg e] at this ⊢
            by_cases zk : p.1 = k
            · simp only [valD, List.map_cons, List.find?_cons] at this ⊢
              simp [z, zk] at this ⊢
              rw [zk] at z
              simp [z]
              exact this
            · simp only [valD, List.map_cons, List.find?_cons] at this ⊢
              simp [z, zk] at this ⊢
              exact this
    rw [go]
    by_cases e : j = k
    · subst e
      rw [if_pos rfl, if_pos rfl]
      cases y : valD kvs j with
      | none => rw [y] at q; cases q
      | some _ => rfl
    · rw [if_neg e, if_neg e]
  | false =>
    rw [if_neg Bool.false_ne_true]
    have hn : valD kvs k = none := by
      cases y : valD kvs k with
      | none => rfl
      | some _ => rw [y] at q; cases q
    unfold valD at hn ⊢
    rw [List.find?_append]
    by_cases e : j = k
    · subst e
      rw [if_pos rfl]
      rw [Option.map_eq_none_iff] at hn
      rw [hn]
      simp
    · rw [if_neg e]
      have : ([(k, d)].find? fun p => decide (p.1 = j)) = none := by simp [Ne.symm e]
      rw [this]
      simp
theorem Dct.put {ns : List Str} {kvs : List (List Key × D)} {f : Fn} {a b : Str} {v : Int} (h : Dct ns kvs f) (ha : a ∈ ns) (hb : b ∈ ns) : Dct ns (putT kvs (k2 a b) (.int v)) (up2 f a b (some v)) := by
  refine ⟨fun x y => ?_, fun p hp => ?_, ?_⟩
  · rw [val_put, h.val]
    unfold up2
    by_cases e : x = a ∧ y = b
    · rw [if_pos e, if_pos (k2_inj.mpr e)]; rfl
    · rw [if_neg e, if_neg fun z => e (k2_inj.mp z)]
  · unfold putT at hp
    cases q : (valD kvs (k2 a b)).isSome with
    | true =>
      rw [q, if_pos rfl] at hp
      obtain ⟨p', hp', e⟩ := List.mem_map.mp hp
      have := h.keys p' hp'
      by_cases z : p'.1 = k2 a b
      · rw [if_pos z] at e; rw [← e]; exact this
      · rw [if_neg z] at e; rw [← e]; exact this
    | false =>
      rw [q, if_neg Bool.false_ne_true] at hp
      rcases List.mem_append.mp hp with hp | hp
      · exact h.keys p hp
      · rw [List.mem_singleton.mp hp]
        exact List.mem_map.mpr ⟨(a, b), mem_sq.mpr ⟨ha, hb⟩, rfl⟩
  · unfold putT
    cases q : (valD kvs (k2 a b)).isSome with
    | true =>
      rw [if_pos rfl, List.map_map]
      have : ((fun p : List Key × D => p.1) ∘ fun p => if p.1 = k2 a b then (p.1, D.int v) else p) = fun p => p.1 := funext fun p => by
        show (if p.1 = k2 a b then (p.1, D.int v) else p).1 = p.1
        by_cases z : p.1 = k2 a b
        · rw [if_pos z]
        · rw [if_neg z]
      rw [this]
      exact h.nd
    | false =>
      rw [if_neg Bool.false_ne_true, List.map_append]
      have hn : valD kvs (k2 a b) = none := by
        cases y : valD kvs (k2 a b) with
        | none => rfl
        | some _ => rw [y] at q; cases q
      refine List.nodup_append.mpr ⟨h.nd, List.nodup_cons.mpr ⟨(fun z => nomatch z), .nil⟩, fun x hx y hy e => ?_⟩
      have e2 : y = k2 a b := List.mem_singleton.mp hy
      subst e
      subst e2
      exact val_mem hn hx
/-- the first turn: each name to itself -/
def own0 (l : List Str) : Fn := fun a b => if a = b ∧ a ∈ l then some 0 else none
theorem own0_next {l : List Str} {a : Str} : up2 (own0 l) a a (some 0) = own0 (l ++ [a]) := by
  funext x y
  unfold up2 own0
  by_cases e : x = a ∧ y = a
  · obtain ⟨rfl, rfl⟩ := e
    rw [if_pos ⟨rfl, rfl⟩, if_pos ⟨rfl, List.mem_append_right _ List.mem_cons_self⟩]
  · rw [if_neg e]
    by_cases z : x = y ∧ x ∈ l
    · rw [if_pos z, if_pos ⟨z.1, List.mem_append_left _ z.2⟩]
    · rw [if_neg z, if_neg fun q => ?_]
      rcases List.mem_append.mp q.2 with h | h
      · exact z ⟨q.1, h⟩
      · have := List.mem_singleton.mp h
        exact e ⟨this, q.1 ▸ this⟩
theorem own0_snd {rs : List Row} {ns : List Str} : Snd rs ns (own0 ns) := by
  refine ⟨fun a b s e => ?_, fun a b s e => ?_⟩
  · unfold own0 at e
    by_cases z : a = b ∧ a ∈ ns
    · rw [if_pos z] at e; cases e; rw [z.1]; exact ⟨0, .nil⟩
    · rw [if_neg z] at e; cases e
  · unfold own0 at e
    by_cases z : a = b ∧ a ∈ ns
    · exact ⟨z.2, z.1 ▸ z.2⟩
    · rw [if_neg z] at e; cases e
theorem own0_at {ns : List Str} {a : Str} (h : a ∈ ns) : leO (own0 ns a a) 0 := ⟨0, if_pos ⟨rfl, h⟩, Int.le_refl _⟩
theorem low2_none {f : Fn} {a b : Str} {v : Int} (e : f a b = none) : low2 f a b v = up2 f a b (some v) := by unfold low2; rw [e]
theorem low2_lt {f : Fn} {a b : Str} {v t : Int} (e : f a b = some t) (h : v < t) : low2 f a b v = up2 f a b (some v) := by unfold low2; rw [e]; exact if_pos h
theorem low2_ge {f : Fn} {a b : Str} {v t : Int} (e : f a b = some t) (h : ¬ v < t) : low2 f a b v = f := by unfold low2; rw [e]; exact if_neg h
theorem Btw.start {rs : List Row} {ns : List Str} {f : Fn} (h : Snd rs ns f) (h0 : ∀ a ∈ ns, leO (f a a) 0) (h1 : ∀ r ∈ rs, leO (f r.1 r.2.1) r.2.2) : Btw rs ns [] f := ⟨h.sound, h.dom, fun a b s ha hb w => by
  cases w with
  | nil => exact h0 a ha
  | row h => exact h1 _ h
  | via h => cases h⟩
end KT

set_option Elab.async false
set_option linter.all false
/-! tables by their entries -/
namespace KT
open PySem
open Dst (leO Walk IsDist)
structure FineRows (ns : List Str) (rs : List Row) : Prop where
  row : ∀ r ∈ rs, r.1 ∈ ns ∧ r.2.1 ∈ ns ∧ r.1 ≠ r.2.1 ∧ 0 ≤ r.2.2
  nd : (rs.map ends).Nodup
  all : ∀ a b, a ∈ ns → b ∈ ns → ∃ n s, Walk rs n a b s
theorem GoodRows.fine {ns : List Str} {rs : List Row} (h : GoodRows ns rs) : FineRows ns rs := ⟨fun r hr => ⟨(h.row r hr).1, (h.row r hr).2.1, (h.row r hr).2.2.1, (h.row r hr).2.2.2.1⟩, h.nd, h.all⟩
abbrev En := Str → Str → Int
structure Ent (ns : List Str) (rs : List Row) (e : En) : Prop where
  at_ : ∀ a b, a ∈ ns → b ∈ ns → ∃ n, Walk rs n a b (e a b)
  low : ∀ a b n s, a ∈ ns → b ∈ ns → Walk rs n a b s → e a b ≤ s
structure Met (ns : List Str) (e : En) : Prop where
  zero : ∀ a, a ∈ ns → e a a = 0
  nn : ∀ a b, a ∈ ns → b ∈ ns → 0 ≤ e a b
  tri : ∀ a b c, a ∈ ns → b ∈ ns → c ∈ ns → e a c ≤ e a b + e b c
theorem walk_nn {rs : List Row} (nn : ∀ r ∈ rs, 0 ≤ r.2.2) {n : Nat} {a b : Str} {s : Int} (h : Walk rs n a b s) : 0 ≤ s := by
  induction h with
  | nil => exact Int.le_refl _
  | cons hm _ ih => have := nn _ hm; simp only at this; omega
theorem Ent.met {ns : List Str} {rs : List Row} {e : En} (h : FineRows ns rs) (t : Ent ns rs e) : Met ns e := by
  have nn : ∀ a b, a ∈ ns → b ∈ ns → 0 ≤ e a b := fun a b ha hb => by
    obtain ⟨n, w⟩ := t.at_ a b ha hb
    exact walk_nn (fun r hr => (h.row r hr).2.2.2) w
  refine ⟨fun a ha => Int.le_antisymm (t.low a a 0 0 ha ha .nil) (nn a a ha ha), nn, fun a b c ha hb hc => ?_⟩
  obtain ⟨n, w⟩ := t.at_ a b ha hb
  obtain ⟨k, v⟩ := t.at_ b c hb hc
  exact t.low a c _ _ ha hc (w.app v)
theorem Ent.unique {ns : List Str} {rs : List Row} {e f : En} (h : Ent ns rs e) (g : Ent ns rs f) {a b : Str} (ha : a ∈ ns) (hb : b ∈ ns) : e a b = f a b := by
  obtain ⟨n, w⟩ := h.at_ a b ha hb
  obtain ⟨k, v⟩ := g.at_ a b ha hb
  exact Int.le_antisymm (h.low _ _ _ _ ha hb v) (g.low _ _ _ _ ha hb w)
theorem IsDist.ent {ns : List Str} {rs : List Row} {f : Fn} (h : FineRows ns rs) (d : IsDist ns rs f) : ∃ e, Ent ns rs e ∧ ∀ a b, a ∈ ns → b ∈ ns → f a b = some (e a b) := by
  have e : ∀ a b, a ∈ ns → b ∈ ns → f a b = some ((f a b).getD 0) := fun a b ha hb => by
    obtain ⟨n, s, w⟩ := h.all a b ha hb
    obtain ⟨t, q, _⟩ := d.least a b n s ha hb w
    rw [q]; rfl
  refine ⟨fun a b => (f a b).getD 0, ⟨fun a b ha hb => d.sound a b _ (e a b ha hb), fun a b n s ha hb w => ?_⟩, e⟩
  obtain ⟨t, q, l⟩ := d.least a b n s ha hb w
  show (f a b).getD 0 ≤ s
  rw [q]; exact l
def entRows (ns : List Str) (e : En) : List Row := (prs ns).map fun p => (p.1, p.2, e p.1 p.2)
theorem entRows_mem {ns : List Str} {e : En} {r : Row} : r ∈ entRows ns e ↔ r.1 ∈ ns ∧ r.2.1 ∈ ns ∧ r.1 ≠ r.2.1 ∧ r.2.2 = e r.1 r.2.1 := by
  unfold entRows
  rw [List.mem_map]
  constructor
  · rintro ⟨⟨a, b⟩, h, rfl⟩
    obtain ⟨h1, h2, h3⟩ := prs_mem.mp h
    exact ⟨h1, h2, h3, rfl⟩
  · obtain ⟨a, b, m⟩ := r
    rintro ⟨h1, h2, h3, h4⟩
    exact ⟨(a, b), prs_mem.mpr ⟨h1, h2, h3⟩, by rw [show m = e a b from h4]⟩
theorem entRows_ends {ns : List Str} {e : En} : (entRows ns e).map ends = prs ns := by
  unfold entRows
  rw [List.map_map]
  exact (List.map_congr_left fun p _ => rfl).trans (List.map_id _)
theorem entRows_len {ns : List Str} {e : En} : (entRows ns e).length = (prs ns).length := by unfold entRows; rw [List.length_map]
theorem entRows_congr {ns : List Str} {e f : En} (h : ∀ a b, a ∈ ns → b ∈ ns → e a b = f a b) : entRows ns e = entRows ns f := List.map_congr_left fun p hp => by
  obtain ⟨h1, h2, _⟩ := prs_mem.mp hp
  rw [h _ _ h1 h2]
theorem fine_ent {ns : List Str} {e : En} (nd : ns.Nodup) (nn : ∀ a b, a ∈ ns → b ∈ ns → 0 ≤ e a b) : FineRows ns (entRows ns e) := by
  refine ⟨fun r hr => ?_, by rw [entRows_ends]; exact prs_nd nd, fun a b ha hb => ?_⟩
  · obtain ⟨h1, h2, h3, h4⟩ := entRows_mem.mp hr
    exact ⟨h1, h2, h3, by rw [h4]; exact nn _ _ h1 h2⟩
  · by_cases q : a = b
    · subst q; exact ⟨0, 0, .nil⟩
    · exact ⟨_, _, .cons (entRows_mem.mpr (show a ∈ ns ∧ b ∈ ns ∧ a ≠ b ∧ e a b = e a b from ⟨ha, hb, q, rfl⟩)) (.nil (n := 0))⟩
/-- what is below all rows is below all walks -/
theorem Met.walk {ns : List Str} {rs : List Row} {g : En} (m : Met ns g) (hr : ∀ r ∈ rs, r.1 ∈ ns ∧ r.2.1 ∈ ns ∧ g r.1 r.2.1 ≤ r.2.2) {n : Nat} {a b : Str} {s : Int} (w : Walk rs n a b s) (ha : a ∈ ns) (hb : b ∈ ns) : g a b ≤ s := by
  induction w with
  | nil => rw [m.zero _ ha]; exact Int.le_refl _
  | cons hm w ih =>
    obtain ⟨h1, h2, h3⟩ := hr _ hm
    simp only at h1 h2 h3
    have := m.tri _ _ _ ha h2 hb
    have := ih h2 hb
    omega
theorem Met.ent {ns : List Str} {e : En} (m : Met ns e) : Ent ns (entRows ns e) e := by
  refine ⟨fun a b ha hb => ?_, fun a b n s ha hb w => m.walk (fun r hr => ?_) w ha hb⟩
  · by_cases q : a = b
    · subst q; rw [m.zero a ha]; exact ⟨0, .nil⟩
    · have w : Walk (entRows ns e) 1 a b (e a b + 0) := .cons (entRows_mem.mpr (show a ∈ ns ∧ b ∈ ns ∧ a ≠ b ∧ e a b = e a b from ⟨ha, hb, q, rfl⟩)) (.nil (n := 0))
      rw [Int.add_zero] at w
      exact ⟨_, w⟩
  · obtain ⟨h1, h2, _, h4⟩ := entRows_mem.mp hr
    exact ⟨h1, h2, by rw [h4]; exact Int.le_refl _⟩
end KT

set_option Elab.async false
set_option linter.all false
set_option maxRecDepth 100000
set_option maxHeartbeats 0
set_option pp.deepTerms false
set_option pp.deepTerms.threshold 8


namespace KT
open PySem PySem.Spec PyProof.Rows L2 DL
open Dst (IsDist)
def sdClosed : SpD := fun as Q _ => ∃ (ns : List Str) (rs : List Row), as = [.d (.lst (ns.map .str)), .d (.lst (rs.map rowD))] ∧ ns.Nodup ∧ ns.length ≤ 10 ∧ (∀ r ∈ rs, r.1 ∈ ns ∧ r.2.1 ∈ ns) ∧ (∀ r ∈ rs, 0 ≤ r.2.2) ∧ ∀ f, IsDist ns rs f → Q (.own (.dT (es (sq ns) f))) []
def sq2 (ns : List Str) (i : Nat) : List (Str × Str) := (ns.take i).flatMap fun x => ns.map fun y => (x, y)
theorem sq2_len {ns : List Str} {i j : Nat} {a : Str} (h : ns.length ≤ 10) : (sq2 ns i ++ (ns.take j).map fun y => (a, y)).length < sizeLine := by
  have h1 := flat_len (f := fun x => ns.map fun y => (x, y)) (n := 10) (l := ns.take i) fun a _ => by rw [List.length_map]; exact h
  have h2 : (ns.take i).length ≤ 10 := by rw [List.length_take]; omega
  have h3 : (ns.take j).length ≤ 10 := by rw [List.length_take]; omega
  rw [List.length_append, List.length_map]
  unfold sq2
  exact Nat.lt_of_le_of_lt (show _ ≤ 110 by omega) (by decide)
theorem sq2_next {ns : List Str} {i j : Nat} {a b : Str} (nd : ns.Nodup) (ha : ns[i]? = some a) (hb : ns[j]? = some b) : putT (es (sq2 ns i ++ (ns.take j).map fun y => (a, y)) init) (k2 a b) (optD (init a b)) = es (sq2 ns i ++ (ns.take (j + 1)).map fun y => (a, y)) init := by
  have e := put_new (f := init) (l := sq2 ns i ++ (ns.take j).map fun y => (a, y)) (sq_take nd ha hb)
  rw [e, List.take_succ, hb, List.map_append, ← List.append_assoc]
  rfl
theorem sq2_all {ns : List Str} : sq2 ns ns.length = sq ns := by
  unfold sq2
  rw [List.take_length]
  rfl
theorem sq2_row {ns : List Str} {i : Nat} {a : Str} (ha : ns[i]? = some a) : sq2 ns i ++ (ns.take ns.length).map (fun y => (a, y)) = sq2 ns (i + 1) := by
  unfold sq2
  rw [List.take_succ, ha, List.flatMap_append, List.take_length]
  simp
section
variable {P : Program} {w : World} {K : PySem.W.Frag} {mg : Str → Option Value} {base : Heap}
abbrev s_law_closed : Stmt := top 38
theorem sc_law_closed : FnScope ["names", "rows", "found", "one", "other", "turn", "up", "down", "most", "rest", "old"] ["names", "rows"] (defScope s_law_closed) := ⟨rfl, rfl, rfl, by decide +kernel, rfl, by decide +kernel, by decide +kernel⟩
theorem ok_closed {f : Addr} {fd : FuncData} (G : Fun K "_law_closed" "_law_closed" s_law_closed f fd) (T : TxtB mg) : FnOk P w K mg base (L2.CX P w) 1 f fd ["names", "rows"] (spOf K sdClosed) := by
  refine okD G sc_law_closed [] (fun as Q E ⟨xs, ys, e, _⟩ => by subst e; exact ⟨rfl, rfl⟩) ⟨_, fun cdv A outer s H E ad F0 H0 hr => (pds_cons (psd_setO (i := 2) (pd_newT pe_dnewT) (by show ¬ (2 ∈ ([] : List Nat)); decide) sc_law_closed.nd rfl (.inl rfl))
      (pds_cons (psd_for (passes_of rfl) rfl (pid_list (pd_var (pv 0))) (pgd_name (i := 3) (vs := [3]) (pg_name (i := 3) sc_law_closed.nd rfl (.inl rfl)) (by show ¬ (3 ∈ ([] : List Nat)); decide) (by decide))
      (pds_one (psd_for (passes_of rfl) rfl (pid_list (pd_var (pv 0))) (pgd_name (i := 4) (vs := [4]) (pg_name (i := 4) sc_law_closed.nd rfl (.inl rfl)) (by show ¬ (4 ∈ ([] : List Nat)); decide) (by decide))
      (pds_one (psd_put (j := 2) (hu_of hr) (fun ho hi hv => ps_dput (hu_of hr) ho hi hv (by rfl)) (pv 2) (pd_ifExp (ptd_cmp op_eq op2_eq.op (pd_var (pv 3)) (pd_var (pv 4)) (nomark _)) (pd_const pe_int (fun _ => .int _)) (pd_const pe_non (fun _ => .non))) (pd_tup (fun h => pe_tup h) (pda_cons (pd_var (pv 3)) (pda_cons (pd_var (pv 4)) pda_nil))))))))
      (pds_cons (psd_for (passes_of rfl) rfl (pid_list (pd_var (pv 0))) (pgd_name (i := 5) (vs := [5]) (pg_name (i := 5) sc_law_closed.nd rfl (.inl rfl)) (by show ¬ (5 ∈ ([] : List Nat)); decide) (by decide))
      (pds_one (psd_for (passes_of rfl) rfl (pid_list (pd_var (pv 1))) (pgd_tup (is := [6, 7, 8]) (vs := [6, 7, 8]) (pg_tup rfl (pgs_cons (pg_name (i := 6) sc_law_closed.nd rfl (.inl rfl)) (pgs_cons (pg_name (i := 7) sc_law_closed.nd rfl (.inl rfl)) (pgs_cons (pg_name (i := 8) sc_law_closed.nd rfl (.inl rfl)) pgs_nil)))) rfl (by show ∀ i ∈ ([6, 7, 8] : List Nat), ¬ (i ∈ ([] : List Nat)) ∧ i ∈ ([6, 7, 8] : List Nat); decide))
      (pds_one (psd_for (passes_of rfl) rfl (pid_list (pd_var (pv 0))) (pgd_name (i := 4) (vs := [4]) (pg_name (i := 4) sc_law_closed.nd rfl (.inl rfl)) (by show ¬ (4 ∈ ([] : List Nat)); decide) (by decide))
      (pds_cons (psd_par (i := 9) (j := 10) (oi := false) (oj := false) (pka_cons (pd_getO (j := 2) (fun ho hi => pe_dget (hu_of hr) ho hi (fun _ _ => rfl)) (pv 2) (pd_tup (fun h => pe_tup h) (pda_cons (pd_var (pv 7)) (pda_cons (pd_var (pv 4)) pda_nil)))) (pka_cons (pd_getO (j := 2) (fun ho hi => pe_dget (hu_of hr) ho hi (fun _ _ => rfl)) (pv 2) (pd_tup (fun h => pe_tup h) (pda_cons (pd_var (pv 6)) (pda_cons (pd_var (pv 4)) pda_nil)))) pka_nil)) (by show ¬ (9 ∈ ([] : List Nat)); decide) (by show ¬ (10 ∈ ([] : List Nat)); decide) (fun h => ps_par (i := 9) (j := 10) (by rfl) sc_law_closed.nd rfl rfl (by decide) rfl rfl h (by rfl)) (by decide))
      (pds_one (psd_if (PW.pt (pwd_and (ptd_cmp op_notN op2_notN.op (pd_var (pv 9)) (pd_const pe_non (fun _ => .non)) (nomark _)) (pwd_and1 (PW.pt (pwd_or (ptd_cmp op_isN op2_isN.op (pd_var (pv 10)) (pd_const pe_non (fun _ => .non)) (nomark _)) (pwd_or1 (ptd_cmp op_lt (op2_I0 fun _ _ _ => .bl _) (pd_op op_add (op2_I0 fun _ _ _ => .int _) (pd_var (pv 8)) (pd_var (pv 9))) (pd_var (pv 10)) (nomark _)))))))) (pds_one (psd_put (j := 2) (hu_of hr) (fun ho hi hv => ps_dput (hu_of hr) ho hi hv (by rfl)) (pv 2) (pd_op op_add (op2_I0 fun _ _ _ => .int _) (pd_var (pv 8)) (pd_var (pv 9))) (pd_tup (fun h => pe_tup h) (pda_cons (pd_var (pv 6)) (pda_cons (pd_var (pv 4)) pda_nil))))) pds_nil))))))))
      (pds_one (psd_ret (pd_mvar (pv 2) (by show ¬ (2 ∈ ([] : List Nat)); decide))))))), ?_⟩
  rintro as Qd Ed ⟨ns, rs, rfl, nd, hn, hrs, nn, k⟩
  refine DR.start (δ' := [some (.d (.lst (ns.map .str))), some (.d (.lst (rs.map rowD))), none, none, none, none, none, none, none, none, none]) rfl ?_
  refine DR.seq (DR.setO (DR.newT ?_))
  with_reducible refine DR.cut (fun δ => ∃ p3 p4, δ = [some (.d (.lst (ns.map .str))), some (.d (.lst (rs.map rowD))), some (.own (.dT (es (sq ns) init))), p3, p4, none, none, none, none, none, none]) (fun N kN => ?_) ?_
  · walk_at "dd"
    refine DR.for_inv (fun i δ => ∃ p3 p4, δ = [some (.d (.lst (ns.map .str))), some (.d (.lst (rs.map rowD))), some (.own (.dT (es (sq2 ns i) init))), p3, p4, none, none, none, none, none, none]) ⟨none, none, rfl⟩ ?_ ?_
    · rintro i x δ N hx ⟨p3, p4, rfl⟩ kN
      obtain ⟨a, ha, rfl⟩ := DR.map_at hx
      walk_at "dd"
      refine DR.for_inv (fun j δ => ∃ p4, δ = [some (.d (.lst (ns.map .str))), some (.d (.lst (rs.map rowD))), some (.own (.dT (es (sq2 ns i ++ (ns.take j).map fun y => (a, y)) init))), some (.d (.str a)), p4, none, none, none, none, none, none]) ⟨_, by simp; rfl⟩ ?_ ?_
      · rintro j x δ N hx ⟨p4, rfl⟩ kN
        obtain ⟨b, hb, rfl⟩ := DR.map_at hx
        walk_at "dd"
        have e := sq2_next nd ha hb
        have q := kN _ ⟨some (.d (.str b)), rfl⟩
        rw [← e] at q
        refine DR.split (fun c => ?_) (fun c => ?_)
        · walk_at "dd"
          refine ⟨_, k2 a b, rfl, rfl, by rw [es_len]; exact sq2_len hn, ?_⟩
          rw [show init a b = some 0 from if_pos c] at q
          exact q
        · walk_at "dd"
          refine ⟨_, k2 a b, rfl, rfl, by rw [es_len]; exact sq2_len hn, ?_⟩
          rw [show init a b = none from if_neg c] at q
          exact q
      · rintro δ ⟨p4, rfl⟩
        rw [List.length_map, sq2_row ha]
        exact kN _ ⟨_, _, rfl⟩
    · rintro δ ⟨p3, p4, rfl⟩
      rw [List.length_map, sq2_all]
      exact kN _ ⟨_, _, rfl⟩
  · rintro δ ⟨p3, p4, rfl⟩
    walk_at "dd"
    refine DR.for_inv (fun t δ => ∃ f p3 p4 p5 p6 p7 p8 p9 p10, δ = [some (.d (.lst (ns.map .str))), some (.d (.lst (rs.map rowD))), some (.own (.dT (es (sq ns) f))), p3, p4, p5, p6, p7, p8, p9, p10] ∧ Upto rs ns t f) ⟨init, _, _, _, _, _, _, _, _, rfl, upto0⟩ ?_ ?_
    · rintro t x δ N hx ⟨f0, p3, p4, p5, p6, p7, p8, p9, p10, rfl, hu⟩ kN
      walk_at "dd"
      refine DR.for_inv (fun j δ => ∃ f p3 p4 p5 p6 p7 p8 p9 p10, δ = [some (.d (.lst (ns.map .str))), some (.d (.lst (rs.map rowD))), some (.own (.dT (es (sq ns) f))), p3, p4, p5, p6, p7, p8, p9, p10] ∧ Rnd rs (rs.take j) ns f0 f) ⟨f0, _, _, _, _, _, _, _, _, rfl, Rnd.start hu.1⟩ ?_ ?_
      · rintro j x δ N hx ⟨f1, p3, p4, p5, p6, p7, p8, p9, p10, rfl, h1⟩ kN
        obtain ⟨⟨u, d, m⟩, hr, rfl⟩ := DR.map_at hx
        have hm := List.mem_of_getElem? hr
        walk_at "dd"
        refine DR.for_inv (fun l δ => ∃ f p3 p4 p5 p9 p10, δ = [some (.d (.lst (ns.map .str))), some (.d (.lst (rs.map rowD))), some (.own (.dT (es (sq ns) f))), p3, p4, p5, some (.d (.str u)), some (.d (.str d)), some (.d (.int m)), p9, p10] ∧ Rnd rs (rs.take j) ns f0 f ∧ ∀ b ∈ ns.take l, ∀ s, Dst.leO (f0 d b) s → Dst.leO (f u b) (m + s)) ⟨f1, _, _, _, _, _, rfl, h1, fun b hb => nomatch hb⟩ ?_ ?_
        · rintro l x δ N hx ⟨f, p3, p4, p5, p9, p10, rfl, h2, hl⟩ kN
          obtain ⟨o, ho, rfl⟩ := DR.map_at hx
          have hom := List.mem_of_getElem? ho
          walk_at "dd"
          refine ⟨_, k2 d o, _, rfl, rfl, val_es (mem_sq.mpr ⟨(hrs _ hm).2, hom⟩), ?_⟩
          walk_at "dd"
          refine ⟨_, k2 u o, _, rfl, rfl, val_es (mem_sq.mpr ⟨(hrs _ hm).1, hom⟩), ?_⟩
          walk_at "dd"
          have fin : ∀ q9 q10, N [some (.d (.lst (ns.map .str))), some (.d (.lst (rs.map rowD))), some (.own (.dT (es (sq ns) (relax f u d o m)))), p3, some (.d (.str o)), p5, some (.d (.str u)), some (.d (.str d)), some (.d (.int m)), q9, q10] := fun q9 q10 => by
            refine kN _ ⟨relax f u d o m, _, _, _, _, _, rfl, h2.relax hm, fun b hb s ls => ?_⟩
            rw [List.take_succ, ho] at hb
            rcases List.mem_append.mp hb with hb | hb
            · exact relax_mono _ _ _ (hl b hb s ls)
            · have e : b = o := List.mem_singleton.mp hb
              subst e
              exact relax_done (h2.mono _ _ _ ls)
          cases e1 : f d o with
          | none =>
            refine ⟨true, rfl, ⟨fun _ => rfl, fun _ => rfl⟩, ?_⟩
            walk_at "dd"
            have e : relax f u d o m = f := by unfold relax; rw [e1, if_neg (fun z => nomatch z)]
            rw [e] at fin
            exact fin _ _
          | some r =>
            refine ⟨false, rfl, ⟨(fun h => nomatch h), (fun h => nomatch h)⟩, ?_⟩
            walk_at "dd"
            cases e2 : f u o with
            | none =>
              refine ⟨true, rfl, ⟨fun _ => rfl, fun _ => rfl⟩, ?_⟩
              walk_at "dd"
              refine ⟨_, k2 u o, rfl, rfl, by rw [es_len, sq_len]; exact Nat.lt_of_le_of_lt (Nat.mul_le_mul hn hn) (by decide), ?_⟩
              have e : es (sq ns) (relax f u d o m) = putT (es (sq ns) f) (k2 u o) (.int (m + r)) := by
                unfold relax
                rw [if_pos (show better (f d o) (f u o) m = true by rw [e1, e2]; rfl), ← put_es (mem_sq.mpr ⟨(hrs _ hm).1, hom⟩), e1]
                rfl
              rw [e] at fin
              exact fin _ _
            | some t =>
              refine ⟨false, rfl, ⟨(fun h => nomatch h), (fun h => nomatch h)⟩, ?_⟩
              walk_at "dd"
              refine DR.split (fun c => ?_) (fun c => ?_)
              · walk_at "dd"
                refine ⟨_, k2 u o, rfl, rfl, by rw [es_len, sq_len]; exact Nat.lt_of_le_of_lt (Nat.mul_le_mul hn hn) (by decide), ?_⟩
                have e : es (sq ns) (relax f u d o m) = putT (es (sq ns) f) (k2 u o) (.int (m + r)) := by
                  unfold relax
                  rw [if_pos (show better (f d o) (f u o) m = true by rw [e1, e2]; exact decide_eq_true c), ← put_es (mem_sq.mpr ⟨(hrs _ hm).1, hom⟩), e1]
                  rfl
                rw [e] at fin
                exact fin _ _
              · walk_at "dd"
                have e : relax f u d o m = f := by
                  unfold relax
                  rw [if_neg (by rw [e1, e2]; show ¬ decide (m + r < t) = true; rw [decide_eq_false c]; exact Bool.false_ne_true)]
                rw [e] at fin
                exact fin _ _
        · rintro δ ⟨f, p3, p4, p5, p9, p10, rfl, h2, hl⟩
          rw [List.length_map, List.take_length] at hl
          refine kN _ ⟨f, _, _, _, _, _, _, _, _, rfl, ?_⟩
          rw [List.take_succ, hr]
          exact h2.row hl
      · rintro δ ⟨f, p3, p4, p5, p6, p7, p8, p9, p10, rfl, h1⟩
        rw [List.length_map, List.take_length] at h1
        exact kN _ ⟨f, _, _, _, _, _, _, _, _, rfl, h1.next hrs hu⟩
    · rintro δ ⟨f, p3, p4, p5, p6, p7, p8, p9, p10, rfl, hu⟩
      rw [List.length_map] at hu
      walk_at "dd"
      exact k f (hu.dist hrs nn)
end
end KT

set_option Elab.async false
set_option linter.all false
set_option maxRecDepth 100000
set_option maxHeartbeats 0
set_option pp.deepTerms false
set_option pp.deepTerms.threshold 8


namespace KT
open PySem PySem.Spec PyProof.Rows L2 DL
open Dst (IsDist Walk)
def cash : Str := "cash"
def sdRows : SpD := fun as Q _ => ∃ (xs : List D) (n : Nat) (gs : List Str), as = [.own (.lst xs), .d (.lst (gs.map .str))] ∧ Src n xs ∧ n < 999990000 ∧ Goods gs ∧ ∀ (rs : List Row) (ys : List D) (m : Nat), GoodRows (cash :: gs) rs → m ≤ n + 400 → Src m ys → Q (.own (.lst (rs.map rowD))) [.lst ys]
theorem pln_es {ns : List Str} {f : Fn} : PlnV (.own (.dT (es (sq ns) f))) := fun p hp => by
  obtain ⟨q, _, rfl⟩ := List.mem_map.mp hp
  show Pln (optD _)
  cases f q.1 q.2 <;> exact True.intro
theorem ins_back {α β : Type} {f : α → β} {l : List α} {k : Nat} {x : α} {y : β} (h : y = f x) : (l.map f).take k ++ [y] ++ (l.map f).drop k = (ins l k x).map f := by rw [ins_map, h]
theorem size {xs : List D} {n : Nat} {Q : DV → List OC → Prop} {E : Ex → List OC → Prop} (s : Src n xs) (h : n < 999999998) (k : ∀ (r : Int) (ys : List D), 0 ≤ r → r ≤ 1000000000000 → Src (n + 2) ys → Q (.d (.int r)) [.lst ys]) : sdSize [.own (.lst xs)] Q E := ⟨xs, n, rfl, s, h, k⟩
section
variable {P : Program} {w : World} {K : PySem.W.Frag} {mg : Str → Option Value} {base : Heap}
abbrev s_law_rows : Stmt := top 39
theorem sc_law_rows : FnScope ["source", "goods", "names", "often", "found", "one", "other", "closed"] ["source", "goods"] (defScope s_law_rows) := ⟨rfl, rfl, rfl, by decide +kernel, rfl, by decide +kernel, by decide +kernel⟩
theorem ok_rows (D_law_draw : DefD P w K mg base "_law_draw" 1 ["source", "many"] sdDraw) (D_law_size : DefD P w K mg base "_law_size" 3 ["source"] sdSize) (D_law_pairs : DefD P w K mg base "_law_pairs" 1 ["names"] sdPairs) (D_law_closed_L : DefD P w K mg base "_law_closed" 1 ["names", "rows"] (lent sdClosed)) {f : Addr} {fd : FuncData} (G : Fun K "_law_rows" "_law_rows" s_law_rows f fd) (T : TxtB mg) : FnOk P w K mg base (L2.CX P w) 5 f fd ["source", "goods"] (spOf K sdRows) := by
  refine okD G sc_law_rows [0] (fun as Q E ⟨xs, m, g, e, _⟩ => by subst e; exact ⟨rfl, rfl⟩) ⟨_, fun cdv A outer s H E ad F0 H0 hr => (pds_cons (psd_set (i := 2) (pd_op op_cat op2_cat (pd_lst (fun h => pe_lst h) (pda_cons (pd_const pe_str (fun _ => .str (by decide +kernel))) pda_nil)) (pd_var (pv 1))) (by show ¬ (2 ∈ ([0] : List Nat)); decide) sc_law_rows.nd rfl (.inl rfl))
      (pds_cons (psd_par (i := 3) (j := 4) (oi := false) (oj := true) (pka_cons (pd_op op_add (op2_I0 fun _ _ _ => .int _) (pd_const pe_int (fun _ => .int _)) (pd_call D_law_draw.ok (hr.mono (by decide)) (by rfl) D_law_draw.mg D_law_draw.kp D_law_draw.b (takes_of rfl rfl rfl rfl) (pda_own (i := 0) (pv 0) (pda_cons (pd_const pe_int (fun _ => .int _)) pda_nil)))) (pka_cons (pd_lst (fun h => pe_lst h) pda_nil) pka_nil)) (by show ¬ (3 ∈ ([0] : List Nat)); decide) (by show ¬ (4 ∈ ([0] : List Nat)); decide) (fun h => ps_par (i := 3) (j := 4) (by rfl) sc_law_rows.nd rfl rfl (by decide) rfl rfl h (by rfl)) (by decide))
      (pds_cons (psd_for (passes_of rfl) rfl (pid_list (pd_call D_law_pairs.ok (hr.mono (by decide)) (by rfl) D_law_pairs.mg D_law_pairs.kp D_law_pairs.b (takes_of rfl rfl rfl rfl) (pda_cons (pd_var (pv 2)) pda_nil))) (pgd_tup (is := [5, 6]) (vs := [5, 6]) (pg_tup rfl (pgs_cons (pg_name (i := 5) sc_law_rows.nd rfl (.inl rfl)) (pgs_cons (pg_name (i := 6) sc_law_rows.nd rfl (.inl rfl)) pgs_nil))) rfl (by show ∀ i ∈ ([5, 6] : List Nat), ¬ (i ∈ ([0] : List Nat)) ∧ i ∈ ([5, 6] : List Nat); decide))
      (pds_one (psd_if (ptd_cmp op_lt (op2_I0 fun _ _ _ => .bl _) (pd_call D_law_draw.ok (hr.mono (by decide)) (by rfl) D_law_draw.mg D_law_draw.kp D_law_draw.b (takes_of rfl rfl rfl rfl) (pda_own (i := 0) (pv 0) (pda_cons (pd_const pe_int (fun _ => .int _)) pda_nil))) (pd_var (pv 3)) (nomark _)) (pds_one (psd_expr (pd_methO (j := 4) (fun ho h => pe_bm PySem.F.plainAttrs_list PySem.F.slot_list_insert PySem.F.type_list_insert mt_insert ho h) mo_insert (pv 4) (pda_cons (pd_call D_law_draw.ok (hr.mono (by decide)) (by rfl) D_law_draw.mg D_law_draw.kp D_law_draw.b (takes_of rfl rfl rfl rfl) (pda_own (i := 0) (pv 0) (pda_cons (pd_op op_add (op2_I0 fun _ _ _ => .int _) (pd_builtO (i := 4) (fun h => pe_callB call_len_seq (by rfl) T.b_len (by decide +kernel) h) cn_len (pv 4)) (pd_const pe_int (fun _ => .int _))) pda_nil))) (pda_cons (pd_tup (fun h => pe_tup h) (pda_cons (pd_var (pv 5)) (pda_cons (pd_var (pv 6)) (pda_cons (pd_call D_law_size.ok (hr.mono (by decide)) (by rfl) D_law_size.mg D_law_size.kp D_law_size.b (takes_of rfl rfl rfl rfl) (pda_own (i := 0) (pv 0) pda_nil)) pda_nil)))) pda_nil))))) pds_nil)))
      (pds_cons (psd_set (i := 7) (pd_call D_law_closed_L.ok (hr.mono (by decide)) (by rfl) D_law_closed_L.mg D_law_closed_L.kp D_law_closed_L.b (takes_of rfl rfl rfl rfl) (pda_cons (pd_var (pv 2)) (pda_own (i := 4) (pv 4) pda_nil))) (by show ¬ (7 ∈ ([0] : List Nat)); decide) sc_law_rows.nd rfl (.inl rfl))
      (pds_cons (psd_for (passes_of rfl) rfl (pid_list (pd_call D_law_pairs.ok (hr.mono (by decide)) (by rfl) D_law_pairs.mg D_law_pairs.kp D_law_pairs.b (takes_of rfl rfl rfl rfl) (pda_cons (pd_var (pv 2)) pda_nil))) (pgd_tup (is := [5, 6]) (vs := [5, 6]) (pg_tup rfl (pgs_cons (pg_name (i := 5) sc_law_rows.nd rfl (.inl rfl)) (pgs_cons (pg_name (i := 6) sc_law_rows.nd rfl (.inl rfl)) pgs_nil))) rfl (by show ∀ i ∈ ([5, 6] : List Nat), ¬ (i ∈ ([0] : List Nat)) ∧ i ∈ ([5, 6] : List Nat); decide))
      (pds_one (psd_if (ptd_cmp op_isN op2_isN.op (pd_get (fun ho hi => pe_dget (hu_of hr) ho hi (fun _ _ => rfl)) (pd_var (pv 7)) (pd_tup (fun h => pe_tup h) (pda_cons (pd_var (pv 5)) (pda_cons (pd_var (pv 6)) pda_nil)))) (pd_const pe_non (fun _ => .non)) (nomark _)) (pds_cons (psd_expr (pd_methO (j := 4) (fun ho h => pe_bm PySem.F.plainAttrs_list PySem.F.slot_list_insert PySem.F.type_list_insert mt_insert ho h) mo_insert (pv 4) (pda_cons (pd_call D_law_draw.ok (hr.mono (by decide)) (by rfl) D_law_draw.mg D_law_draw.kp D_law_draw.b (takes_of rfl rfl rfl rfl) (pda_own (i := 0) (pv 0) (pda_cons (pd_op op_add (op2_I0 fun _ _ _ => .int _) (pd_builtO (i := 4) (fun h => pe_callB call_len_seq (by rfl) T.b_len (by decide +kernel) h) cn_len (pv 4)) (pd_const pe_int (fun _ => .int _))) pda_nil))) (pda_cons (pd_tup (fun h => pe_tup h) (pda_cons (pd_var (pv 5)) (pda_cons (pd_var (pv 6)) (pda_cons (pd_call D_law_size.ok (hr.mono (by decide)) (by rfl) D_law_size.mg D_law_size.kp D_law_size.b (takes_of rfl rfl rfl rfl) (pda_own (i := 0) (pv 0) pda_nil)) pda_nil)))) pda_nil))))
      (pds_one (psd_set (i := 7) (pd_call D_law_closed_L.ok (hr.mono (by decide)) (by rfl) D_law_closed_L.mg D_law_closed_L.kp D_law_closed_L.b (takes_of rfl rfl rfl rfl) (pda_cons (pd_var (pv 2)) (pda_own (i := 4) (pv 4) pda_nil))) (by show ¬ (7 ∈ ([0] : List Nat)); decide) sc_law_rows.nd rfl (.inl rfl)))) pds_nil)))
      (pds_one (psd_ret (pd_mvar (pv 4) (by show ¬ (4 ∈ ([0] : List Nat)); decide))))))))), ?_⟩
  rintro as Qd Ed ⟨xs, n, gs, rfl, hs, hn, hg, k⟩
  refine DR.start (δ' := [some (.own (.lst xs)), some (.d (.lst (gs.map .str))), none, none, none, none, none, none]) rfl ?_
  obtain ⟨nd, hl, hns⟩ : (cash :: gs).Nodup ∧ (cash :: gs).length ≤ 6 ∧ ([D.str "cash"] ++ gs.map D.str) = (cash :: gs).map D.str := ⟨List.nodup_cons.mpr ⟨fun h => (hg.2.2.2 _ h).1 rfl, hg.1⟩, by rw [List.length_cons]; have := hg.2.2.1; omega, rfl⟩
  walk_at "dd"
  refine ⟨by show 1 + (gs.map D.str).length ≤ sizeLine; rw [List.length_map]; have := hg.2.2.1; exact Nat.le_trans (show _ ≤ 6 by omega) (by decide), ?_⟩
  rw [show ([(DV.d (D.str (Str.ofString "cash"))).toD] ++ gs.map D.str) = (cash :: gs).map D.str from rfl]
  generalize (cash :: gs) = ns at nd hl k
  with_reducible refine DR.cut (fun δ => ∃ ys often m, δ = [some (.own (.lst ys)), some (.d (.lst (gs.map .str))), some (.d (.lst (ns.map .str))), some (.d (.int often)), some (.own (.lst [])), none, none, none] ∧ Src m ys ∧ m ≤ n + 1) (fun N kN => ?_) ?_
  · walk_at "dd"
    refine draw hs (by omega) (by decide) (by decide) fun r ys r0 r1 hs => ?_
    walk_at "dd"
    exact kN _ ⟨_, _, _, rfl, hs, by omega⟩
  rintro δ ⟨ys, often, m, rfl, hs, hm⟩
  with_reducible refine DR.cut (fun δ => ∃ ys m rs p5 p6 p7, δ = [some (.own (.lst ys)), some (.d (.lst (gs.map .str))), some (.d (.lst (ns.map .str))), some (.d (.int often)), some (.own (.lst (rs.map rowD))), p5, p6, p7] ∧ Src m ys ∧ m ≤ n + 1 + 4 * 36 ∧ P1 ns (prs ns).length rs) (fun N kN => ?_) ?_
  · walk_at "dd"
    refine ⟨ns, rfl, by omega, ?_⟩
    walk_at "dd"
    refine DR.for_inv (fun i δ => ∃ ys m rs p5 p6 p7, δ = [some (.own (.lst ys)), some (.d (.lst (gs.map .str))), some (.d (.lst (ns.map .str))), some (.d (.int often)), some (.own (.lst (rs.map rowD))), p5, p6, p7] ∧ Src m ys ∧ m ≤ n + 1 + 4 * i ∧ i ≤ 36 ∧ P1 ns i rs) ⟨ys, m, [], _, _, _, rfl, hs, by omega, by omega, (fun r h => nomatch h), .nil, (fun r h => nomatch h), Nat.le_refl _⟩ ?_ ?_
    · rintro i x δ N hx ⟨ys, m, rs, p5, p6, p7, rfl, hs, hm, hi, h1⟩ kN
      obtain ⟨⟨a, b⟩, hab, rfl⟩ := DR.map_at hx
      have hi36 : i + 1 ≤ 36 := Nat.le_trans (DR.at_lt hab) (prs_len hl)
      walk_at "dd"
      refine draw hs (by omega) (by decide) (by decide) fun r ys r0 r1 hs => ?_
      walk_at "dd"
      refine DR.split (fun c => ?_) (fun c => ?_)
      · walk_at "dd"
        have hlen : (rs.map rowD).length ≤ 36 := by rw [List.length_map]; exact Nat.le_trans h1.len hi
        refine draw hs (by omega) (by omega) (by omega) fun r ys r0 r1 hs => ?_
        walk_at "dd"
        refine size hs (by omega) fun z ys z0 z1 hs => ?_
        walk_at "dd"
        refine ⟨[_, _], _, rfl, rfl, _, _, rfl, Nat.lt_of_le_of_lt hlen (by decide), r0, by omega, ?_⟩
        have q := kN _ ⟨ys, _, ins rs r.toNat (a, b, z), some (.d (.str a)), some (.d (.str b)), p7, rfl, hs, by omega, hi36, h1.more nd hab z0 z1⟩
        rw [ins_map] at q
        exact q
      · walk_at "dd"
        exact kN _ ⟨ys, _, rs, _, _, _, rfl, hs, by omega, hi36, h1.skip⟩
    · rintro δ ⟨ys, m, rs, p5, p6, p7, rfl, hs, hm, hi, h1⟩
      rw [List.length_map] at h1
      exact kN _ ⟨ys, m, rs, _, _, _, rfl, hs, by omega, h1⟩
  rintro δ ⟨ys, m, rs, p5, p6, p7, rfl, hs, hm, h1⟩
  walk_at "dd"
  refine ⟨ns, rs, rfl, nd, by omega, fun r hr => ⟨(h1.row r hr).1, (h1.row r hr).2.1⟩, fun r hr => (h1.row r hr).2.2.2.1, fun f hf => ⟨rfl, pln_es, ?_⟩⟩
  walk_at "dd"
  refine ⟨ns, rfl, by omega, ?_⟩
  walk_at "dd"
  refine DR.for_inv (fun j δ => ∃ ys m rs p5 p6 f, δ = [some (.own (.lst ys)), some (.d (.lst (gs.map .str))), some (.d (.lst (ns.map .str))), some (.d (.int often)), some (.own (.lst (rs.map rowD))), p5, p6, some (.d (.dT (es (sq ns) f)))] ∧ Src m ys ∧ m ≤ n + 145 + 3 * j ∧ j ≤ 36 ∧ P2 ns j rs ∧ IsDist ns rs f) ⟨ys, m, rs, _, _, f, rfl, hs, by omega, by omega, .start h1, hf⟩ ?_ ?_
  · rintro i x δ N hx ⟨ys, m, rs, p5, p6, f, rfl, hs, hm, hi, h2, hf⟩ kN
    obtain ⟨⟨a, b⟩, hab, rfl⟩ := DR.map_at hx
    have hi36 : i + 1 ≤ 36 := Nat.le_trans (DR.at_lt hab) (prs_len hl)
    have hpl := prs_len hl
    have hmem := prs_mem.mp (List.mem_of_getElem? hab)
    walk_at "dd"
    refine ⟨_, k2 a b, _, rfl, rfl, val_es (mem_sq.mpr ⟨hmem.1, hmem.2.1⟩), ?_⟩
    walk_at "dd"
    cases e1 : f a b with
    | none =>
      refine ⟨true, rfl, ⟨fun _ => rfl, fun _ => rfl⟩, ?_⟩
      walk_at "dd"
      have hlen : (rs.map rowD).length ≤ 72 := by rw [List.length_map]; exact Nat.le_trans h2.len (by omega)
      refine draw hs (by omega) (by omega) (by omega) fun r ys r0 r1 hs => ?_
      walk_at "dd"
      refine size hs (by omega) fun z ys z0 z1 hs => ?_
      walk_at "dd"
      refine ⟨[_, _], _, rfl, rfl, _, _, rfl, Nat.lt_of_le_of_lt hlen (by decide), r0, by omega, ?_⟩
      rw [ins_back (f := rowD) (l := rs) (x := (a, b, z)) (k := r.toNat)]
      rotate_left
      · rfl
      have h3 := h2.more (k := r.toNat) hab hf e1 z0 z1
      walk_at "dd"
      refine ⟨ns, ins rs r.toNat (a, b, z), rfl, nd, by omega, fun r hr => ⟨(h3.row r hr).1, (h3.row r hr).2.1⟩, fun r hr => (h3.row r hr).2.2.2.1, fun f hf => ⟨rfl, pln_es, ?_⟩⟩
      exact kN _ ⟨ys, _, ins rs r.toNat (a, b, z), _, _, f, rfl, hs, by omega, hi36, h3, hf⟩
    | some t =>
      refine ⟨false, rfl, ⟨(fun h => nomatch h), (fun h => nomatch h)⟩, ?_⟩
      walk_at "dd"
      exact kN _ ⟨ys, m, rs, _, _, f, rfl, hs, by omega, hi36, h2.skip hab hf e1, hf⟩
  · rintro δ ⟨ys, m, rs, p5, p6, f, rfl, hs, hm, hi, h2, hf⟩
    rw [List.length_map] at h2
    walk_at "dd"
    exact k rs ys m h2.done (by omega) hs
end
end KT

set_option Elab.async false
set_option linter.all false
set_option maxRecDepth 100000
set_option maxHeartbeats 0
set_option pp.deepTerms false
set_option pp.deepTerms.threshold 8


namespace KT
open PySem PySem.Spec PyProof.Rows L2 DL
open Dst (IsDist Walk leO)
def sdSums : SpD := fun as Q _ => ∃ (ns : List Str) (rs : List Row) (x : D), as = [.d (.tup (ns.map .str)), .d x] ∧ (x = .lst (rs.map rowD) ∨ x = .ro (rs.map rowD) ∨ x = .tup (rs.map rowD)) ∧ ns.length ≤ 10 ∧ (∀ r ∈ rs, r.1 ∈ ns ∧ r.2.1 ∈ ns) ∧ (∀ r ∈ rs, 0 ≤ r.2.2) ∧ ∀ kvs f, Dct ns kvs f → IsDist ns rs f → Q (.own (.dT kvs)) []
theorem own0_nil : own0 [] = fun _ _ => none := by
  funext a b
  unfold own0
  exact if_neg fun h => nomatch h.2
section
variable {P : Program} {w : World} {K : PySem.W.Frag} {mg : Str → Option Value} {base : Heap}
abbrev s_closed_sums : Stmt := top 2
theorem sc_closed_sums : FnScope ["assets", "rows", "sums", "asset", "up", "down", "most", "middle", "through"] ["assets", "rows"] (defScope s_closed_sums) := ⟨rfl, rfl, rfl, by decide +kernel, rfl, by decide +kernel, by decide +kernel⟩
theorem ok_sums {f : Addr} {fd : FuncData} (G : Fun K "closed_sums" "closed_sums" s_closed_sums f fd) (T : TxtB mg) : FnOk P w K mg base (L2.CX P w) 1 f fd ["assets", "rows"] (spOf K sdSums) := by
  refine okD G sc_closed_sums [] (fun as Q E ⟨xs, ys, z, e, _⟩ => by subst e; exact ⟨rfl, rfl⟩) ⟨_, fun cdv A outer s H E ad F0 H0 hr => (pds_cons (psd_setO (i := 2) (pd_newT pe_dnewT) (by show ¬ (2 ∈ ([] : List Nat)); decide) sc_closed_sums.nd rfl (.inl rfl))
      (pds_cons (psd_for (passes_of rfl) rfl (pid_tup (pd_var (pv 0))) (pgd_name (i := 3) (vs := [3]) (pg_name (i := 3) sc_closed_sums.nd rfl (.inl rfl)) (by show ¬ (3 ∈ ([] : List Nat)); decide) (by decide))
      (pds_one (psd_put (j := 2) (hu_of hr) (fun ho hi hv => ps_dput (hu_of hr) ho hi hv (by rfl)) (pv 2) (pd_const pe_int (fun _ => .int _)) (pd_tup (fun h => pe_tup h) (pda_cons (pd_var (pv 3)) (pda_cons (pd_var (pv 3)) pda_nil))))))
      (pds_cons (psd_for (passes_of rfl) rfl (pid_seq (pd_var (pv 1))) (pgd_tup (is := [4, 5, 6]) (vs := [4, 5, 6]) (pg_tup rfl (pgs_cons (pg_name (i := 4) sc_closed_sums.nd rfl (.inl rfl)) (pgs_cons (pg_name (i := 5) sc_closed_sums.nd rfl (.inl rfl)) (pgs_cons (pg_name (i := 6) sc_closed_sums.nd rfl (.inl rfl)) pgs_nil)))) rfl (by show ∀ i ∈ ([4, 5, 6] : List Nat), ¬ (i ∈ ([] : List Nat)) ∧ i ∈ ([4, 5, 6] : List Nat); decide))
      (pds_one (psd_if (PW.pt (pwd_or (ptd_inO_f (j := 2) (fun hi ho => pt_cmp (pc_dnotin (hu_of hr) hi ho)) (pd_tup (fun h => pe_tup h) (pda_cons (pd_var (pv 4)) (pda_cons (pd_var (pv 5)) pda_nil))) (pv 2)) (pwd_or1 (ptd_cmp op_lt (op2_I0 fun _ _ _ => .bl _) (pd_var (pv 6)) (pd_getO (j := 2) (fun ho hi => pe_dget (hu_of hr) ho hi (fun _ _ => rfl)) (pv 2) (pd_tup (fun h => pe_tup h) (pda_cons (pd_var (pv 4)) (pda_cons (pd_var (pv 5)) pda_nil)))) (nomark _))))) (pds_one (psd_put (j := 2) (hu_of hr) (fun ho hi hv => ps_dput (hu_of hr) ho hi hv (by rfl)) (pv 2) (pd_var (pv 6)) (pd_tup (fun h => pe_tup h) (pda_cons (pd_var (pv 4)) (pda_cons (pd_var (pv 5)) pda_nil))))) pds_nil)))
      (pds_cons (psd_for (passes_of rfl) rfl (pid_tup (pd_var (pv 0))) (pgd_name (i := 7) (vs := [7]) (pg_name (i := 7) sc_closed_sums.nd rfl (.inl rfl)) (by show ¬ (7 ∈ ([] : List Nat)); decide) (by decide))
      (pds_one (psd_for (passes_of rfl) rfl (pid_tup (pd_var (pv 0))) (pgd_name (i := 4) (vs := [4]) (pg_name (i := 4) sc_closed_sums.nd rfl (.inl rfl)) (by show ¬ (4 ∈ ([] : List Nat)); decide) (by decide))
      (pds_one (psd_for (passes_of rfl) rfl (pid_tup (pd_var (pv 0))) (pgd_name (i := 5) (vs := [5]) (pg_name (i := 5) sc_closed_sums.nd rfl (.inl rfl)) (by show ¬ (5 ∈ ([] : List Nat)); decide) (by decide))
      (pds_one (psd_if (PW.pt (pwd_and (ptd_inO_t (j := 2) (fun hi ho => pt_cmp (pc_din (hu_of hr) hi ho)) (pd_tup (fun h => pe_tup h) (pda_cons (pd_var (pv 4)) (pda_cons (pd_var (pv 7)) pda_nil))) (pv 2)) (pwd_and1 (ptd_inO_t (j := 2) (fun hi ho => pt_cmp (pc_din (hu_of hr) hi ho)) (pd_tup (fun h => pe_tup h) (pda_cons (pd_var (pv 7)) (pda_cons (pd_var (pv 5)) pda_nil))) (pv 2))))) (pds_cons (psd_set (i := 8) (pd_op op_add (op2_I0 fun _ _ _ => .int _) (pd_getO (j := 2) (fun ho hi => pe_dget (hu_of hr) ho hi (fun _ _ => rfl)) (pv 2) (pd_tup (fun h => pe_tup h) (pda_cons (pd_var (pv 4)) (pda_cons (pd_var (pv 7)) pda_nil)))) (pd_getO (j := 2) (fun ho hi => pe_dget (hu_of hr) ho hi (fun _ _ => rfl)) (pv 2) (pd_tup (fun h => pe_tup h) (pda_cons (pd_var (pv 7)) (pda_cons (pd_var (pv 5)) pda_nil))))) (by show ¬ (8 ∈ ([] : List Nat)); decide) sc_closed_sums.nd rfl (.inl rfl))
      (pds_one (psd_if (PW.pt (pwd_or (ptd_inO_f (j := 2) (fun hi ho => pt_cmp (pc_dnotin (hu_of hr) hi ho)) (pd_tup (fun h => pe_tup h) (pda_cons (pd_var (pv 4)) (pda_cons (pd_var (pv 5)) pda_nil))) (pv 2)) (pwd_or1 (ptd_cmp op_lt (op2_I0 fun _ _ _ => .bl _) (pd_var (pv 8)) (pd_getO (j := 2) (fun ho hi => pe_dget (hu_of hr) ho hi (fun _ _ => rfl)) (pv 2) (pd_tup (fun h => pe_tup h) (pda_cons (pd_var (pv 4)) (pda_cons (pd_var (pv 5)) pda_nil)))) (nomark _))))) (pds_one (psd_put (j := 2) (hu_of hr) (fun ho hi hv => ps_dput (hu_of hr) ho hi hv (by rfl)) (pv 2) (pd_var (pv 8)) (pd_tup (fun h => pe_tup h) (pda_cons (pd_var (pv 4)) (pda_cons (pd_var (pv 5)) pda_nil))))) pds_nil))) pds_nil)))))))
      (pds_one (psd_ret (pd_mvar (pv 2) (by show ¬ (2 ∈ ([] : List Nat)); decide)))))))), ?_⟩
  rintro as Qd Ed ⟨ns, rs, x, rfl, hx, hn, hrs, nn, k⟩
  have hsz : ∀ kvs f, Dct ns kvs f → kvs.length < sizeLine := fun kvs f h => Nat.lt_of_le_of_lt h.len (Nat.lt_of_le_of_lt (Nat.mul_le_mul hn hn) (by decide))
  refine DR.start (δ' := [some (.d (.tup (ns.map .str))), some (.d x), none, none, none, none, none, none, none]) rfl ?_
  refine DR.seq (DR.setO (DR.newT ?_))
  with_reducible refine DR.cut (fun δ => ∃ kvs p3, δ = [some (.d (.tup (ns.map .str))), some (.d x), some (.own (.dT kvs)), p3, none, none, none, none, none] ∧ Dct ns kvs (own0 ns)) (fun N kN => ?_) ?_
  · walk_at "dd"
    refine DR.for_inv (fun i δ => ∃ kvs p3, δ = [some (.d (.tup (ns.map .str))), some (.d x), some (.own (.dT kvs)), p3, none, none, none, none, none] ∧ Dct ns kvs (own0 (ns.take i))) ⟨[], _, rfl, by rw [List.take_zero, own0_nil]; exact Dct.nil⟩ ?_ ?_
    · rintro i y δ N hy ⟨kvs, p3, rfl, hd⟩ kN
      obtain ⟨a, ha, rfl⟩ := DR.map_at hy
      have hm := List.mem_of_getElem? ha
      walk_at "dd"
      refine ⟨_, k2 a a, rfl, rfl, hsz _ _ hd, ?_⟩
      refine kN _ ⟨_, _, rfl, ?_⟩
      rw [List.take_succ, ha, show ns.take i ++ (some a).toList = ns.take i ++ [a] from rfl, ← own0_next]
      exact hd.put hm hm
    · rintro δ ⟨kvs, p3, rfl, hd⟩
      rw [List.length_map, List.take_length] at hd
      exact kN _ ⟨_, _, rfl, hd⟩
  rintro δ ⟨kvs, p3, rfl, hd⟩
  with_reducible refine DR.cut (fun δ => ∃ kvs f p3 p4 p5 p6, δ = [some (.d (.tup (ns.map .str))), some (.d x), some (.own (.dT kvs)), p3, p4, p5, p6, none, none] ∧ Dct ns kvs f ∧ Btw rs ns [] f) (fun N kN => ?_) ?_
  · with_reducible refine DR.for_ ?_
    with_reducible refine DR.icut (fun xs δ => xs = rs.map rowD ∧ δ = [some (.d (.tup (ns.map .str))), some (.d x), some (.own (.dT kvs)), p3, none, none, none, none, none]) (fun N kN => ?_) ?_
    · rcases hx with rfl | rfl | rfl
      · refine DR.seqL ?_
        walk_at "dd"
        exact kN _ _ ⟨rfl, rfl⟩
      · refine DR.seqL ?_
        walk_at "dd"
        exact ⟨_, .inr rfl, kN _ _ ⟨rfl, rfl⟩⟩
      · refine DR.seqT ?_
        walk_at "dd"
        exact kN _ _ ⟨rfl, rfl⟩
    rintro xs δ ⟨rfl, rfl⟩
    refine DR.for_inv (fun j δ => ∃ kvs f p3 p4 p5 p6, δ = [some (.d (.tup (ns.map .str))), some (.d x), some (.own (.dT kvs)), p3, p4, p5, p6, none, none] ∧ Dct ns kvs f ∧ Snd rs ns f ∧ (∀ a ∈ ns, leO (f a a) 0) ∧ ∀ r ∈ rs.take j, leO (f r.1 r.2.1) r.2.2) ⟨kvs, _, _, _, _, _, rfl, hd, own0_snd, fun a ha => own0_at ha, fun r hr => nomatch hr⟩ ?_ ?_
    · rintro j y δ N hy ⟨kvs, f, p3, p4, p5, p6, rfl, hd, hs, h0, h1⟩ kN
      obtain ⟨⟨u, d, m⟩, hr, rfl⟩ := DR.map_at hy
      have hm := List.mem_of_getElem? hr
      have hu := (hrs _ hm).1
      have hdn := (hrs _ hm).2
      have fin : ∀ kvs2, Dct ns kvs2 (low2 f u d m) → N [some (.d (.tup (ns.map .str))), some (.d x), some (.own (.dT kvs2)), p3, some (.d (.str u)), some (.d (.str d)), some (.d (.int m)), none, none] := fun kvs2 h2 => by
        refine kN _ ⟨kvs2, _, _, _, _, _, rfl, h2, hs.low2 hu hdn ⟨1, by have := Walk.cons hm (Walk.nil (n := 0)); rwa [Int.add_zero] at this⟩, fun a ha => low2_mono _ _ _ (h0 a ha), fun r hr' => ?_⟩
        rw [List.take_succ, hr] at hr'
        rcases List.mem_append.mp hr' with h | h
        · exact low2_mono _ _ _ (h1 r h)
        · rw [List.mem_singleton.mp h]; exact low2_at
      walk_at "dd"
      refine ⟨_, k2 u d, rfl, rfl, ?_⟩
      rw [hd.val]
      walk_at "dd"
      cases e : f u d with
      | none =>
        refine DR.iteT ?_
        walk_at "dd"
        refine ⟨_, k2 u d, rfl, rfl, hsz _ _ hd, fin _ ?_⟩
        rw [low2_none e]
        exact hd.put hu hdn
      | some t =>
        refine DR.iteF ?_
        walk_at "dd"
        refine ⟨_, k2 u d, _, rfl, rfl, by rw [hd.val, e]; rfl, ?_⟩
        walk_at "dd"
        refine DR.split (fun c => ?_) (fun c => ?_)
        · walk_at "dd"
          refine ⟨_, k2 u d, rfl, rfl, hsz _ _ hd, fin _ ?_⟩
          rw [low2_lt e c]
          exact hd.put hu hdn
        · walk_at "dd"
          refine fin _ ?_
          rw [low2_ge e c]
          exact hd
    · rintro δ ⟨kvs, f, p3, p4, p5, p6, rfl, hd, hs, h0, h1⟩
      rw [List.length_map, List.take_length] at h1
      exact kN _ ⟨kvs, f, _, _, _, _, rfl, hd, .start hs h0 h1⟩
  rintro δ ⟨kvs, f, p3, p4, p5, p6, rfl, hd, hb⟩
  walk_at "dd"
  refine DR.for_inv (fun i δ => ∃ kvs f p3 p4 p5 p6 p7 p8, δ = [some (.d (.tup (ns.map .str))), some (.d x), some (.own (.dT kvs)), p3, p4, p5, p6, p7, p8] ∧ Dct ns kvs f ∧ Btw rs ns (ns.take i) f) ⟨kvs, f, _, _, _, _, _, _, rfl, hd, by rw [List.take_zero]; exact hb⟩ ?_ ?_
  · rintro i y δ N hy ⟨kvs, f0, p3, p4, p5, p6, p7, p8, rfl, hd, hb⟩ kN
    obtain ⟨m, hmi, rfl⟩ := DR.map_at hy
    have hm := List.mem_of_getElem? hmi
    walk_at "dd"
    refine DR.for_inv (fun j δ => ∃ kvs f p3 p4 p5 p6 p8, δ = [some (.d (.tup (ns.map .str))), some (.d x), some (.own (.dT kvs)), p3, p4, p5, p6, some (.d (.str m)), p8] ∧ Dct ns kvs f ∧ Mid rs ns m (sq2 ns j) f0 f) ⟨kvs, f0, _, _, _, _, _, rfl, hd, ⟨⟨hb.sound, hb.dom⟩, .refl _, fun p hp => nomatch hp⟩⟩ ?_ ?_
    · rintro j y δ N hy ⟨kvs, f, p3, p4, p5, p6, p8, rfl, hd, hs⟩ kN
      obtain ⟨u, hui, rfl⟩ := DR.map_at hy
      have hu := List.mem_of_getElem? hui
      walk_at "dd"
      refine DR.for_inv (fun l δ => ∃ kvs f p3 p5 p6 p8, δ = [some (.d (.tup (ns.map .str))), some (.d x), some (.own (.dT kvs)), p3, some (.d (.str u)), p5, p6, some (.d (.str m)), p8] ∧ Dct ns kvs f ∧ Mid rs ns m (sq2 ns j ++ (ns.take l).map fun y => (u, y)) f0 f) ⟨kvs, f, _, _, _, _, rfl, hd, by rw [List.take_zero, List.map_nil, List.append_nil]; exact hs⟩ ?_ ?_
      · rintro l y δ N hy ⟨kvs, f, p3, p5, p6, p8, rfl, hd, hs⟩ kN
        obtain ⟨d, hdi, rfl⟩ := DR.map_at hy
        have hdn := List.mem_of_getElem? hdi
        have keep : ∀ f2 kvs2 q8, Dct ns kvs2 f2 → Snd rs ns f2 → leF f f2 → (∀ s t, leO (f0 u m) s → leO (f0 m d) t → leO (f2 u d) (s + t)) → N [some (.d (.tup (ns.map .str))), some (.d x), some (.own (.dT kvs2)), p3, some (.d (.str u)), some (.d (.str d)), p6, some (.d (.str m)), q8] := fun f2 kvs2 q8 h1 h2 h3 h4 => by
          refine kN _ ⟨kvs2, f2, _, _, _, _, rfl, h1, h2, hs.mono.trans h3, fun p hp s t l1 l2 => ?_⟩
          rw [List.take_succ, hdi, List.map_append, ← List.append_assoc] at hp
          rcases List.mem_append.mp hp with hp | hp
          · exact h3 _ _ _ (hs.done p hp s t l1 l2)
          · have e : p = (u, d) := List.mem_singleton.mp hp
            subst e
            exact h4 s t l1 l2
        walk_at "dd"
        refine ⟨_, k2 u m, rfl, rfl, ?_⟩
        rw [hd.val]
        walk_at "dd"
        cases e1 : f u m with
        | none =>
          refine DR.iteF ?_
          walk_at "dd"
          exact keep f kvs p8 hd hs.snd (.refl _) fun s t l1 l2 => by
            obtain ⟨z, e, _⟩ := hs.mono _ _ _ l1
            rw [e1] at e; cases e
        | some v =>
          refine DR.iteT ?_
          walk_at "dd"
          refine ⟨_, k2 m d, rfl, rfl, ?_⟩
          rw [hd.val]
          walk_at "dd"
          cases e2 : f m d with
          | none =>
            refine DR.iteF ?_
            walk_at "dd"
            exact keep f kvs p8 hd hs.snd (.refl _) fun s t l1 l2 => by
              obtain ⟨z, e, _⟩ := hs.mono _ _ _ l2
              rw [e2] at e; cases e
          | some z =>
            refine DR.iteT ?_
            have fin : ∀ kvs2, Dct ns kvs2 (low2 f u d (v + z)) → N [some (.d (.tup (ns.map .str))), some (.d x), some (.own (.dT kvs2)), p3, some (.d (.str u)), some (.d (.str d)), p6, some (.d (.str m)), some (.d (.int (v + z)))] := fun kvs2 h2 => by
              obtain ⟨n1, w1⟩ := hs.snd.sound _ _ _ e1
              obtain ⟨n2, w2⟩ := hs.snd.sound _ _ _ e2
              refine keep _ kvs2 _ h2 (hs.snd.low2 hu hdn ⟨_, w1.app w2⟩) low2_mono fun s t l1 l2 => ?_
              obtain ⟨v', g1, q1⟩ := hs.mono _ _ _ l1
              obtain ⟨z', g2, q2⟩ := hs.mono _ _ _ l2
              rw [e1] at g1
              rw [e2] at g2
              cases g1; cases g2
              exact low2_at.le (by omega)
            walk_at "dd"
            refine ⟨_, k2 u m, _, rfl, rfl, by rw [hd.val, e1]; rfl, ?_⟩
            walk_at "dd"
            refine ⟨_, k2 m d, _, rfl, rfl, by rw [hd.val, e2]; rfl, ?_⟩
            walk_at "dd"
            refine ⟨_, k2 u d, rfl, rfl, ?_⟩
            rw [hd.val]
            walk_at "dd"
            cases e : f u d with
            | none =>
              refine DR.iteT ?_
              walk_at "dd"
              refine ⟨_, k2 u d, rfl, rfl, hsz _ _ hd, fin _ ?_⟩
              rw [low2_none e]
              exact hd.put hu hdn
            | some t =>
              refine DR.iteF ?_
              walk_at "dd"
              refine ⟨_, k2 u d, _, rfl, rfl, by rw [hd.val, e]; rfl, ?_⟩
              walk_at "dd"
              refine DR.split (fun c => ?_) (fun c => ?_)
              · walk_at "dd"
                refine ⟨_, k2 u d, rfl, rfl, hsz _ _ hd, fin _ ?_⟩
                rw [low2_lt e c]
                exact hd.put hu hdn
              · walk_at "dd"
                refine fin _ ?_
                rw [low2_ge e c]
                exact hd
      · rintro δ ⟨kvs, f, p3, p5, p6, p8, rfl, hd, hs⟩
        rw [List.length_map, sq2_row hui] at hs
        exact kN _ ⟨kvs, f, _, _, _, _, _, rfl, hd, hs⟩
    · rintro δ ⟨kvs, f, p3, p4, p5, p6, p8, rfl, hd, hs⟩
      rw [List.length_map, sq2_all] at hs
      refine kN _ ⟨kvs, f, _, _, _, _, _, _, rfl, hd, ?_⟩
      rw [List.take_succ, hmi]
      exact hs.end nn hm hb
  · rintro δ ⟨kvs, f, p3, p4, p5, p6, p7, p8, rfl, hd, hb⟩
    rw [List.length_map, List.take_length] at hb
    walk_at "dd"
    exact k kvs f hd (hb.dist hrs)
end
end KT

set_option Elab.async false
set_option linter.all false
set_option maxRecDepth 100000
set_option maxHeartbeats 0
set_option pp.deepTerms false
set_option pp.deepTerms.threshold 8


namespace KT
open PySem PySem.Spec PyProof.Rows L2 DL
structure TxtN (mg : Str → Option Value) : Prop extends TxtB mg where
  b_isinstance : mg "isinstance" = none
  b_all : mg "all" = none
  b_str : mg "str" = none
  b_bool : mg "bool" = none
  b_list : mg "list" = none
  b_tuple : mg "tuple" = none
  b_set : mg "set" = none
  b_enumerate : mg "enumerate" = none
  b_iter : mg "iter" = none
  b_zip : mg "zip" = none
  b_max : mg "max" = none
  k_MOST : ∃ t, mg "MOST" = some (.int 1000000000000 t)
  k__CASH : ∃ t, mg "_CASH" = some (.str "cash" t)
  k__LETTERS : ∃ t, mg "_LETTERS" = some (.str "abcdefghijklmnopqrstuvwxyz" t)
  k__LONGEST_NAME : ∃ t, mg "_LONGEST_NAME" = some (.int 12 t)
  k__MOST_GOODS : ∃ t, mg "_MOST_GOODS" = some (.int 5 t)
def sdName : SpD := fun as Q _ => ∃ g : Str, as = [.d (.str g)] ∧ Nm g ∧ Q (.d (.bl true)) []
theorem in_abz {c : Nat} (h : 97 ≤ c ∧ c ≤ 122) : c ∈ (Str.ofString "abcdefghijklmnopqrstuvwxyz").cps.toList := by
  have e : ∀ k : Fin 26, 97 + k.val ∈ (Str.ofString "abcdefghijklmnopqrstuvwxyz").cps.toList := by decide +kernel
  have := e ⟨c - 97, by omega⟩
  rwa [show 97 + (c - 97) = c by omega] at this
theorem kit_self {K : PySem.W.Frag} {n : String} : PySem.W.kitOne K (.type n) (.type n) = some true := by
  unfold PySem.W.kitOne
  exact if_pos (beq_iff_eq.mpr rfl)
section
variable {P : Program} {w : World} {K : PySem.W.Frag} {mg : Str → Option Value} {base : Heap}
abbrev s_is_name : Stmt := top 20
theorem sc_is_name : FnScope ["thing", "letter"] ["thing"] (defScope s_is_name) := ⟨rfl, rfl, rfl, by decide +kernel, rfl, by decide +kernel, by decide +kernel⟩
theorem ok_name {f : Addr} {fd : FuncData} (G : Fun K "is_name" "is_name" s_is_name f fd) (T : TxtN mg) : FnOk P w K mg base (L2.CX P w) 1 f fd ["thing"] (spOf K sdName) := by
  obtain ⟨_, k__LETTERS⟩ := T.k__LETTERS
  obtain ⟨_, k__LONGEST_NAME⟩ := T.k__LONGEST_NAME
  refine okD G sc_is_name [] (fun as Q E ⟨xs, e, _⟩ => by subst e; exact ⟨rfl, rfl⟩) ⟨_, fun cdv A outer s H E ad F0 H0 hr => (pds_cons (psd_if (PW.pt (pwd_or (ptd_not (ptd_val (pd_builtB (fun h => pe_callB call_isi (by rfl) T.b_isinstance (by decide +kernel) h) (cn_isi (K := K)).op (pda_cons (pd_var (pv 0)) (pda_cons (pd_const (pe_bltn (v := .ty "str") (by rfl) T.b_str (by decide +kernel) rfl) (fun _ => .ty _)) pda_nil))) (fun h => pt_val h))) (pwd_or1 (ptd_not (ptd_chain op_le (op2_I0 fun _ _ _ => .bl _) op_le (op2_I0 fun _ _ _ => .bl _) (pd_const pe_int (fun _ => .int _)) (pd_builtB (fun h => pe_callB call_len_str (by rfl) T.b_len (by decide +kernel) h) cn_lenS.op (pda_cons (pd_var (pv 0)) pda_nil)) (pd_const (pe_glob (v := (.int 12)) rfl k__LONGEST_NAME ⟨_, rfl⟩) (fun _ => .int _)) (by with_unfolding_all rfl)))))) (pds_one (psd_ret (pd_const pe_bl (fun _ => .bl _)))) pds_nil)
      (pds_one (psd_ret (pd_builtB (fun h => pe_callB (cr_all rfl) (by rfl) T.b_all (by decide +kernel) h) cn_all.op (pda_cons (pd_lc (own := [("letter", 1)]) (by rfl) sc_is_name.nd (pid_str (pd_var (pv 0))) (blkOk_by (own := [("letter", 1)]) (N := ["thing", "letter"]) (sc := defScope s_is_name) (by decide +kernel)) (fun _ _ _ _ _ => (pgd_name (i := 1) (vs := [1]) (pg_name (i := 1) sc_is_name.nd rfl (.inl rfl)) (by show ¬ (1 ∈ ([] : List Nat)); decide) (by decide))) (fun _ _ _ _ _ => ptsd_nil) (fun _ _ _ _ _ => (pd_cmp op_in_sign op2_inSign.op (pd_var (pv 1)) (pd_const (pe_glob (v := (.str "abcdefghijklmnopqrstuvwxyz")) rfl k__LETTERS ⟨_, rfl⟩) (fun _ => .str (by decide +kernel))) rfl)) (by show ∀ i ∈ ([1] : List Nat), ¬ (i ∈ ([] : List Nat)); decide)) pda_nil))))), ?_⟩
  rintro as Qd Ed ⟨g, rfl, hg, k⟩
  refine DR.start (δ' := [some (.d (.str g)), none]) rfl ?_
  walk_at "dd"
  refine ⟨_, _, _, _, true, rfl, .ty _, .str _, kit_self, ?_⟩
  walk_at "dd"
  obtain ⟨g1, g2, g3, g4⟩ := hg
  refine ⟨Nat.le_trans g3 (by decide), ?_⟩
  walk_at "dd"
  rw [show decide (1 ≤ (g.length : Int)) = true from decide_eq_true (by omega)]
  walk_at "dd"
  rw [show decide ((g.length : Int) ≤ 12) = true from decide_eq_true (by omega)]
  walk_at "dd"
  refine DR.lc_mapM (fun _ => D.bl true) (fun ch acc N hc hl kN => ?_) ?_
  · walk_at "dd"
    refine ⟨Nat.lt_of_lt_of_le hl (Nat.le_trans (show g.cps.toList.length ≤ 12 by rw [Array.length_toList]; exact g3) (by decide)), ?_⟩
    rw [if_neg Bool.false_ne_true, show decide (ch ∈ (Str.ofString "abcdefghijklmnopqrstuvwxyz").cps.toList) = true from decide_eq_true (in_abz (g4 ch hc))]
    exact kN
  · walk_at "dd"
    refine ⟨g.cps.toList.map fun _ => true, .inl (by rw [List.map_map]; rfl), ?_⟩
    walk_at "dd"
    have e : (g.cps.toList.map fun _ => true).all id = true := by simp
    rw [← e] at k
    exact k
end
end KT

set_option Elab.async false
set_option linter.all false
set_option maxRecDepth 100000
set_option maxHeartbeats 0
set_option pp.deepTerms false
set_option pp.deepTerms.threshold 8


namespace KT
open PySem PySem.Spec PyProof.Rows L2 DL
/-- a row of data, as a list or as a tuple -/
def RowOf (x : D) (xs : List D) : Prop := x = .lst xs ∨ x = .tup xs
def sdSeq : SpD := fun as Q _ => ∃ x xs, as = [.d x] ∧ RowOf x xs ∧ Q (.d (.bl true)) []
def sdChecked : SpD := fun as Q _ => ∃ (gs : List Str) (x : D), as = [.d x] ∧ RowOf x (gs.map .str) ∧ Goods gs ∧ Q (.d (.tup (gs.map .str))) []
def sdAssets : SpD := fun as Q _ => ∃ (gs : List Str) (x : D), as = [.d x] ∧ RowOf x (gs.map .str) ∧ Goods gs ∧ Q (.d (.tup ((cash :: gs).map .str))) []
theorem scL_str : ∀ {gs : List Str}, scL (gs.map .str) = some (gs.map V.str)
  | [] => rfl
  | g :: gs => by
    rw [List.map_cons, List.map_cons]
    unfold scL
    rw [scL_str]
    rfl
theorem inV_str {a : Str} {gs : List Str} : inV (V.str a) (gs.map V.str) = decide (a ∈ gs) := by
  unfold inV
  rw [List.any_map, Bool.eq_iff_iff, List.any_eq_true, decide_eq_true_eq]
  constructor
  · rintro ⟨b, hb, e⟩
    have e : eqV (V.str b) (V.str a) = true := e
    have : b = a := by simpa [eqV] using e
    exact this ▸ hb
  · intro h
    exact ⟨a, h, by show eqV (V.str a) (V.str a) = true; simp [eqV]⟩
section
variable {P : Program} {w : World} {K : PySem.W.Frag} {mg : Str → Option Value} {base : Heap}
abbrev s_is_sequence : Stmt := top 18
theorem sc_is_sequence : FnScope ["thing"] ["thing"] (defScope s_is_sequence) := ⟨rfl, rfl, rfl, by decide +kernel, rfl, by decide +kernel, by decide +kernel⟩
theorem ok_seq {f : Addr} {fd : FuncData} (G : Fun K "is_sequence" "is_sequence" s_is_sequence f fd) (T : TxtN mg) : FnOk P w K mg base (L2.CX P w) 1 f fd ["thing"] (spOf K sdSeq) := by
  refine okD G sc_is_sequence [] (fun as Q E ⟨xs, y, e, _⟩ => by subst e; exact ⟨rfl, rfl⟩) ⟨_, fun cdv A outer s H E ad F0 H0 hr => (pds_one (psd_ret (pd_builtB (fun h => pe_callB call_isiT (by rfl) T.b_isinstance (by decide +kernel) h) (cn_isiT (K := K)).op (pda_cons (pd_var (pv 0)) (pda_cons (pd_tup (fun h => pe_tup h) (pda_cons (pd_const (pe_bltn (v := .ty "list") (by rfl) T.b_list (by decide +kernel) rfl) (fun _ => .ty _)) (pda_cons (pd_const (pe_bltn (v := .ty "tuple") (by rfl) T.b_tuple (by decide +kernel) rfl) (fun _ => .ty _)) pda_nil))) pda_nil))))), ?_⟩
  rintro as Qd Ed ⟨x, xs, rfl, hx, k⟩
  refine DR.start (δ' := [some (.d x)]) rfl ?_
  walk_at "dd"
  rcases hx with rfl | rfl
  · refine ⟨_, _, _, _, true, rfl, .cons (.ty _) (.cons (.ty _) .nil), .lst _, rfl, ?_⟩
    walk_at "dd"
    exact k
  · refine ⟨_, _, _, _, true, rfl, .cons (.ty _) (.cons (.ty _) .nil), .tup _, rfl, ?_⟩
    walk_at "dd"
    exact k
abbrev s_checked_goods : Stmt := top 21
theorem sc_checked_goods : FnScope ["goods", "told", "good"] ["goods"] (defScope s_checked_goods) := ⟨rfl, rfl, rfl, by decide +kernel, rfl, by decide +kernel, by decide +kernel⟩
theorem ok_checked (tk0 : True) (D_is_sequence : DefD P w K mg base "is_sequence" 1 ["thing"] sdSeq) (D_is_name : DefD P w K mg base "is_name" 1 ["thing"] sdName) {f : Addr} {fd : FuncData} (G : Fun K "checked_goods" "checked_goods" s_checked_goods f fd) (T : TxtN mg) : FnOk P w K mg base (L2.CX P w) 3 f fd ["goods"] (spOf K sdChecked) := by
  obtain ⟨_, k__CASH⟩ := T.k__CASH
  obtain ⟨_, k__MOST_GOODS⟩ := T.k__MOST_GOODS
  refine okD G sc_checked_goods [] (fun as Q E ⟨xs, y, e, _⟩ => by subst e; exact ⟨rfl, rfl⟩) ⟨_, fun cdv A outer s H E ad F0 H0 hr => (pds_cons (psd_if (PW.pt (pwd_or (ptd_not (ptd_val (pd_call D_is_sequence.ok (hr.mono (by decide)) (by rfl) D_is_sequence.mg D_is_sequence.kp D_is_sequence.b (takes_of rfl rfl rfl rfl) (pda_cons (pd_var (pv 0)) pda_nil)) (fun h => pt_val h))) (pwd_or1 (ptd_not (ptd_chain op_le (op2_I0 fun _ _ _ => .bl _) op_le (op2_I0 fun _ _ _ => .bl _) (pd_const pe_int (fun _ => .int _)) (pd_builtB (fun h => pe_callB call_len_seq (by rfl) T.b_len (by decide +kernel) h) cn_len.op (pda_cons (pd_var (pv 0)) pda_nil)) (pd_const (pe_glob (v := (.int 5)) rfl k__MOST_GOODS ⟨_, rfl⟩) (fun _ => .int _)) (by with_unfolding_all rfl)))))) (pds_one psd_never) pds_nil)
      (pds_cons (psd_set (i := 1) (pd_builtB (fun h => pe_callTy call_tuple_of (by rfl) T.b_tuple (by decide +kernel) h) cn_tuple (pda_cons (pd_var (pv 0)) pda_nil)) (by show ¬ (1 ∈ ([] : List Nat)); decide) sc_checked_goods.nd rfl (.inl rfl))
      (pds_cons (psd_if (ptd_not (ptd_val (pd_builtB (fun h => pe_callB (cr_all rfl) (by rfl) T.b_all (by decide +kernel) h) cn_all.op (pda_cons (pd_lc (own := [("good", 2)]) (by rfl) sc_checked_goods.nd (pid_tup (pd_var (pv 1))) (blkOk_by (own := [("good", 2)]) (N := ["goods", "told", "good"]) (sc := defScope s_checked_goods) (by decide +kernel)) (fun _ _ _ _ _ => (pgd_name (i := 2) (vs := [2]) (pg_name (i := 2) sc_checked_goods.nd rfl (.inl rfl)) (by show ¬ (2 ∈ ([] : List Nat)); decide) (by decide))) (fun _ _ _ _ _ => ptsd_nil) (fun _ _ _ _ _ => (pd_call D_is_name.ok (hr.mono (by decide)) (by rfl) D_is_name.mg D_is_name.kp D_is_name.b takes0 (pda_cons (pd_var (pv 2)) pda_nil))) (by show ∀ i ∈ ([2] : List Nat), ¬ (i ∈ ([] : List Nat)); decide)) pda_nil)) (fun h => pt_val h))) (pds_one psd_never) pds_nil)
      (pds_cons (psd_if (ptd_cmp op_in_seq (op2_in false).op (pd_const (pe_glob (v := (.str "cash")) rfl k__CASH ⟨_, rfl⟩) (fun _ => .str (by decide +kernel))) (pd_var (pv 1)) rfl) (pds_one psd_never) pds_nil)
      (pds_cons (psd_if (ptd_cmp op_lt (op2_I0 fun _ _ _ => .bl _) (pd_lenSet (fun h => RS.pe_lenSetT rfl (by rfl) T.b_len (by rfl) T.b_set h) (pd_var (pv 1))) (pd_builtB (fun h => pe_callB call_len_seq (by rfl) T.b_len (by decide +kernel) h) cn_len.op (pda_cons (pd_var (pv 1)) pda_nil)) (nomark _)) (pds_one psd_never) pds_nil)
      (pds_one (psd_ret (pd_var (pv 1))))))))), ?_⟩
  rintro as Qd Ed ⟨gs, x, rfl, hx, hg, k⟩
  refine DR.start (δ' := [some (.d x), none, none]) rfl ?_
  have hl : ((gs.map D.str).length : Int) ≤ 5 ∧ 1 ≤ ((gs.map D.str).length : Int) := by rw [List.length_map]; have := hg.2.1; have := hg.2.2.1; omega
  have hz : (gs.map D.str).length ≤ sizeLine := Nat.le_trans (show _ ≤ 5 by omega) (by decide)
  with_reducible refine DR.cut (fun δ => δ = [some (.d x), none, none]) (fun N kN => ?_) ?_
  · rcases hx with rfl | rfl
    · walk_at "dd"
      refine ⟨_, _, rfl, .inl rfl, ?_⟩
      walk_at "dd"
      rw [show decide (1 ≤ ((gs.map D.str).length : Int)) = true from decide_eq_true hl.2]
      walk_at "dd"
      rw [show decide (((gs.map D.str).length : Int) ≤ 5) = true from decide_eq_true hl.1]
      walk_at "dd"
      exact kN _ rfl
    · walk_at "dd"
      refine ⟨_, _, rfl, .inr rfl, ?_⟩
      walk_at "dd"
      rw [show decide (1 ≤ ((gs.map D.str).length : Int)) = true from decide_eq_true hl.2]
      walk_at "dd"
      rw [show decide (((gs.map D.str).length : Int) ≤ 5) = true from decide_eq_true hl.1]
      walk_at "dd"
      exact kN _ rfl
  rintro δ rfl
  with_reducible refine DR.cut (fun δ => δ = [some (.d x), some (.d (.tup (gs.map .str))), none]) (fun N kN => ?_) ?_
  · rcases hx with rfl | rfl
    · walk_at "dd"
      exact ⟨_, _, rfl, .inl rfl, kN _ rfl⟩
    · walk_at "dd"
      exact ⟨_, _, rfl, .inr (.inr rfl), kN _ rfl⟩
  rintro δ rfl
  walk_at "dd"
  refine DR.lc_mapM (fun _ => D.bl true) (fun g acc N hgm hl kN => ?_) ?_
  · walk_at "dd"
    refine ⟨g, rfl, hg.2.2.2 g hgm, ?_⟩
    exact ⟨Nat.lt_of_lt_of_le hl (by rw [List.length_map] at hz; exact hz), kN⟩
  walk_at "dd"
  refine ⟨gs.map fun _ => true, .inl (by rw [List.map_map]; rfl), ?_⟩
  walk_at "dd"
  have e : (gs.map fun _ => true).all id = true := by simp
  rw [show (fun bs : List Bool => bs.all id) (gs.map fun _ => true) = true from e]
  walk_at "dd"
  refine ⟨_, _, _, rfl, rfl, scL_str, ?_⟩
  walk_at "dd"
  rw [inV_str, decide_eq_false (fun h => (hg.2.2.2 _ h).1 rfl)]
  walk_at "dd"
  refine ⟨Nat.le_trans hg.2.2.1 (by decide), ?_⟩
  walk_at "dd"
  refine DR.split (fun c => ?_) (fun c => ?_)
  · rw [List.length_map] at c
    exact absurd hg.1 ((RS.uniq_lt gs).mp (by omega))
  · walk_at "dd"
    exact k
abbrev s_assets : Stmt := top 22
theorem sc_assets : FnScope ["goods"] ["goods"] (defScope s_assets) := ⟨rfl, rfl, rfl, by decide +kernel, rfl, by decide +kernel, by decide +kernel⟩
theorem ok_assets (D_checked_goods : DefD P w K mg base "checked_goods" 3 ["goods"] sdChecked) {f : Addr} {fd : FuncData} (G : Fun K "assets" "assets" s_assets f fd) (T : TxtN mg) : FnOk P w K mg base (L2.CX P w) 5 f fd ["goods"] (spOf K sdAssets) := by
  obtain ⟨_, k__CASH⟩ := T.k__CASH
  refine okD G sc_assets [] (fun as Q E ⟨xs, y, e, _⟩ => by subst e; exact ⟨rfl, rfl⟩) ⟨_, fun cdv A outer s H E ad F0 H0 hr => (pds_one (psd_ret (pd_op op_catA op2_catT (pd_tup (fun h => pe_tup h) (pda_cons (pd_const (pe_glob (v := (.str "cash")) rfl k__CASH ⟨_, rfl⟩) (fun _ => .str (by decide +kernel))) pda_nil)) (pd_call D_checked_goods.ok (hr.mono (by decide)) (by rfl) D_checked_goods.mg D_checked_goods.kp D_checked_goods.b (takes_of rfl rfl rfl rfl) (pda_cons (pd_var (pv 0)) pda_nil))))), ?_⟩
  rintro as Qd Ed ⟨gs, x, rfl, hx, hg, k⟩
  refine DR.start (δ' := [some (.d x)]) rfl ?_
  walk_at "dd"
  refine ⟨gs, x, rfl, hx, hg, ?_⟩
  walk_at "dd"
  refine ⟨by show 1 + (gs.map D.str).length ≤ sizeLine; rw [List.length_map]; have := hg.2.2.1; exact Nat.le_trans (show _ ≤ 6 by omega) (by decide), ?_⟩
  walk_at "dd"
  exact k
end
end KT

set_option Elab.async false
set_option linter.all false
set_option maxRecDepth 100000
set_option maxHeartbeats 0
set_option pp.deepTerms false
set_option pp.deepTerms.threshold 8


namespace KT
open PySem PySem.Spec PyProof.Rows L2 DL
def sdPairsOf : SpD := fun as Q _ => ∃ ns : List Str, as = [.d (.tup (ns.map .str))] ∧ ns.length ≤ 10 ∧ Q (.d (.tup ((prs ns).map prD))) []
section
variable {P : Program} {w : World} {K : PySem.W.Frag} {mg : Str → Option Value} {base : Heap}
abbrev s_pairs_of : Stmt := top 23
theorem sc_pairs_of : FnScope ["known", "up", "down"] ["known"] (defScope s_pairs_of) := ⟨rfl, rfl, rfl, by decide +kernel, rfl, by decide +kernel, by decide +kernel⟩
theorem ok_pairs_of {f : Addr} {fd : FuncData} (G : Fun K "pairs_of" "pairs_of" s_pairs_of f fd) (T : TxtN mg) : FnOk P w K mg base (L2.CX P w) 1 f fd ["known"] (spOf K sdPairsOf) := by
  refine okD G sc_pairs_of [] (fun as Q E ⟨xs, e, _⟩ => by subst e; exact ⟨rfl, rfl⟩) ⟨_, fun cdv A outer s H E ad F0 H0 hr => (pds_one (psd_ret (pd_builtB (fun h => pe_callTy call_tuple_of (by rfl) T.b_tuple (by decide +kernel) h) cn_tuple (pda_cons (pd_lc2 (own := [("up", 1), ("down", 2)]) (vs1 := [2]) (by rfl) sc_pairs_of.nd (pid_tup (pd_var (pv 0))) (blkOk_by (own := [("up", 1), ("down", 2)]) (N := ["known", "up", "down"]) (sc := defScope s_pairs_of) (by decide +kernel)) (by show ∀ i ∈ ([2] : List Nat), i ∈ ([1, 2] : List Nat); decide) (fun _ _ _ _ _ => (pgd_name (i := 1) (vs := [1, 2]) (pg_name (i := 1) sc_pairs_of.nd rfl (.inl rfl)) (by show ¬ (1 ∈ ([] : List Nat)); decide) (by decide))) (fun _ _ _ _ _ => ptsd_nil) (fun _ _ _ _ _ => (pid_tup (pd_var (pv 0)))) (fun _ _ _ _ _ => (pgd_name (i := 2) (vs := [2]) (pg_name (i := 2) sc_pairs_of.nd rfl (.inl rfl)) (by show ¬ (2 ∈ ([] : List Nat)); decide) (by decide))) (fun _ _ _ _ _ => ptsd_one (ptd_cmp op_ne op2_ne.op (pd_var (pv 1)) (pd_var (pv 2)) (nomark _))) (fun _ _ _ _ _ => (pd_tup (fun h => pe_tup h) (pda_cons (pd_var (pv 1)) (pda_cons (pd_var (pv 2)) pda_nil)))) (by show ∀ i ∈ ([1, 2] : List Nat), ¬ (i ∈ ([] : List Nat)); decide)) pda_nil)))), ?_⟩
  rintro as Qd Ed ⟨ns, rfl, hn, k⟩
  refine DR.start (δ' := [some (.d (.tup (ns.map .str))), none, none]) rfl ?_
  walk_at "dd"
  have h10 : (ns.flatMap fun a => (prRow ns a).map prD).length ≤ 100 := by
    have h2 := flat_len (f := fun a => (prRow ns a).map prD) (n := 10) (l := ns) fun a _ => by rw [List.length_map]; exact Nat.le_trans prRow_len hn
    omega
  refine DR.lc2_flatM (fun a => (prRow ns a).map prD) (fun a acc N ha hl kN => ?_) ?_
  · have hl : acc.length ≤ 100 := Nat.le_trans hl (by show 0 + _ ≤ 100; omega)
    walk_at "dd"
    refine DR.lc_filterA (fun b => if b = a then none else some (D.tup [.str a, .str b])) (n := 110) (by omega) (fun b acc N hb hl kN => ?_) ?_
    · walk_at "dd"
      refine DR.splitN (fun c => ?_) (fun c => ?_)
      · rw [if_pos c.symm, Option.toList_none, List.append_nil] at kN
        exact kN
      · rw [if_neg fun e => c e.symm] at kN
        walk_at "dd"
        exact ⟨Nat.lt_of_lt_of_le hl (by decide), kN⟩
    · rw [prRow_f]
      exact kN
  · walk_at "dd"
    refine ⟨_, _, rfl, .inl rfl, ?_⟩
    walk_at "dd"
    have e : [] ++ (ns.flatMap fun a => (prRow ns a).map prD) = (prs ns).map prD := by
      unfold prs
      rw [List.map_flatMap]
      rfl
    rw [e]
    exact k
end
end KT

set_option Elab.async false
set_option linter.all false
set_option maxRecDepth 100000
set_option maxHeartbeats 0
set_option pp.deepTerms false
set_option pp.deepTerms.threshold 8


namespace KT
open PySem PySem.Spec PyProof.Rows L2 DL
def sdIsInt : SpD := fun as Q _ => ∃ i : Int, as = [.d (.int i)] ∧ Q (.d (.bl true)) []
def sdWhole : SpD := fun as Q _ => ∃ i a b : Int, as = [.d (.int i), .d (.int a), .d (.int b)] ∧ a ≤ i ∧ i ≤ b ∧ Q (.d (.bl true)) []
def sdIsRow : SpD := fun as Q _ => ∃ (x : D) (xs : List D), as = [.d x, .d (.int xs.length)] ∧ RowOf x xs ∧ xs.length ≤ 1000 ∧ Q (.d (.bl true)) []
section
variable {P : Program} {w : World} {K : PySem.W.Frag} {mg : Str → Option Value} {base : Heap}
abbrev s_is_integer : Stmt := top 16
theorem sc_is_integer : FnScope ["thing"] ["thing"] (defScope s_is_integer) := ⟨rfl, rfl, rfl, by decide +kernel, rfl, by decide +kernel, by decide +kernel⟩
theorem ok_integer {f : Addr} {fd : FuncData} (G : Fun K "is_integer" "is_integer" s_is_integer f fd) (T : TxtN mg) : FnOk P w K mg base (L2.CX P w) 1 f fd ["thing"] (spOf K sdIsInt) := by
  refine okD G sc_is_integer [] (fun as Q E ⟨xs, e, _⟩ => by subst e; exact ⟨rfl, rfl⟩) ⟨_, fun cdv A outer s H E ad F0 H0 hr => (pds_one (psd_ret (pd_and (pd_builtB (fun h => pe_callB call_isi (by rfl) T.b_isinstance (by decide +kernel) h) (cn_isi (K := K)).op (pda_cons (pd_var (pv 0)) (pda_cons (pd_const (pe_bltn (v := .ty "int") (by rfl) T.b_int (by decide +kernel) rfl) (fun _ => .ty _)) pda_nil))) (pd_one (pd_not (pd_builtB (fun h => pe_callB call_isi (by rfl) T.b_isinstance (by decide +kernel) h) (cn_isi (K := K)).op (pda_cons (pd_var (pv 0)) (pda_cons (pd_const (pe_bltn (v := .ty "bool") (by rfl) T.b_bool (by decide +kernel) rfl) (fun _ => .ty _)) pda_nil)))))))), ?_⟩
  rintro as Qd Ed ⟨i, rfl, k⟩
  refine DR.start (δ' := [some (.d (.int i))]) rfl ?_
  walk_at "dd"
  refine ⟨_, _, _, _, true, rfl, .ty _, .int _, kit_self, ?_⟩
  walk_at "dd"
  refine ⟨_, _, _, _, false, rfl, .ty _, .int _, by rfl, ?_⟩
  walk_at "dd"
  exact k
abbrev s_is_whole : Stmt := top 17
theorem sc_is_whole : FnScope ["thing", "low", "high"] ["thing", "low", "high"] (defScope s_is_whole) := ⟨rfl, rfl, rfl, by decide +kernel, rfl, by decide +kernel, by decide +kernel⟩
theorem ok_whole (D_is_integer : DefD P w K mg base "is_integer" 1 ["thing"] sdIsInt) {f : Addr} {fd : FuncData} (G : Fun K "is_whole" "is_whole" s_is_whole f fd) (T : TxtN mg) : FnOk P w K mg base (L2.CX P w) 3 f fd ["thing", "low", "high"] (spOf K sdWhole) := by
  refine okD G sc_is_whole [] (fun as Q E ⟨xs, y, z, e, _⟩ => by subst e; exact ⟨rfl, rfl⟩) ⟨_, fun cdv A outer s H E ad F0 H0 hr => (pds_one (psd_ret (pd_and (pd_call D_is_integer.ok (hr.mono (by decide)) (by rfl) D_is_integer.mg D_is_integer.kp D_is_integer.b (takes_of rfl rfl rfl rfl) (pda_cons (pd_var (pv 0)) pda_nil)) (pd_one (pd_chain op_le (op2_I0 fun _ _ _ => .bl _) op_le (op2_I0 fun _ _ _ => .bl _) (pd_var (pv 1)) (pd_var (pv 0)) (pd_var (pv 2)) (by with_unfolding_all rfl)))))), ?_⟩
  rintro as Qd Ed ⟨i, a, b, rfl, h1, h2, k⟩
  refine DR.start (δ' := [some (.d (.int i)), some (.d (.int a)), some (.d (.int b))]) rfl ?_
  walk_at "dd"
  refine ⟨i, rfl, ?_⟩
  walk_at "dd"
  rw [decide_eq_true h1]
  walk_at "dd"
  rw [decide_eq_true h2]
  exact k
abbrev s_is_row : Stmt := top 19
theorem sc_is_row : FnScope ["thing", "length"] ["thing", "length"] (defScope s_is_row) := ⟨rfl, rfl, rfl, by decide +kernel, rfl, by decide +kernel, by decide +kernel⟩
theorem ok_row (D_is_sequence : DefD P w K mg base "is_sequence" 1 ["thing"] sdSeq) {f : Addr} {fd : FuncData} (G : Fun K "is_row" "is_row" s_is_row f fd) (T : TxtN mg) : FnOk P w K mg base (L2.CX P w) 3 f fd ["thing", "length"] (spOf K sdIsRow) := by
  refine okD G sc_is_row [] (fun as Q E ⟨xs, y, e, _⟩ => by subst e; exact ⟨rfl, rfl⟩) ⟨_, fun cdv A outer s H E ad F0 H0 hr => (pds_one (psd_ret (pd_and (pd_call D_is_sequence.ok (hr.mono (by decide)) (by rfl) D_is_sequence.mg D_is_sequence.kp D_is_sequence.b (takes_of rfl rfl rfl rfl) (pda_cons (pd_var (pv 0)) pda_nil)) (pd_one (pd_cmp op_eq op2_eq.op (pd_builtB (fun h => pe_callB call_len_seq (by rfl) T.b_len (by decide +kernel) h) cn_len.op (pda_cons (pd_var (pv 0)) pda_nil)) (pd_var (pv 1)) (nomark _)))))), ?_⟩
  rintro as Qd Ed ⟨x, xs, rfl, hx, hl, k⟩
  refine DR.start (δ' := [some (.d x), some (.d (.int xs.length))]) rfl ?_
  walk_at "dd"
  refine ⟨x, xs, rfl, hx, ?_⟩
  walk_at "dd"
  rcases hx with rfl | rfl
  · walk_at "dd"
    rw [if_neg Bool.false_ne_true, show decide (V.int (xs.length : Int) = V.int (xs.length : Int)) = true from decide_eq_true rfl]
    exact k
  · walk_at "dd"
    rw [if_neg Bool.false_ne_true, show decide (V.int (xs.length : Int) = V.int (xs.length : Int)) = true from decide_eq_true rfl]
    exact k
end
end KT

set_option Elab.async false
set_option linter.all false
set_option maxRecDepth 100000
set_option maxHeartbeats 0
set_option pp.deepTerms false
set_option pp.deepTerms.threshold 8


namespace KT
open PySem PySem.Spec PyProof.Rows L2 DL
/-- a row, as a tuple or as a list -/
def AsRow (d : D) (r : Row) : Prop := d = rowD r ∨ d = .lst [.str r.1, .str r.2.1, .int r.2.2]
/-- rows, each as a tuple or as a list -/
inductive AsRows : List D → List Row → Prop
  | nil : AsRows [] []
  | cons {d : D} {r : Row} {ds : List D} {rs : List Row} (h : AsRow d r) (t : AsRows ds rs) : AsRows (d :: ds) (r :: rs)
theorem asRows_self : ∀ {rs : List Row}, AsRows (rs.map rowD) rs
  | [] => .nil
  | _ :: _ => .cons (.inl rfl) asRows_self
theorem AsRows.len {ds : List D} {rs : List Row} (h : AsRows ds rs) : ds.length = rs.length := by
  induction h with
  | nil => rfl
  | cons _ _ ih => rw [List.length_cons, List.length_cons, ih]
theorem AsRows.at_ {ds : List D} {rs : List Row} (h : AsRows ds rs) : ∀ {i : Nat} {d : D}, ds[i]? = some d → ∃ r, rs[i]? = some r ∧ AsRow d r := by
  induction h with
  | nil => intro i d e; simp at e
  | @cons d0 r0 ds rs q t ih =>
    intro i d e
    cases i with
    | zero => simp only [List.getElem?_cons_zero, Option.some.injEq] at e ⊢; subst e; exact ⟨r0, rfl, q⟩
    | succ i => simp only [List.getElem?_cons_succ] at e ⊢; exact ih e
def sdRowFault : SpD := fun as Q _ => ∃ (ns : List Str) (r : Row) (y : D) (cap : Int), as = [.d (.tup (ns.map .str)), .d y, .d (.int cap)] ∧ AsRow y r ∧ r.1 ∈ ns ∧ r.2.1 ∈ ns ∧ r.1 ≠ r.2.1 ∧ 0 ≤ r.2.2 ∧ r.2.2 ≤ cap ∧ Q (.d .non) []
section
variable {P : Program} {w : World} {K : PySem.W.Frag} {mg : Str → Option Value} {base : Heap}
abbrev s_row_fault : Stmt := top 27
theorem sc_row_fault : FnScope ["known", "row", "cap", "up", "down", "most"] ["known", "row", "cap"] (defScope s_row_fault) := ⟨rfl, rfl, rfl, by decide +kernel, rfl, by decide +kernel, by decide +kernel⟩
theorem ok_fault (D_is_row : DefD P w K mg base "is_row" 3 ["thing", "length"] sdIsRow) (D_is_whole : DefD P w K mg base "is_whole" 3 ["thing", "low", "high"] sdWhole) {f : Addr} {fd : FuncData} (G : Fun K "_row_fault" "_row_fault" s_row_fault f fd) (T : TxtN mg) : FnOk P w K mg base (L2.CX P w) 5 f fd ["known", "row", "cap"] (spOf K sdRowFault) := by
  refine okD G sc_row_fault [] (fun as Q E ⟨xs, y, z, u, e, _⟩ => by subst e; exact ⟨rfl, rfl⟩) ⟨_, fun cdv A outer s H E ad F0 H0 hr => (pds_cons (psd_if (ptd_not (ptd_val (pd_call D_is_row.ok (hr.mono (by decide)) (by rfl) D_is_row.mg D_is_row.kp D_is_row.b (takes_of rfl rfl rfl rfl) (pda_cons (pd_var (pv 1)) (pda_cons (pd_const pe_int (fun _ => .int _)) pda_nil))) (fun h => pt_val h))) (pds_one (psd_ret (pd_const pe_str (fun _ => .str (by decide +kernel))))) pds_nil)
      (pds_cons (psd_unpack (pd_var (pv 1)) (PG.or (pgd_tup (is := [3, 4, 5]) (vs := [3, 4, 5]) (pg_tup rfl (pgs_cons (pg_name (i := 3) sc_row_fault.nd rfl (.inl rfl)) (pgs_cons (pg_name (i := 4) sc_row_fault.nd rfl (.inl rfl)) (pgs_cons (pg_name (i := 5) sc_row_fault.nd rfl (.inl rfl)) pgs_nil)))) rfl (by show ∀ i ∈ ([3, 4, 5] : List Nat), ¬ (i ∈ ([] : List Nat)) ∧ i ∈ ([3, 4, 5] : List Nat); decide)) (pgd_lst (is := [3, 4, 5]) (vs := [3, 4, 5]) (pg_unl rfl (pgs_cons (pg_name (i := 3) sc_row_fault.nd rfl (.inl rfl)) (pgs_cons (pg_name (i := 4) sc_row_fault.nd rfl (.inl rfl)) (pgs_cons (pg_name (i := 5) sc_row_fault.nd rfl (.inl rfl)) pgs_nil)))) rfl (by show ∀ i ∈ ([3, 4, 5] : List Nat), ¬ (i ∈ ([] : List Nat)) ∧ i ∈ ([3, 4, 5] : List Nat); decide))) (fun h g => ps_asg h g))
      (pds_cons (psd_if (ptd_cmp op_notIn_seq (op2_in true).op (pd_var (pv 3)) (pd_var (pv 0)) rfl) (pds_one (psd_ret (pd_const pe_str (fun _ => .str (by decide +kernel))))) pds_nil)
      (pds_cons (psd_if (ptd_cmp op_notIn_seq (op2_in true).op (pd_var (pv 4)) (pd_var (pv 0)) rfl) (pds_one (psd_ret (pd_const pe_str (fun _ => .str (by decide +kernel))))) pds_nil)
      (pds_cons (psd_if (ptd_cmp op_eq op2_eq.op (pd_var (pv 3)) (pd_var (pv 4)) (nomark _)) (pds_one (psd_ret (pd_const pe_str (fun _ => .str (by decide +kernel))))) pds_nil)
      (pds_cons (psd_if (ptd_not (ptd_val (pd_call D_is_whole.ok (hr.mono (by decide)) (by rfl) D_is_whole.mg D_is_whole.kp D_is_whole.b (takes_of rfl rfl rfl rfl) (pda_cons (pd_var (pv 5)) (pda_cons (pd_const pe_int (fun _ => .int _)) (pda_cons (pd_var (pv 2)) pda_nil)))) (fun h => pt_val h))) (pds_one (psd_ret (pd_const pe_str (fun _ => .str (by decide +kernel))))) pds_nil)
      (pds_one (psd_ret (pd_const pe_non (fun _ => .non)))))))))), ?_⟩
  rintro as Qd Ed ⟨ns, ⟨a, b, m⟩, y, cap, rfl, hy, h1, h2, h3, h4, h5, k⟩
  refine DR.start (δ' := [some (.d (.tup (ns.map .str))), some (.d y), some (.d (.int cap)), none, none, none]) rfl ?_
  walk_at "dd"
  refine ⟨y, [.str a, .str b, .int m], rfl, hy.symm, by show 3 ≤ 1000; decide, ?_⟩
  repeat ((fail_if_success (with_reducible apply DR.cut)); walk_at "dd1")
  with_reducible refine DR.cut (fun δ => δ = [some (.d (.tup (ns.map .str))), some (.d y), some (.d (.int cap)), some (.d (.str a)), some (.d (.str b)), some (.d (.int m))]) (fun N kN => ?_) ?_
  · rcases hy with rfl | rfl
    · walk_at "dd"
      refine DR.orgl (DR.tupg (xs := [.str a, .str b, .int m]) ?_)
      walk_at "dd"
      exact kN _ rfl
    · walk_at "dd"
      refine DR.orgr ?_
      refine ⟨[.str a, .str b, .int m], rfl, ?_⟩
      walk_at "dd"
      exact kN _ rfl
  rintro δ rfl
  walk_at "dd"
  refine ⟨_, _, _, rfl, rfl, scL_str, ?_⟩
  walk_at "dd"
  rw [if_pos rfl, inV_str, decide_eq_true h1]
  walk_at "dd"
  refine ⟨_, _, _, rfl, rfl, scL_str, ?_⟩
  walk_at "dd"
  rw [if_pos rfl, inV_str, decide_eq_true h2]
  walk_at "dd"
  rw [decide_eq_false h3]
  walk_at "dd"
  refine ⟨m, 0, cap, rfl, h4, h5, ?_⟩
  walk_at "dd"
  exact k
end
end KT

set_option Elab.async false
set_option linter.all false
set_option maxRecDepth 100000
set_option maxHeartbeats 0
set_option pp.deepTerms false
set_option pp.deepTerms.threshold 8


namespace KT
open PySem PySem.Spec PyProof.Rows L2 DL
def sdRowsOk : SpD := fun as Q _ => ∃ (ns : List Str) (rs : List Row) (ds : List D) (x : D) (cap : Int), as = [.d (.tup (ns.map .str)), .d x, .d (.int cap)] ∧ RowOf x ds ∧ AsRows ds rs ∧ rs.length ≤ 200 ∧ (∀ r ∈ rs, (r.1 ∈ ns ∧ r.2.1 ∈ ns ∧ r.1 ≠ r.2.1 ∧ 0 ≤ r.2.2) ∧ r.2.2 ≤ cap) ∧ (rs.map ends).Nodup ∧ Q (.d (.tup (rs.map rowD))) []
abbrev endD (p : Str × Str) : D := .tup [.str p.1, .str p.2]
theorem pyL_any {a b : Str} : ∀ {l : List (Str × Str)}, (a, b) ∉ l → ((pyL (l.map endD)).any fun z => PyData.eqv z (D.py (.tup [.str a, .str b]))) = false
  | [], _ => rfl
  | (c, d) :: l, h => by
    have ih := pyL_any (l := l) fun z => h (List.mem_cons_of_mem _ z)
    have ne : ¬ (c = a ∧ d = b) := fun ⟨e1, e2⟩ => h (by rw [e1, e2]; exact List.mem_cons_self)
    rw [List.map_cons]
    simp only [pyL, List.any_cons]
    rw [ih, Bool.or_false]
    simp only [D.py, pyL, PyData.eqv, PyData.eqvAll, Bool.and_true]
    cases q : (c == a && d == b) with
    | false => rfl
    | true =>
      rw [Bool.and_eq_true, beq_iff_eq, beq_iff_eq] at q
      exact absurd q ne
theorem cmp_end {p : Str × Str} : Cmp (endD p) := ⟨rfl, by simp [D.py, pyL, PyData.depth, PyData.depthAll]⟩
theorem cmp_ends (l : List (Str × Str)) : Cmp (.lst (l.map endD)) := by
  have h1 : isPyL (l.map endD) = true := by
    induction l with
    | nil => rfl
    | cons p l ih =>
      rw [List.map_cons]
      simp only [isPyL, D.isPy]
      rw [ih]
      rfl
  have h2 : PyData.depthAll (pyL (l.map endD)) ≤ 10 := by
    induction l with
    | nil => simp [pyL, PyData.depthAll]
    | cons p l ih =>
      rw [List.map_cons]
      have := ih (by simp only [List.map_cons, isPyL, D.isPy] at h1; simpa using h1)
      simp [D.py, pyL, PyData.depth, PyData.depthAll] at this ⊢
      omega
  refine ⟨h1, ?_⟩
  simp [D.py, PyData.depth] at h2 ⊢
  omega
section
variable {P : Program} {w : World} {K : PySem.W.Frag} {mg : Str → Option Value} {base : Heap}
abbrev s_checked_rows : Stmt := top 28
theorem sc_checked_rows : FnScope ["known", "rows", "cap", "kept", "pairs", "index", "row", "word", "up", "down", "most"] ["known", "rows", "cap"] (defScope s_checked_rows) := ⟨rfl, rfl, rfl, by decide +kernel, rfl, by decide +kernel, by decide +kernel⟩
theorem ok_rowsOk (D_is_sequence : DefD P w K mg base "is_sequence" 1 ["thing"] sdSeq) (D_row_fault : DefD P w K mg base "_row_fault" 5 ["known", "row", "cap"] sdRowFault) {f : Addr} {fd : FuncData} (G : Fun K "_checked_rows" "_checked_rows" s_checked_rows f fd) (T : TxtN mg) : FnOk P w K mg base (L2.CX P w) 7 f fd ["known", "rows", "cap"] (spOf K sdRowsOk) := by
  refine okD G sc_checked_rows [] (fun as Q E ⟨xs, y, ds, z, c, e, _⟩ => by subst e; exact ⟨rfl, rfl⟩) ⟨_, fun cdv A outer s H E ad F0 H0 hr => (pds_cons (psd_if (ptd_not (ptd_val (pd_call D_is_sequence.ok (hr.mono (by decide)) (by rfl) D_is_sequence.mg D_is_sequence.kp D_is_sequence.b (takes_of rfl rfl rfl rfl) (pda_cons (pd_var (pv 1)) pda_nil)) (fun h => pt_val h))) (pds_one psd_never) pds_nil)
      (pds_cons (psd_setO (i := 3) (pd_lst (fun h => pe_lst h) pda_nil) (by show ¬ (3 ∈ ([] : List Nat)); decide) sc_checked_rows.nd rfl (.inl rfl))
      (pds_cons (psd_setO (i := 4) (pd_lst (fun h => pe_lst h) pda_nil) (by show ¬ (4 ∈ ([] : List Nat)); decide) sc_checked_rows.nd rfl (.inl rfl))
      (pds_cons (psd_for (passes_of rfl) rfl (PI.or (pid_enum (by rfl) T.b_enumerate (pda_cons (pd_var (pv 1)) pda_nil)) (pid_enumT (by rfl) T.b_enumerate (pda_cons (pd_var (pv 1)) pda_nil))) (pgd_tup (is := [5, 6]) (vs := [5, 6]) (pg_tup rfl (pgs_cons (pg_name (i := 5) sc_checked_rows.nd rfl (.inl rfl)) (pgs_cons (pg_name (i := 6) sc_checked_rows.nd rfl (.inl rfl)) pgs_nil))) rfl (by show ∀ i ∈ ([5, 6] : List Nat), ¬ (i ∈ ([] : List Nat)) ∧ i ∈ ([5, 6] : List Nat); decide))
      (pds_cons (psd_set (i := 7) (pd_call D_row_fault.ok (hr.mono (by decide)) (by rfl) D_row_fault.mg D_row_fault.kp D_row_fault.b (takes_of rfl rfl rfl rfl) (pda_cons (pd_var (pv 0)) (pda_cons (pd_var (pv 6)) (pda_cons (pd_var (pv 2)) pda_nil)))) (by show ¬ (7 ∈ ([] : List Nat)); decide) sc_checked_rows.nd rfl (.inl rfl))
      (pds_cons (psd_if (ptd_cmp op_notN op2_notN.op (pd_var (pv 7)) (pd_const pe_non (fun _ => .non)) (nomark _)) (pds_one psd_never) pds_nil)
      (pds_cons (psd_unpack (pd_var (pv 6)) (PG.or (pgd_tup (is := [8, 9, 10]) (vs := [8, 9, 10]) (pg_tup rfl (pgs_cons (pg_name (i := 8) sc_checked_rows.nd rfl (.inl rfl)) (pgs_cons (pg_name (i := 9) sc_checked_rows.nd rfl (.inl rfl)) (pgs_cons (pg_name (i := 10) sc_checked_rows.nd rfl (.inl rfl)) pgs_nil)))) rfl (by show ∀ i ∈ ([8, 9, 10] : List Nat), ¬ (i ∈ ([] : List Nat)) ∧ i ∈ ([8, 9, 10] : List Nat); decide)) (pgd_lst (is := [8, 9, 10]) (vs := [8, 9, 10]) (pg_unl rfl (pgs_cons (pg_name (i := 8) sc_checked_rows.nd rfl (.inl rfl)) (pgs_cons (pg_name (i := 9) sc_checked_rows.nd rfl (.inl rfl)) (pgs_cons (pg_name (i := 10) sc_checked_rows.nd rfl (.inl rfl)) pgs_nil)))) rfl (by show ∀ i ∈ ([8, 9, 10] : List Nat), ¬ (i ∈ ([] : List Nat)) ∧ i ∈ ([8, 9, 10] : List Nat); decide))) (fun h g => ps_asg h g))
      (pds_cons (psd_if (ptd_inLO_t (j := 4) (units65 hr) (pd_tup (fun h => pe_tup h) (pda_cons (pd_var (pv 8)) (pda_cons (pd_var (pv 9)) pda_nil))) (pv 4)) (pds_one psd_never) pds_nil)
      (pds_cons (psd_expr (pd_methO (j := 4) (fun ho h => pe_bm PySem.F.plainAttrs_list PySem.F.slot_list_append PySem.F.type_list_append mt_append ho h) mo_append (pv 4) (pda_cons (pd_tup (fun h => pe_tup h) (pda_cons (pd_var (pv 8)) (pda_cons (pd_var (pv 9)) pda_nil))) pda_nil)))
      (pds_one (psd_expr (pd_methO (j := 3) (fun ho h => pe_bm PySem.F.plainAttrs_list PySem.F.slot_list_append PySem.F.type_list_append mt_append ho h) mo_append (pv 3) (pda_cons (pd_tup (fun h => pe_tup h) (pda_cons (pd_var (pv 8)) (pda_cons (pd_var (pv 9)) (pda_cons (pd_var (pv 10)) pda_nil)))) pda_nil))))))))))
      (pds_one (psd_ret (pd_builtB (fun h => pe_callTy call_tuple_of (by rfl) T.b_tuple (by decide +kernel) h) cn_tuple (pda_cons (pd_fvar (i := 3) (pv 3) (by show ¬ (3 ∈ ([] : List Nat)); decide)) pda_nil)))))))), ?_⟩
  rintro as Qd Ed ⟨ns, rs, ds, x, cap, rfl, hx, hds, hl, hr, nd, k⟩
  refine DR.start (δ' := [some (.d (.tup (ns.map .str))), some (.d x), some (.d (.int cap)), none, none, none, none, none, none, none, none]) rfl ?_
  walk_at "dd"
  refine ⟨_, _, rfl, hx, ?_⟩
  walk_at "dd"
  have hle : ∀ i, (rs.take i).length < sizeLine := fun i => Nat.lt_of_le_of_lt (show _ ≤ 200 by rw [List.length_take]; omega) (by decide)
  with_reducible refine DR.icut (fun xs δ => xs = enumL ds ∧ δ = [some (.d (.tup (ns.map .str))), some (.d x), some (.d (.int cap)), some (.own (.lst [])), some (.own (.lst [])), none, none, none, none, none, none]) (fun N kN => ?_) ?_
  · rcases hx with rfl | rfl
    · refine DR.orl (DR.enumi ?_)
      walk_at "dd"
      exact ⟨_, _, rfl, .inl rfl, kN _ _ ⟨rfl, rfl⟩⟩
    · refine DR.orr (DR.enumti ?_)
      walk_at "dd"
      exact kN _ _ ⟨rfl, rfl⟩
  rintro xs δ ⟨rfl, rfl⟩
  refine DR.for_inv (fun i δ => ∃ p5 p6 p7 p8 p9 p10, δ = [some (.d (.tup (ns.map .str))), some (.d x), some (.d (.int cap)), some (.own (.lst ((rs.take i).map rowD))), some (.own (.lst (((rs.take i).map ends).map endD))), p5, p6, p7, p8, p9, p10]) ⟨_, _, _, _, _, _, rfl⟩ ?_ ?_
  · rintro i y δ N hy ⟨p5, p6, p7, p8, p9, p10, rfl⟩ kN
    obtain ⟨z, hz, rfl⟩ := DR.enum_at hy
    obtain ⟨⟨a, b, m⟩, hri, hy⟩ := hds.at_ hz
    have hm := hr _ (List.mem_of_getElem? hri)
    walk_at "dd"
    refine ⟨ns, (a, b, m), _, cap, rfl, hy, hm.1.1, hm.1.2.1, hm.1.2.2.1, hm.1.2.2.2, hm.2, ?_⟩
    walk_at "dd"
    refine ⟨true, rfl, ⟨fun _ => rfl, fun _ => rfl⟩, ?_⟩
    repeat ((fail_if_success (with_reducible apply DR.cut)); walk_at "dd1")
    with_reducible refine DR.cut (fun δ => δ = [some (.d (.tup (ns.map .str))), some (.d x), some (.d (.int cap)), some (.own (.lst ((rs.take i).map rowD))), some (.own (.lst (((rs.take i).map ends).map endD))), some (.d (.int i)), some (.d z), some (.d .non), some (.d (.str a)), some (.d (.str b)), some (.d (.int m))]) (fun N kN => ?_) ?_
    · rcases hy with rfl | rfl
      · walk_at "dd"
        refine DR.orgl (DR.tupg (xs := [.str a, .str b, .int m]) ?_)
        walk_at "dd"
        exact kN _ rfl
      · walk_at "dd"
        refine DR.orgr ?_
        refine ⟨[.str a, .str b, .int m], rfl, ?_⟩
        walk_at "dd"
        exact kN _ rfl
    rintro δ rfl
    walk_at "dd"
    have hout : (a, b) ∉ (rs.take i).map ends := by
      rw [List.map_take]
      exact nd_take nd (by rw [List.getElem?_map, hri]; rfl)
    refine ⟨cmp_end (p := (a, b)), cmp_ends _, ?_⟩
    refine ⟨false, congrArg (fun z => DV.d (D.bl (false != z))) (pyL_any hout), ?_⟩
    walk_at "dd"
    refine ⟨[_], _, rfl, rfl, _, rfl, by rw [List.length_map, List.length_map]; exact hle i, ?_⟩
    walk_at "dd"
    refine ⟨[_], _, rfl, rfl, _, rfl, by rw [List.length_map]; exact hle i, ?_⟩
    have q := kN _ ⟨some (.d (.int i)), some (.d z), some (.d .non), some (.d (.str a)), some (.d (.str b)), some (.d (.int m)), rfl⟩
    rw [List.take_succ, hri, List.map_append, List.map_append, List.map_append] at q
    exact q
  · rintro δ ⟨p5, p6, p7, p8, p9, p10, rfl⟩
    rw [DR.enum_len, hds.len, List.take_length]
    walk_at "dd"
    refine ⟨_, _, rfl, .inl rfl, ?_⟩
    walk_at "dd"
    exact k
end
end KT

set_option Elab.async false
set_option linter.all false
set_option maxRecDepth 100000
set_option maxHeartbeats 0
set_option pp.deepTerms false
set_option pp.deepTerms.threshold 8


namespace KT
open PySem PySem.Spec PyProof.Rows L2 DL
open Dst (IsDist)
structure TxtT (K : PySem.W.Frag) (mg : Str → Option Value) (C : Addr) : Prop extends TxtN mg where
  cl_Table : Cls K C
  na_Table : ∀ n : Str, (["goods", "_assets", "rows", "_sums", "_entries"] : List Str).contains n = true → NoAttr K C n
def ent (ns : List Str) (f : Fn) : List D := (prs ns).map fun p => .tup [.str p.1, .str p.2, optD (f p.1 p.2)]
def tabFs (gs : List Str) (rs : List Row) (kvs : List (List Key × D)) (f : Fn) : List (Str × D) := [("goods", .tup (gs.map .str)), ("_assets", .tup ((cash :: gs).map .str)), ("rows", .tup (rs.map rowD)), ("_sums", .dT kvs), ("_entries", .tup (ent (cash :: gs) f))]
def sdInit (C : Addr) : SpD := fun as Q _ => ∃ (gs : List Str) (rs : List Row) (ds : List D) (x y : D) (cap : Int), as = [.own (.ins C []), .d x, .d y, .d (.int cap)] ∧ RowOf x (gs.map .str) ∧ RowOf y ds ∧ AsRows ds rs ∧ Goods gs ∧ rs.length ≤ 200 ∧ FineRows (cash :: gs) rs ∧ (∀ r ∈ rs, r.2.2 ≤ cap) ∧
  ∀ kvs f, Dct (cash :: gs) kvs f → IsDist (cash :: gs) rs f → Q (.d .non) [.ins C (tabFs gs rs kvs f)]
section
variable {P : Program} {w : World} {K : PySem.W.Frag} {mg : Str → Option Value} {base : Heap} {C : Addr}
abbrev s_Table___init : Stmt := inClass (top 31) 0
theorem sc_Table___init : FnScope ["self", "goods", "rows", "cap", "pairs", "up", "down"] ["self", "goods", "rows", "cap"] (defScope s_Table___init) := ⟨rfl, rfl, rfl, by decide +kernel, rfl, by decide +kernel, by decide +kernel⟩
theorem ok_init (D_checked_goods : DefD P w K mg base "checked_goods" 3 ["goods"] sdChecked) (D_assets : DefD P w K mg base "assets" 5 ["goods"] sdAssets) (D_checked_rows : DefD P w K mg base "_checked_rows" 7 ["known", "rows", "cap"] sdRowsOk) (D_closed_sums : DefD P w K mg base "closed_sums" 1 ["assets", "rows"] sdSums) (D_pairs_of : DefD P w K mg base "pairs_of" 1 ["known"] sdPairsOf)
    {f : Addr} {fd : FuncData} (G : Fun K "__init__" "Table.__init__" s_Table___init f fd) (T : TxtT K mg C) : FnOk P w K mg base (L2.CX P w) 9 f fd ["self", "goods", "rows", "cap"] (spOf K (sdInit C)) := by
  refine okD G sc_Table___init [0] (fun as Q E ⟨xs, y, ds, z, c, c2, e, _⟩ => by subst e; exact ⟨rfl, rfl⟩) ⟨_, fun cdv A outer s H E ad F0 H0 hr => (pds_cons (psd_fld (i := 0) (pv 0) (pd_call D_checked_goods.ok (hr.mono (by decide)) (by rfl) D_checked_goods.mg D_checked_goods.kp D_checked_goods.b (takes_of rfl rfl rfl rfl) (pda_cons (pd_var (pv 1)) pda_nil)) T.cl_Table (T.na_Table _ (by decide)) rfl)
      (pds_cons (psd_fld (i := 0) (pv 0) (pd_call D_assets.ok (hr.mono (by decide)) (by rfl) D_assets.mg D_assets.kp D_assets.b (takes_of rfl rfl rfl rfl) (pda_cons (pd_fldO (i := 0) (pv 0) T.cl_Table (T.na_Table _ (by decide)) rfl) pda_nil)) T.cl_Table (T.na_Table _ (by decide)) rfl)
      (pds_cons (psd_fld (i := 0) (pv 0) (pd_call D_checked_rows.ok (hr.mono (by decide)) (by rfl) D_checked_rows.mg D_checked_rows.kp D_checked_rows.b (takes_of rfl rfl rfl rfl) (pda_cons (pd_fldO (i := 0) (pv 0) T.cl_Table (T.na_Table _ (by decide)) rfl) (pda_cons (pd_var (pv 2)) (pda_cons (pd_var (pv 3)) pda_nil)))) T.cl_Table (T.na_Table _ (by decide)) rfl)
      (pds_cons (psd_fld (i := 0) (pv 0) (pd_call D_closed_sums.ok (hr.mono (by decide)) (by rfl) D_closed_sums.mg D_closed_sums.kp D_closed_sums.b (takes_of rfl rfl rfl rfl) (pda_cons (pd_fldO (i := 0) (pv 0) T.cl_Table (T.na_Table _ (by decide)) rfl) (pda_cons (pd_fldO (i := 0) (pv 0) T.cl_Table (T.na_Table _ (by decide)) rfl) pda_nil))) T.cl_Table (T.na_Table _ (by decide)) rfl)
      (pds_cons (psd_set (i := 4) (pd_call D_pairs_of.ok (hr.mono (by decide)) (by rfl) D_pairs_of.mg D_pairs_of.kp D_pairs_of.b (takes_of rfl rfl rfl rfl) (pda_cons (pd_fldO (i := 0) (pv 0) T.cl_Table (T.na_Table _ (by decide)) rfl) pda_nil)) (by show ¬ (4 ∈ ([0] : List Nat)); decide) sc_Table___init.nd rfl (.inl rfl))
      (pds_cons (psd_for (passes_of rfl) rfl (pid_tup (pd_var (pv 4))) (pgd_tup (is := [5, 6]) (vs := [5, 6]) (pg_tup rfl (pgs_cons (pg_name (i := 5) sc_Table___init.nd rfl (.inl rfl)) (pgs_cons (pg_name (i := 6) sc_Table___init.nd rfl (.inl rfl)) pgs_nil))) rfl (by show ∀ i ∈ ([5, 6] : List Nat), ¬ (i ∈ ([0] : List Nat)) ∧ i ∈ ([5, 6] : List Nat); decide))
      (pds_one (psd_if (ptd_inF_f (fun hi ho => pt_cmp (pc_dnotin (hu_of hr) hi ho)) (pd_tup (fun h => pe_tup h) (pda_cons (pd_var (pv 5)) (pda_cons (pd_var (pv 6)) pda_nil))) (pd_fldO (i := 0) (pv 0) T.cl_Table (T.na_Table _ (by decide)) rfl)) (pds_one psd_never) pds_nil)))
      (pds_one (psd_fld (i := 0) (pv 0) (pd_builtB (fun h => pe_callTy call_tuple_of (by rfl) T.b_tuple (by decide +kernel) h) cn_tuple (pda_cons (pd_lc (own := [("up", 5), ("down", 6)]) (by rfl) sc_Table___init.nd (pid_tup (pd_var (pv 4))) (blkOk_by (own := [("up", 5), ("down", 6)]) (N := ["self", "goods", "rows", "cap", "pairs", "up", "down"]) (sc := defScope s_Table___init) (by decide +kernel)) (fun _ _ _ _ _ => (pgd_tup (is := [5, 6]) (vs := [5, 6]) (pg_tup rfl (pgs_cons (pg_name (i := 5) sc_Table___init.nd rfl (.inl rfl)) (pgs_cons (pg_name (i := 6) sc_Table___init.nd rfl (.inl rfl)) pgs_nil))) rfl (by show ∀ i ∈ ([5, 6] : List Nat), ¬ (i ∈ ([0] : List Nat)) ∧ i ∈ ([5, 6] : List Nat); decide))) (fun _ _ _ _ _ => ptsd_nil) (fun _ _ _ _ _ => (pd_tup (fun h => pe_tup h) (pda_cons (pd_var (pv 5)) (pda_cons (pd_var (pv 6)) (pda_cons (pd_get (fun ho hi => pe_dget (hu_of hr) ho hi (fun _ _ => rfl)) (pd_fldO (i := 0) (pv 0) T.cl_Table (T.na_Table _ (by decide)) rfl) (pd_tup (fun h => pe_tup h) (pda_cons (pd_var (pv 5)) (pda_cons (pd_var (pv 6)) pda_nil)))) pda_nil))))) (by show ∀ i ∈ ([5, 6] : List Nat), ¬ (i ∈ ([0] : List Nat)); decide)) pda_nil)) T.cl_Table (T.na_Table _ (by decide)) rfl)))))))), ?_⟩
  rintro as Qd Ed ⟨gs, rs, ds, x, y, cap, rfl, hx, hy, hds, hg, hl, hr, hc, k⟩
  refine DR.start (δ' := [some (.own (.ins C [])), some (.d x), some (.d y), some (.d (.int cap)), none, none, none]) rfl ?_
  walk_at "dd"
  have hrow : ∀ r ∈ rs, (r.1 ∈ cash :: gs ∧ r.2.1 ∈ cash :: gs ∧ r.1 ≠ r.2.1 ∧ 0 ≤ r.2.2) ∧ r.2.2 ≤ cap := fun r h => ⟨hr.row r h, hc r h⟩
  have hlen : (cash :: gs).length ≤ 10 := by rw [List.length_cons]; have := hg.2.2.1; omega
  refine ⟨gs, x, rfl, hx, hg, ?_⟩
  walk_at "dd"
  refine ⟨(by show 0 < 1000; decide), ?_⟩
  walk_at "dd"
  refine ⟨gs, _, rfl, .inr rfl, hg, ?_⟩
  walk_at "dd"
  refine ⟨(by show 1 < 1000; decide), ?_⟩
  walk_at "dd"
  refine ⟨cash :: gs, rs, ds, _, cap, rfl, hy, hds, hl, hrow, hr.nd, ?_⟩
  walk_at "dd"
  refine ⟨(by show 2 < 1000; decide), ?_⟩
  walk_at "dd"
  refine ⟨cash :: gs, rs, _, rfl, .inr (.inr rfl), hlen, fun r h => ⟨(hr.row r h).1, (hr.row r h).2.1⟩, fun r h => (hr.row r h).2.2.2, fun kvs f hd hf => ?_⟩
  walk_at "dd"
  refine ⟨(by show 3 < 1000; decide), ?_⟩
  walk_at "dd"
  refine ⟨cash :: gs, rfl, hlen, ?_⟩
  walk_at "dd"
  have val : ∀ a b, (a, b) ∈ prs (cash :: gs) → valD kvs (k2 a b) = some (optD (f a b)) := fun a b h => by
    obtain ⟨ha, hb, _⟩ := prs_mem.mp h
    obtain ⟨n, s, w⟩ := hr.all a b ha hb
    obtain ⟨t, e, _⟩ := hf.least a b n s ha hb w
    rw [hd.val, e]
    rfl
  have hpl : (prs (cash :: gs)).length ≤ 100 := prs_len hlen
  refine DR.for_inv (fun i δ => ∃ p5 p6, δ = [some (.own (.ins C [("goods", .tup (gs.map .str)), ("_assets", .tup ((cash :: gs).map .str)), ("rows", .tup (rs.map rowD)), ("_sums", .dT kvs)])), some (.d x), some (.d y), some (.d (.int cap)), some (.d (.tup ((prs (cash :: gs)).map prD))), p5, p6]) ⟨none, none, by with_unfolding_all rfl⟩ ?_ ?_
  · rintro i z δ N hz ⟨p5, p6, rfl⟩ kN
    obtain ⟨⟨a, b⟩, hab, rfl⟩ := DR.map_at hz
    walk_at "dd"
    refine ⟨_, k2 a b, rfl, rfl, ?_⟩
    rw [val a b (List.mem_of_getElem? hab)]
    walk_at "dd"
    exact kN _ ⟨_, _, rfl⟩
  · rintro δ ⟨p5, p6, rfl⟩
    walk_at "dd"
    refine DR.lc_mapM (fun p => D.tup [.str p.1, .str p.2, optD (f p.1 p.2)]) (fun p acc N hp hl kN => ?_) ?_
    · obtain ⟨a, b⟩ := p
      walk_at "dd"
      refine ⟨_, k2 a b, _, rfl, rfl, val a b hp, ?_⟩
      walk_at "dd"
      exact ⟨Nat.lt_of_lt_of_le hl (Nat.le_trans hpl (by decide)), kN⟩
    · walk_at "dd"
      refine ⟨_, _, rfl, .inl rfl, ?_⟩
      walk_at "dd"
      refine ⟨(by show 4 < 1000; decide), ?_⟩
      walk_at "dd"
      exact k kvs f hd hf
end
end KT

set_option Elab.async false
set_option linter.all false
set_option maxRecDepth 100000
set_option maxHeartbeats 0
set_option pp.deepTerms false
set_option pp.deepTerms.threshold 8


namespace KT
open PySem PySem.Spec PyProof.Rows L2 DL
open Dst (IsDist)
theorem kit_own {K : PySem.W.Frag} {a : Addr} : PySem.W.kitOne K (.ref a) (.ref a) = some true := by
  unfold PySem.W.kitOne
  simp
structure TxtO (K : PySem.W.Frag) (mg : Str → Option Value) (C OG ME : Addr) : Prop extends TxtT K mg C where
  c_Table : mg "Table" = some (.ref C)
  si_Table : SlX.SIsi K C
  c_OtherGoods : mg "OtherGoods" = some (.ref OG)
  oe_OtherGoods : Oex0 K OG
/-- a right table: its goods, rows, entries -/
def Tb (C : Addr) (gs : List Str) (rs : List Row) (e : En) (d : D) : Prop := ∃ kvs f, d = .obj C (tabFs gs rs kvs f) ∧ Goods gs ∧ FineRows (cash :: gs) rs ∧ rs.length ≤ 200 ∧ Dct (cash :: gs) kvs f ∧ IsDist (cash :: gs) rs f ∧ Ent (cash :: gs) rs e ∧ ∀ a b, a ∈ cash :: gs → b ∈ cash :: gs → f a b = some (e a b)
section
variable {P : Program} {w : World} {K : PySem.W.Frag} {mg : Str → Option Value} {base : Heap} {C OG ME : Addr}
/-! ### assets -/
def sdCheckA : SpD := fun as Q _ => ∃ (ns : List Str) (a : Str), as = [.d (.tup (ns.map .str)), .d (.str a)] ∧ a ∈ ns ∧ Q (.d .non) []
abbrev s_check_asset : Stmt := top 24
theorem sc_check_asset : FnScope ["known", "thing"] ["known", "thing"] (defScope s_check_asset) := ⟨rfl, rfl, rfl, by decide +kernel, rfl, by decide +kernel, by decide +kernel⟩
theorem ok_checkA {f : Addr} {fd : FuncData} (G : Fun K "check_asset" "check_asset" s_check_asset f fd) (T : TxtN mg) : FnOk P w K mg base (L2.CX P w) 1 f fd ["known", "thing"] (spOf K sdCheckA) := by
  refine okD G sc_check_asset [] (fun as Q E ⟨ns, a, e, _⟩ => by subst e; exact ⟨rfl, rfl⟩) ⟨_, fun cdv A outer s H E ad F0 H0 hr => (pds_one (psd_if (ptd_cmp op_notIn_seq (op2_in true).op (pd_var (pv 1)) (pd_var (pv 0)) rfl) (pds_one psd_never) pds_nil)), ?_⟩
  rintro as Qd Ed ⟨ns, a, rfl, ha, k⟩
  refine DR.start (δ' := [some (.d (.tup (ns.map .str))), some (.d (.str a))]) rfl ?_
  walk_at "dd"
  refine ⟨_, _, _, rfl, rfl, scL_str, ?_⟩
  walk_at "dd"
  rw [if_pos rfl, inV_str, decide_eq_true ha]
  walk_at "dd"
  exact k
def sdCheckP (C : Addr) : SpD := fun as Q _ => ∃ (gs : List Str) (rs : List Row) (e : En) (d : D) (a b : Str), as = [.d d, .d (.str a), .d (.str b)] ∧ Tb C gs rs e d ∧ a ∈ cash :: gs ∧ b ∈ cash :: gs ∧ Q (.d .non) []
abbrev s_Table__check_pair : Stmt := inClass (top 31) 7
theorem sc_Table__check_pair : FnScope ["self", "up", "down"] ["self", "up", "down"] (defScope s_Table__check_pair) := ⟨rfl, rfl, rfl, by decide +kernel, rfl, by decide +kernel, by decide +kernel⟩
theorem ok_checkP (D_check_asset : DefD P w K mg base "check_asset" 1 ["known", "thing"] sdCheckA) {f : Addr} {fd : FuncData} (G : Fun K "_check_pair" "Table._check_pair" s_Table__check_pair f fd) (T : TxtT K mg C) : FnOk P w K mg base (L2.CX P w) 3 f fd ["self", "up", "down"] (spOf K (sdCheckP C)) := by
  refine okD G sc_Table__check_pair [] (fun as Q E ⟨gs, rs, e, d, a, b, q, _⟩ => by subst q; exact ⟨rfl, rfl⟩) ⟨_, fun cdv A outer s H E ad F0 H0 hr => (pds_cons (psd_expr (pd_call D_check_asset.ok (hr.mono (by decide)) (by rfl) D_check_asset.mg D_check_asset.kp D_check_asset.b (takes_of rfl rfl rfl rfl) (pda_cons (pd_fld (pd_var (pv 0)) T.cl_Table (T.na_Table _ (by decide)) rfl) (pda_cons (pd_var (pv 1)) pda_nil))))
      (pds_one (psd_expr (pd_call D_check_asset.ok (hr.mono (by decide)) (by rfl) D_check_asset.mg D_check_asset.kp D_check_asset.b (takes_of rfl rfl rfl rfl) (pda_cons (pd_fld (pd_var (pv 0)) T.cl_Table (T.na_Table _ (by decide)) rfl) (pda_cons (pd_var (pv 2)) pda_nil)))))), ?_⟩
  rintro as Qd Ed ⟨gs, rs, e, d, a, b, rfl, ⟨kvs, f, rfl, h1, h2, h3, h4, h5, h6, h7⟩, ha, hb, k⟩
  refine DR.start (δ' := [some (.d (.obj C (tabFs gs rs kvs f))), some (.d (.str a)), some (.d (.str b))]) rfl ?_
  walk_at "dd"
  refine ⟨_, a, rfl, ha, ?_⟩
  walk_at "dd"
  refine ⟨_, b, rfl, hb, ?_⟩
  walk_at "dd"
  exact k
def sdGet (C : Addr) : SpD := fun as Q _ => ∃ (gs : List Str) (rs : List Row) (e : En) (d : D) (a b : Str), as = [.d d, .d (.tup [.str a, .str b])] ∧ Tb C gs rs e d ∧ a ∈ cash :: gs ∧ b ∈ cash :: gs ∧ Q (.d (.int (e a b))) []
abbrev s_Table___getitem : Stmt := inClass (top 31) 8
theorem sc_Table___getitem : FnScope ["self", "at", "up", "down"] ["self", "at"] (defScope s_Table___getitem) := ⟨rfl, rfl, rfl, by decide +kernel, rfl, by decide +kernel, by decide +kernel⟩
theorem ok_get (D_Table__check_pair : DefM P w K mg base C "_check_pair" 3 ["self", "up", "down"] (sdCheckP C)) {f : Addr} {fd : FuncData} (G : Fun K "__getitem__" "Table.__getitem__" s_Table___getitem f fd) (T : TxtT K mg C) : FnOk P w K mg base (L2.CX P w) 5 f fd ["self", "at"] (spOf K (sdGet C)) := by
  refine okD G sc_Table___getitem [] (fun as Q E ⟨gs, rs, e, d, a, b, q, _⟩ => by subst q; exact ⟨rfl, rfl⟩) ⟨_, fun cdv A outer s H E ad F0 H0 hr => (pds_cons (psd_unpack (pd_var (pv 1)) (pgd_tup (is := [2, 3]) (vs := [2, 3]) (pg_tup rfl (pgs_cons (pg_name (i := 2) sc_Table___getitem.nd rfl (.inl rfl)) (pgs_cons (pg_name (i := 3) sc_Table___getitem.nd rfl (.inl rfl)) pgs_nil))) rfl (by show ∀ i ∈ ([2, 3] : List Nat), ¬ (i ∈ ([] : List Nat)) ∧ i ∈ ([2, 3] : List Nat); decide)) (fun h g => ps_asg h g))
      (pds_cons (psd_expr (pd_meth (pd_var (pv 0)) T.cl_Table D_Table__check_pair.me D_Table__check_pair.ok (hr.mono (by decide)) D_Table__check_pair.b (takes_of rfl rfl rfl rfl) (pda_cons (pd_var (pv 2)) (pda_cons (pd_var (pv 3)) pda_nil))))
      (pds_one (psd_ret (pd_get (fun ho hi => pe_dget (hu_of hr) ho hi (fun _ _ => rfl)) (pd_fld (pd_var (pv 0)) T.cl_Table (T.na_Table _ (by decide)) rfl) (pd_tup (fun h => pe_tup h) (pda_cons (pd_var (pv 2)) (pda_cons (pd_var (pv 3)) pda_nil)))))))), ?_⟩
  rintro as Qd Ed ⟨gs, rs, e, d, a, b, rfl, ht, ha, hb, k⟩
  obtain ⟨kvs, f, rfl, h1, h2, h3, h4, h5, h6, h7⟩ := id ht
  refine DR.start (δ' := [some (.d (.obj C (tabFs gs rs kvs f))), some (.d (.tup [.str a, .str b])), none, none]) rfl ?_
  walk_at "dd"
  refine ⟨gs, rs, e, _, a, b, rfl, ht, ha, hb, ?_⟩
  walk_at "dd"
  refine ⟨_, k2 a b, .int (e a b), rfl, rfl, by rw [h4.val, h7 a b ha hb]; rfl, ?_⟩
  walk_at "dd"
  exact k
theorem ent_rows {ns : List Str} {f : Fn} {e : En} (h : ∀ a b, a ∈ ns → b ∈ ns → f a b = some (e a b)) : ent ns f = (entRows ns e).map rowD := by
  unfold ent entRows
  rw [List.map_map]
  refine List.map_congr_left fun p hp => ?_
  obtain ⟨h1, h2, _⟩ := prs_mem.mp hp
  rw [h _ _ h1 h2]
  rfl
def sdEntries (C : Addr) : SpD := fun as Q _ => ∃ (gs : List Str) (rs : List Row) (e : En) (d : D), as = [.d d] ∧ Tb C gs rs e d ∧ Q (.d (.tup ((entRows (cash :: gs) e).map rowD))) []
abbrev s_Table_entries : Stmt := inClass (top 31) 2
theorem sc_Table_entries : FnScope ["self"] ["self"] (defScope s_Table_entries) := ⟨rfl, rfl, rfl, by decide +kernel, rfl, by decide +kernel, by decide +kernel⟩
theorem ok_entries {f : Addr} {fd : FuncData} (G : Fun K "entries" "Table.entries" s_Table_entries f fd) (T : TxtT K mg C) : FnOk P w K mg base (L2.CX P w) 1 f fd ["self"] (spOf K (sdEntries C)) := by
  refine okD G sc_Table_entries [] (fun as Q E ⟨gs, rs, e, d, q, _⟩ => by subst q; exact ⟨rfl, rfl⟩) ⟨_, fun cdv A outer s H E ad F0 H0 hr => (pds_one (psd_ret (pd_fld (pd_var (pv 0)) T.cl_Table (T.na_Table _ (by decide)) rfl))), ?_⟩
  rintro as Qd Ed ⟨gs, rs, e, d, rfl, ⟨kvs, f, rfl, h1, h2, h3, h4, h5, h6, h7⟩, k⟩
  refine DR.start (δ' := [some (.d (.obj C (tabFs gs rs kvs f)))]) rfl ?_
  walk_at "dd"
  rw [← ent_rows h7] at k
  exact k
theorem dp_row (r : Row) : Dp_ 2 (rowD r) := dp_tup fun d hd => by
  simp only [List.mem_cons, List.not_mem_nil, or_false] at hd
  rcases hd with rfl | rfl | rfl
  · exact dp_str
  · exact dp_str
  · exact dp_int
theorem dp_rows (l : List Row) : Dp_ 3 (.tup (l.map rowD)) := dp_tup (dp_map fun r _ => dp_row r)
theorem dp_strs (l : List Str) : Dp_ 2 (.tup (l.map .str)) := dp_tup (dp_map fun r _ => dp_str)
theorem eqv_rows {l k : List Row} : PyData.eqv (D.tup (l.map rowD)).py (D.tup (k.map rowD)).py = decide (l = k) := eqv_tups fun p q => eqv_trip eqv_strs eqv_strs eqv_ints p q
theorem eqv_names {l k : List Str} : PyData.eqv (D.tup (l.map .str)).py (D.tup (k.map .str)).py = decide (l = k) := eqv_tups eqv_strs
/-- the two tables are equal -/
def Same2 (gs gs2 : List Str) (e e2 : En) : Prop := gs = gs2 ∧ entRows (cash :: gs) e = entRows (cash :: gs2) e2
def sdEq (C : Addr) : SpD := fun as Q _ => ∃ (gs gs2 : List Str) (rs rs2 : List Row) (e e2 : En) (d d2 : D), as = [.d d, .d d2] ∧ Tb C gs rs e d ∧ Tb C gs2 rs2 e2 d2 ∧ ∀ b : Bool, (b = true ↔ Same2 gs gs2 e e2) → Q (.d (.bl b)) []
abbrev s_Table___eq : Stmt := inClass (top 31) 12
theorem sc_Table___eq : FnScope ["self", "other"] ["self", "other"] (defScope s_Table___eq) := ⟨rfl, rfl, rfl, by decide +kernel, rfl, by decide +kernel, by decide +kernel⟩
end
end KT

set_option Elab.async false
set_option linter.all false
/-! chains of least sums, found name by name -/
namespace KT
open PySem
open Dst (leO Walk IsDist Path nodup_len)
theorem path_snoc {rs : List Row} {p : List Str} {s : Int} (h : Path rs p s) : ∀ {a c : Str} {m : Int}, p.getLast? = some a → (a, c, m) ∈ rs → Path rs (p ++ [c]) (s + m) := by
  induction h with
  | @one b =>
    intro a c m e hr
    cases e
    have := Path.cons hr (.one (rs := rs) (a := c))
    rw [Int.add_zero] at this
    rw [Int.zero_add]
    exact this
  | @cons b d n s p h t ih =>
    intro a c m e hr
    rw [List.getLast?_cons_cons] at e
    rw [Int.add_assoc]
    exact .cons h (ih e hr)
/-- the chains found so far: each is tight, simple and goes over names that are found -/
structure Chs (rs : List Row) (e : En) (ns : List Str) (up : Str) (cs : List (Str × List Str)) : Prop where
  nd : (cs.map (·.1)).Nodup
  sub : ∀ q ∈ cs, q.1 ∈ ns
  has : up ∈ cs.map (·.1)
  way : ∀ q ∈ cs, Path rs q.2 (e up q.1) ∧ q.2.head? = some up ∧ q.2.getLast? = some q.1 ∧ q.2.Nodup ∧ ∀ y ∈ q.2, y ∈ cs.map (·.1)
theorem Chs.start {rs : List Row} {e : En} {ns : List Str} {up : Str} (m : Met ns e) (hu : up ∈ ns) : Chs rs e ns up [(up, [up])] := by
  refine ⟨by simp, fun q hq => ?_, by simp, fun q hq => ?_⟩
  · rw [List.mem_singleton.mp hq]; exact hu
  · rw [List.mem_singleton.mp hq]
    refine ⟨?_, rfl, rfl, by simp, fun y hy => hy⟩
    show Path rs [up] (e up up)
    rw [m.zero up hu]
    exact .one
theorem Chs.grow {rs : List Row} {e : En} {ns : List Str} {up one other : Str} {most : Int} {p : List Str} {cs : List (Str × List Str)} (h : Chs rs e ns up cs) (hr : (one, other, most) ∈ rs) (h1 : (one, p) ∈ cs) (h2 : other ∉ cs.map (·.1)) (t : e up one + most = e up other) (ho : other ∈ ns) : Chs rs e ns up (cs ++ [(other, p ++ [other])]) := by
  obtain ⟨w1, w2, w3, w4, w5⟩ := h.way _ h1
  have hk : (cs ++ [(other, p ++ [other])]).map (·.1) = cs.map (·.1) ++ [other] := by rw [List.map_append]; rfl
  refine ⟨?_, fun q hq => ?_, ?_, fun q hq => ?_⟩
  · rw [hk]
    exact List.nodup_append.mpr ⟨h.nd, by simp, fun a ha b hb e => h2 (by rw [← List.mem_singleton.mp hb, ← e]; exact ha)⟩
  · rcases List.mem_append.mp hq with hq | hq
    · exact h.sub q hq
    · rw [List.mem_singleton.mp hq]; exact ho
  · rw [hk]; exact List.mem_append_left _ h.has
  · rw [hk]
    rcases List.mem_append.mp hq with hq | hq
    · obtain ⟨a1, a2, a3, a4, a5⟩ := h.way q hq
      exact ⟨a1, a2, a3, a4, fun y hy => List.mem_append_left _ (a5 y hy)⟩
    · rw [List.mem_singleton.mp hq]
      refine ⟨?_, ?_, by simp, ?_, fun y hy => ?_⟩
      · show Path rs (p ++ [other]) (e up other)
        rw [← t]
        exact path_snoc w1 w3 hr
      · show (p ++ [other]).head? = some up
        cases p with
        | nil => cases w2
        | cons x p => exact w2
      · exact List.nodup_append.mpr ⟨w4, by simp, fun a ha b hb e => h2 (by rw [← List.mem_singleton.mp hb, ← e]; exact w5 a ha)⟩
      · rcases List.mem_append.mp hy with hy | hy
        · exact List.mem_append_left _ (w5 y hy)
        · exact List.mem_append_right _ hy
theorem cross_walk {rs : List Row} {e : En} {ns : List Str} {up : Str} {S : List Str} (m : Met ns e) (hr : ∀ r ∈ rs, r.1 ∈ ns ∧ r.2.1 ∈ ns ∧ e r.1 r.2.1 ≤ r.2.2) (lo : ∀ a b n s, a ∈ ns → b ∈ ns → Walk rs n a b s → e a b ≤ s) (hu : up ∈ ns) {n : Nat} {a b : Str} {s : Int} (w : Walk rs n a b s) :
    a ∈ ns → b ∈ ns → e up a + s = e up b → a ∈ S → b ∉ S → ∃ r ∈ rs, r.1 ∈ S ∧ r.2.1 ∉ S ∧ e up r.1 + r.2.2 = e up r.2.1 := by
  induction w with
  | nil => intro _ _ _ h1 h2; exact absurd h1 h2
  | @cons n a c b mo s h t ih =>
    intro ha hb he h1 h2
    obtain ⟨_, hc, hl⟩ := hr _ h
    have t1 := m.tri up a c hu ha hc
    have t2 := m.tri up c b hu hc hb
    have t3 := lo c b n s hc hb t
    simp only at hl
    by_cases hS : c ∈ S
    · exact ih hc hb (by omega) hS h2
    · exact ⟨_, h, h1, hS, by simp only; omega⟩
theorem Chs.cross {rs : List Row} {e : En} {ns : List Str} {up down : Str} {cs : List (Str × List Str)} (h : Chs rs e ns up cs) (hf : FineRows ns rs) (t : Ent ns rs e) (hu : up ∈ ns) (hd : down ∈ ns) (hn : down ∉ cs.map (·.1)) : ∃ r ∈ rs, r.1 ∈ cs.map (·.1) ∧ r.2.1 ∉ cs.map (·.1) ∧ e up r.1 + r.2.2 = e up r.2.1 := by
  have m := t.met hf
  obtain ⟨n, w⟩ := t.at_ up down hu hd
  refine cross_walk m (fun r hr => ?_) t.low hu w hu hd (by rw [m.zero up hu, Int.zero_add]) h.has hn
  obtain ⟨r1, r2, _, _⟩ := hf.row r hr
  refine ⟨r1, r2, t.low r.1 r.2.1 1 r.2.2 r1 r2 ?_⟩
  have := Walk.cons (rs := rs) (n := 0) (a := r.1) (c := r.2.1) (m := r.2.2) hr .nil
  rwa [Int.add_zero] at this
theorem Chs.len {rs : List Row} {e : En} {ns : List Str} {up : Str} {cs : List (Str × List Str)} (h : Chs rs e ns up cs) : cs.length ≤ ns.length := by
  have := nodup_len h.nd fun a ha => by
    obtain ⟨q, hq, rfl⟩ := List.mem_map.mp ha
    exact h.sub q hq
  rwa [List.length_map] at this
end KT

set_option Elab.async false
set_option linter.all false
set_option maxRecDepth 100000
set_option maxHeartbeats 0
set_option pp.deepTerms false
set_option pp.deepTerms.threshold 8


namespace KT
open PySem PySem.Spec PyProof.Rows L2 DL
open Dst (IsDist Path)
/-! ### the dict of chains -/
def chK (cs : List (Str × List Str)) : List (Key × D) := cs.map fun q => (.inr q.1, .tup (q.2.map .str))
theorem chK_get {x : Str} : ∀ {cs : List (Str × List Str)}, x ∈ cs.map (·.1) → ∃ p, (x, p) ∈ cs ∧ valK (chK cs) (.inr x) = some (.tup (p.map .str))
  | [], h => nomatch h
  | q :: cs, h => by
    by_cases c : q.1 = x
    · subst c
      exact ⟨q.2, List.mem_cons_self, by simp [valK, chK]⟩
    · obtain ⟨p, hp, e⟩ := chK_get (cs := cs) ((List.mem_cons.mp h).resolve_left fun z => c z.symm)
      refine ⟨p, List.mem_cons_of_mem _ hp, ?_⟩
      rw [← e]
      simp [valK, chK, c]
theorem chK_no {x : Str} : ∀ {cs : List (Str × List Str)}, x ∉ cs.map (·.1) → valK (chK cs) (.inr x) = none
  | [], _ => rfl
  | q :: cs, h => by
    have h1 : q.1 ≠ x := fun e => h (by rw [← e]; exact List.mem_cons_self)
    have := chK_no (cs := cs) fun z => h (List.mem_cons_of_mem _ z)
    rw [← this]
    simp [valK, chK, h1]
theorem chK_is {x : Str} {cs : List (Str × List Str)} : (valK (chK cs) (.inr x)).isSome = decide (x ∈ cs.map (·.1)) := by
  by_cases h : x ∈ cs.map (·.1)
  · obtain ⟨p, _, e⟩ := chK_get h
    rw [e, decide_eq_true h]; rfl
  · rw [chK_no h, decide_eq_false h]; rfl
theorem chK_put {x : Str} {p : List Str} {cs : List (Str × List Str)} (h : x ∉ cs.map (·.1)) : putKD (chK cs) (.inr x) (.tup (p.map .str)) = chK (cs ++ [(x, p)]) := by
  unfold putKD
  rw [if_neg]
  · unfold chK; rw [List.map_append]; rfl
  · rw [Bool.not_eq_true, List.any_eq_false]
    intro kv hk
    unfold chK at hk
    obtain ⟨q, hq, rfl⟩ := List.mem_map.mp hk
    simp only [decide_eq_true_eq]
    intro e
    cases e
    exact h (List.mem_map.mpr ⟨q, hq, rfl⟩)
abbrev stC (d : D) (a b : Str) (cs : List (Str × List Str)) (r : List (Option DV)) : DSt := some (.d d) :: some (.d (.str a)) :: some (.d (.str b)) :: some (.own (.dK (chK cs))) :: r
def Crs (e : En) (up : Str) (cs : List (Str × List Str)) (r : Row) : Prop := r.1 ∈ cs.map (·.1) ∧ r.2.1 ∉ cs.map (·.1) ∧ e up r.1 + r.2.2 = e up r.2.1
section
variable {P : Program} {w : World} {K : PySem.W.Frag} {mg : Str → Option Value} {base : Heap} {C OG ME : Addr}
def sdChain (C : Addr) : SpD := fun as Q _ => ∃ (gs : List Str) (rs : List Row) (e : En) (d : D) (a b : Str), as = [.d d, .d (.str a), .d (.str b)] ∧ Tb C gs rs e d ∧ a ∈ cash :: gs ∧ b ∈ cash :: gs ∧ ∀ p : List Str, Path rs p (e a b) → p.head? = some a → p.getLast? = some b → p.Nodup → Q (.d (.tup (p.map .str))) []
abbrev s_Table_chain : Stmt := inClass (top 31) 3
theorem sc_Table_chain : FnScope ["self", "up", "down", "chains", "one", "other", "most"] ["self", "up", "down"] (defScope s_Table_chain) := ⟨rfl, rfl, rfl, by decide +kernel, rfl, by decide +kernel, by decide +kernel⟩
theorem ok_chain (D_Table__check_pair : DefM P w K mg base C "_check_pair" 3 ["self", "up", "down"] (sdCheckP C)) (D_Table___getitem : DefG P w K mg base C 5 ["self", "at"] (sdGet C)) {f : Addr} {fd : FuncData} (G : Fun K "chain" "Table.chain" s_Table_chain f fd) (T : TxtT K mg C) : FnOk P w K mg base (L2.CX P w) 7 f fd ["self", "up", "down"] (spOf K (sdChain C)) := by
  refine okD G sc_Table_chain [] (fun as Q E ⟨gs, rs, e, d, a, b, q, _⟩ => by subst q; exact ⟨rfl, rfl⟩) ⟨_, fun cdv A outer s H E ad F0 H0 hr => (pds_cons (psd_expr (pd_meth (pd_var (pv 0)) T.cl_Table D_Table__check_pair.me D_Table__check_pair.ok (hr.mono (by decide)) D_Table__check_pair.b (takes_of rfl rfl rfl rfl) (pda_cons (pd_var (pv 1)) (pda_cons (pd_var (pv 2)) pda_nil))))
      (pds_cons (psd_setO (i := 3) (pd_disp1 (pd_var (pv 1)) (pd_tup (fun h => pe_tup h) (pda_cons (pd_var (pv 1)) pda_nil))) (by show ¬ (3 ∈ ([] : List Nat)); decide) sc_Table_chain.nd rfl (.inl rfl))
      (pds_cons (psd_while (passes_of rfl) (ptd_inKO_f (j := 3) (fun hi ho => pt_cmp (pc_dnotin (hu_of hr) hi ho)) (pd_var (pv 2)) (pv 3)) (pds_one (psd_for (passes_of rfl) rfl (pid_tup (pd_fld (pd_var (pv 0)) T.cl_Table (T.na_Table _ (by decide)) rfl)) (pgd_tup (is := [4, 5, 6]) (vs := [4, 5, 6]) (pg_tup rfl (pgs_cons (pg_name (i := 4) sc_Table_chain.nd rfl (.inl rfl)) (pgs_cons (pg_name (i := 5) sc_Table_chain.nd rfl (.inl rfl)) (pgs_cons (pg_name (i := 6) sc_Table_chain.nd rfl (.inl rfl)) pgs_nil)))) rfl (by show ∀ i ∈ ([4, 5, 6] : List Nat), ¬ (i ∈ ([] : List Nat)) ∧ i ∈ ([4, 5, 6] : List Nat); decide))
      (pds_one (psd_if (PW.pt (pwd_and (ptd_inKO_t (j := 3) (fun hi ho => pt_cmp (pc_din (hu_of hr) hi ho)) (pd_var (pv 4)) (pv 3)) (pwd_and (ptd_inKO_f (j := 3) (fun hi ho => pt_cmp (pc_dnotin (hu_of hr) hi ho)) (pd_var (pv 5)) (pv 3)) (pwd_and1 (ptd_cmp op_eq op2_eq.op (pd_op op_add (op2_I0 fun _ _ _ => .int _) (pd_sub D_Table___getitem.gi D_Table___getitem.ok (hr.mono (by decide)) D_Table___getitem.b (takes_of rfl rfl rfl rfl) (pd_var (pv 0)) (pd_tup (fun h => pe_tup h) (pda_cons (pd_var (pv 1)) (pda_cons (pd_var (pv 4)) pda_nil))) (fun _ _ => rfl)) (pd_var (pv 6))) (pd_sub D_Table___getitem.gi D_Table___getitem.ok (hr.mono (by decide)) D_Table___getitem.b (takes_of rfl rfl rfl rfl) (pd_var (pv 0)) (pd_tup (fun h => pe_tup h) (pda_cons (pd_var (pv 1)) (pda_cons (pd_var (pv 5)) pda_nil))) (fun _ _ => rfl)) (nomark _)))))) (pds_one (psd_putK (j := 3) (hu_of hr) (fun ho hi hv => ps_dput (hu_of hr) ho hi hv (by rfl)) (pv 3) (pd_op op_catA op2_catT (pd_getKO (j := 3) (fun ho hi => pe_dget (hu_of hr) ho hi (fun _ _ => rfl)) (pv 3) (pd_var (pv 4))) (pd_tup (fun h => pe_tup h) (pda_cons (pd_var (pv 5)) pda_nil))) (pd_var (pv 5)))) pds_nil)))))
      (pds_one (psd_ret (pd_getKO (j := 3) (fun ho hi => pe_dget (hu_of hr) ho hi (fun _ _ => rfl)) (pv 3) (pd_var (pv 2)))))))), ?_⟩
  rintro as Qd Ed ⟨gs, rs, e, d, a, b, rfl, ht, ha, hb, k⟩
  obtain ⟨kvs, f, rfl, h1, h2, h3, h4, h5, h6, h7⟩ := id ht
  refine DR.start (δ' := [some (.d (.obj C (tabFs gs rs kvs f))), some (.d (.str a)), some (.d (.str b)), none, none, none, none]) rfl ?_
  walk_at "dd"
  refine ⟨gs, rs, e, _, a, b, rfl, ht, ha, hb, ?_⟩
  walk_at "dd"
  refine DR.dispD ?_
  walk_at "dd"
  refine ⟨.inr a, rfl, ?_⟩
  have hm := h6.met h2
  show seqD (whileD _ _) (retD _) _ (stC (.obj C (tabFs gs rs kvs f)) a b [(a, [a])] [none, none, none])
  with_reducible refine DR.cut (fun δ => ∃ (cs : List (Str × List Str)) (q4 q5 q6 : Option DV), Chs rs e (cash :: gs) a cs ∧ b ∈ cs.map (·.1) ∧ δ = stC (.obj C (tabFs gs rs kvs f)) a b cs [q4, q5, q6]) (fun N kN => ?_) ?_
  · refine ⟨fun m δ => ∃ (cs : List (Str × List Str)) (q4 q5 q6 : Option DV), Chs rs e (cash :: gs) a cs ∧ m + cs.length = (cash :: gs).length ∧ δ = stC (.obj C (tabFs gs rs kvs f)) a b cs [q4, q5, q6], ⟨(cash :: gs).length - 1, [(a, [a])], _, _, _, Chs.start hm ha, by simp, rfl⟩, ?_⟩
    rintro m δ ⟨cs, q4, q5, q6, hc, hl, rfl⟩
    walk_at "dd"
    refine ⟨_, .inr b, rfl, rfl, ?_⟩
    rw [chK_is]
    by_cases hbc : b ∈ cs.map (·.1)
    · rw [decide_eq_true hbc]
      walk_at "dd"
      exact kN _ ⟨cs, _, _, _, hc, hbc, rfl⟩
    rw [decide_eq_false hbc]
    walk_at "dd"
    rw [show (true != false) = true from rfl, if_pos rfl]
    walk_at "dd"
    have hbn : b ∈ cash :: gs := hb
    refine DR.for_inv (fun i δ => ∃ (cs' : List (Str × List Str)) (q4 q5 q6 : Option DV), Chs rs e (cash :: gs) a cs' ∧ (cs.length < cs'.length ∨ (cs' = cs ∧ ∀ r ∈ rs.take i, ¬ Crs e a cs r)) ∧ δ = stC (.obj C (tabFs gs rs kvs f)) a b cs' [q4, q5, q6]) ⟨cs, _, _, _, hc, .inr ⟨rfl, by rw [List.take_zero]; exact fun _ h => nomatch h⟩, rfl⟩ ?stp ?fn
    case fn =>
      rintro δ ⟨cs', q4, q5, q6, hc', hg, rfl⟩
      rcases hg with hg | ⟨rfl, hn⟩
      · have := hc'.len
        exact ⟨m - (cs'.length - cs.length), by omega, cs', _, _, _, hc', by omega, rfl⟩
      · rw [List.length_map, List.take_length] at hn
        obtain ⟨r, hr, hx⟩ := hc.cross h2 h6 ha hb hbc
        exact absurd hx (hn r hr)
    case stp =>
    rintro i x δ N2 hx ⟨cs', q4, q5, q6, hc', hg, rfl⟩ kN2
    obtain ⟨r, hr, rfl⟩ := DR.map_at hx
    have hrm := List.mem_of_getElem? hr
    obtain ⟨hr1, hr2, _, _⟩ := h2.row r hrm
    have skip_ : ∀ q4 q5 q6 : Option DV, ¬ Crs e a cs' r → N2 (stC (.obj C (tabFs gs rs kvs f)) a b cs' [q4, q5, q6]) := fun q4 q5 q6 hnc => by
      refine kN2 _ ⟨cs', _, _, _, hc', ?_, rfl⟩
      rcases hg with hg | ⟨rfl, hn⟩
      · exact .inl hg
      · refine .inr ⟨rfl, fun r' hr' => ?_⟩
        rw [List.take_succ, hr] at hr'
        rcases List.mem_append.mp hr' with hr' | hr'
        · exact hn r' hr'
        · rw [List.mem_singleton.mp hr']; exact hnc
    walk_at "dd"
    refine ⟨_, .inr r.1, rfl, rfl, _, rfl, ?_⟩
    rw [chK_is]
    by_cases c1 : r.1 ∈ cs'.map (·.1)
    case neg =>
      rw [decide_eq_false c1, show (false != false) = false from rfl, if_neg Bool.false_ne_true]
      walk_at "dd"
      exact skip_ _ _ _ fun h => c1 h.1
    rw [decide_eq_true c1, show (false != true) = true from rfl, if_pos rfl]
    walk_at "dd"
    refine ⟨_, .inr r.2.1, rfl, rfl, _, rfl, ?_⟩
    rw [chK_is]
    by_cases c2 : r.2.1 ∈ cs'.map (·.1)
    case pos =>
      rw [decide_eq_true c2, show (true != true) = false from rfl, if_neg Bool.false_ne_true]
      walk_at "dd"
      exact skip_ _ _ _ fun h => h.2.1 c2
    rw [decide_eq_false c2, show (true != false) = true from rfl, if_pos rfl]
    walk_at "dd"
    refine ⟨gs, rs, e, _, a, r.1, rfl, ht, ha, hr1, ?_⟩
    walk_at "dd"
    refine ⟨gs, rs, e, _, a, r.2.1, rfl, ht, ha, hr2, ?_⟩
    walk_at "dd"
    refine DR.split (fun c3 => ?_) (fun c3 => ?_)
    case refine_2 =>
      walk_at "dd"
      exact skip_ _ _ _ fun h => c3 h.2.2
    walk_at "dd"
    obtain ⟨p, hp, ep⟩ := chK_get c1
    refine ⟨_, .inr r.1, _, rfl, rfl, ep, ?_⟩
    walk_at "dd"
    obtain ⟨_, _, _, w4, w5⟩ := hc'.way _ hp
    have hcl := hc'.len
    have hg5 : (cash :: gs).length ≤ 6 := by have := h1.2.2.1; rw [List.length_cons]; omega
    have hpl : p.length ≤ 6 := by
      have : p.length ≤ (cs'.map (·.1)).length := Dst.nodup_len w4 w5
      rw [List.length_map] at this
      omega
    refine ⟨Nat.le_trans (show (p.map D.str).length + 1 ≤ 7 by rw [List.length_map]; omega) (by decide), ?_⟩
    walk_at "dd"
    have el : p.map D.str ++ [D.str r.2.1] = (p ++ [r.2.1]).map D.str := by rw [List.map_append]; rfl
    refine ⟨_, .inr r.2.1, rfl, rfl, Nat.lt_of_le_of_lt (show (chK cs').length ≤ 6 by unfold chK; rw [List.length_map]; omega) (by decide), kN2 _ ⟨cs' ++ [(r.2.1, p ++ [r.2.1])], some (.d (.str r.1)), some (.d (.str r.2.1)), some (.d (.int r.2.2)), hc'.grow hrm hp c2 c3 hr2, .inl ?_, ?_⟩⟩
    · rw [List.length_append]
      rcases hg with hg | ⟨rfl, _⟩
      · exact Nat.lt_of_lt_of_le hg (Nat.le_add_right _ _)
      · exact Nat.lt_succ_self _
    · have e1 : chK (cs' ++ [(r.2.1, p ++ [r.2.1])]) = putKD (chK cs') (.inr r.2.1) (.tup (p.map .str ++ [.str r.2.1])) := by rw [el]; exact (chK_put c2).symm
      show _ = (some (.d (.obj C (tabFs gs rs kvs f))) :: some (.d (.str a)) :: some (.d (.str b)) :: some (.own (.dK (chK (cs' ++ [(r.2.1, p ++ [r.2.1])])))) :: [some (.d (.str r.1)), some (.d (.str r.2.1)), some (.d (.int r.2.2))] : DSt)
      rw [e1]
      rfl
  rintro δ ⟨cs, q4, q5, q6, hc, hbc, rfl⟩
  walk_at "dd"
  obtain ⟨p, hp, ep⟩ := chK_get hbc
  refine ⟨_, .inr b, _, rfl, rfl, ep, ?_⟩
  obtain ⟨w1, w2, w3, w4, _⟩ := hc.way _ hp
  walk_at "dd"
  exact k p w1 w2 w3 w4
end
end KT

set_option Elab.async false
set_option linter.all false
set_option maxRecDepth 100000
set_option maxHeartbeats 0
set_option pp.deepTerms false
set_option pp.deepTerms.threshold 8


namespace KT
open PySem PySem.Spec PyProof.Rows L2 DL
open Dst (IsDist)
abbrev s_NoAsset___init : Stmt := inClass (top 6) 0
theorem sc_NoAsset___init : FnScope ["self", "name"] ["self", "name"] (defScope s_NoAsset___init) := ⟨rfl, rfl, rfl, by decide +kernel, rfl, by decide +kernel, by decide +kernel⟩
theorem ok_NoAsset {P : Program} {w : World} {K : PySem.W.Frag} {mg : Str → Option Value} {base : Heap} {B : Addr} {f : Addr} {fd : FuncData} (F : Fun K "__init__" "NoAsset.__init__" s_NoAsset___init f fd) (ox : OexC K B) (nw0 : PySem.W.findIn K (.ref B) "name" = some none) : FnOk P w K mg base CX0 1 f fd ["self", "name"] (ErrR K B ["name"]) :=
  ok_err1 F sc_NoAsset___init ox nw0 fun cdv A outer s H E => pss_one (ps_ost (pv 0) (pv 1))
structure TxtL (K : PySem.W.Frag) (mg : Str → Option Value) (C OG ME NA : Addr) : Prop extends TxtO K mg C OG ME where
  c_NoAsset : mg "NoAsset" = some (.ref NA)
  xf_NoAsset : XfC K NA
  n_NoAsset_name : PySem.W.findIn K (.ref NA) "name" = some none
  exm_NN : PySem.W.exmOne K (.ref NA) (.ref NA) = some true
/-- what may be asked for as an asset -/
inductive Ask : D → Prop
  | str (s : Str) : Ask (.str s)
  | non : Ask .non
  | int (i : Int) : Ask (.int i)
  | bl (b : Bool) : Ask (.bl b)
  | lst (l : List Str) : Ask (.lst (l.map .str))
  | tup (l : List Str) : Ask (.tup (l.map .str))
theorem Ask.cmp {x : D} (h : Ask x) : Cmp x := by
  cases h with
  | str s => exact (dp_str).cmp
  | non => exact dp_non.cmp
  | int i => exact dp_int.cmp
  | bl b => exact dp_bl.cmp
  | lst l => exact (dp_lst (dp_map fun r _ => dp_str)).cmp
  | tup l => exact (dp_tup (dp_map fun r _ => dp_str)).cmp
/-- is it one of these names -/
def known (ns : List Str) (x : D) : Bool := match x with
  | .str s => decide (s ∈ ns)
  | _ => false
theorem any_known {x : D} (h : Ask x) : ∀ {ns : List Str}, ((pyL (ns.map D.str)).any fun z => PyData.eqv z x.py) = known ns x
  | [] => by cases h <;> simp [pyL, known]
  | a :: ns => by
    rw [List.map_cons]
    simp only [pyL, List.any_cons]
    rw [any_known h]
    cases h with
    | str s =>
      rw [eqv_str]
      unfold known
      by_cases e : a = s
      · simp [e]
      · simp [e, Ne.symm e]
    | non => simp [known, D.py, PyData.eqv]
    | int i => simp [known, D.py, PyData.eqv]
    | bl b => simp [known, D.py, PyData.eqv]
    | lst l => simp [known, D.py, PyData.eqv]
    | tup l => simp [known, D.py, PyData.eqv]
section
variable {P : Program} {w : World} {K : PySem.W.Frag} {mg : Str → Option Value} {base : Heap} {C OG ME NA : Addr}
def sdCheckX (NA : Addr) : SpD := fun as Q E => ∃ (ns : List Str) (x : D), as = [.d (.tup (ns.map .str)), .d x] ∧ Ask x ∧ (known ns x = true → Q (.d .non) []) ∧ (known ns x = false → E ⟨NA, some [("name", x)]⟩ [])
theorem ok_checkX (X_NoAsset : DefX P w K mg base "NoAsset" NA ["name"]) {f : Addr} {fd : FuncData} (G : Fun K "check_asset" "check_asset" s_check_asset f fd) (T : TxtN mg) : FnOk P w K mg base (L2.CX P w) 3 f fd ["known", "thing"] (spOf K (sdCheckX NA)) := by
  refine okD G sc_check_asset [] (fun as Q E ⟨ns, a, e, _⟩ => by subst e; exact ⟨rfl, rfl⟩) ⟨_, fun cdv A outer s H E ad F0 H0 hr => (pds_one (psd_if (ptd_cmp (op_notInT (units65 hr)) (op2_inT true).op (pd_var (pv 1)) (pd_var (pv 0)) rfl) (pds_one (psd_raiseR rfl (takes_of rfl rfl rfl rfl) (fun h => pmk_oex X_NoAsset.ox X_NoAsset.ini X_NoAsset.ty X_NoAsset.ok (hr.mono (by decide)) X_NoAsset.b .nil pass0 (by rfl) X_NoAsset.mg h) (pda_cons (pd_var (pv 1)) pda_nil))) pds_nil)), ?_⟩
  rintro as Qd Ed ⟨ns, x, rfl, ax, k1, k2⟩
  refine DR.start (δ' := [some (.d (.tup (ns.map .str))), some (.d x)]) rfl ?_
  walk_at "dd"
  refine ⟨_, .inr rfl, ax.cmp, (dp_strs ns).cmp, ?_⟩
  rw [if_pos rfl, show ((pyL (ns.map D.str)).any fun z => PyData.eqv z (DV.d x).toD.py) = known ns x from any_known ax]
  walk_at "dd"
  cases c : known ns x with
  | true =>
    walk_at "dd"
    exact k1 c
  | false =>
    walk_at "dd"
    exact ⟨rfl, by show 1 ≤ 1000; decide, _, rfl, k2 c⟩
theorem known_ex {ns : List Str} {x : D} (h : known ns x = true) : ∃ a, x = .str a ∧ a ∈ ns := by
  cases x <;> first | exact ⟨_, rfl, of_decide_eq_true h⟩ | (cases h)
def sdCheckPX (C NA : Addr) : SpD := fun as Q E => ∃ (gs : List Str) (rs : List Row) (e : En) (d x y : D), as = [.d d, .d x, .d y] ∧ Tb C gs rs e d ∧ Ask x ∧ Ask y ∧ (known (cash :: gs) x = true → known (cash :: gs) y = true → Q (.d .non) []) ∧ (known (cash :: gs) x = false → E ⟨NA, some [("name", x)]⟩ []) ∧ (known (cash :: gs) x = true → known (cash :: gs) y = false → E ⟨NA, some [("name", y)]⟩ [])
theorem ok_checkPX (D_check_asset : DefD P w K mg base "check_asset" 3 ["known", "thing"] (sdCheckX NA)) {f : Addr} {fd : FuncData} (G : Fun K "_check_pair" "Table._check_pair" s_Table__check_pair f fd) (T : TxtT K mg C) : FnOk P w K mg base (L2.CX P w) 5 f fd ["self", "up", "down"] (spOf K (sdCheckPX C NA)) := by
  refine okD G sc_Table__check_pair [] (fun as Q E ⟨gs, rs, e, d, a, b, q, _⟩ => by subst q; exact ⟨rfl, rfl⟩) ⟨_, fun cdv A outer s H E ad F0 H0 hr => (pds_cons (psd_expr (pd_call D_check_asset.ok (hr.mono (by decide)) (by rfl) D_check_asset.mg D_check_asset.kp D_check_asset.b (takes_of rfl rfl rfl rfl) (pda_cons (pd_fld (pd_var (pv 0)) T.cl_Table (T.na_Table _ (by decide)) rfl) (pda_cons (pd_var (pv 1)) pda_nil))))
      (pds_one (psd_expr (pd_call D_check_asset.ok (hr.mono (by decide)) (by rfl) D_check_asset.mg D_check_asset.kp D_check_asset.b (takes_of rfl rfl rfl rfl) (pda_cons (pd_fld (pd_var (pv 0)) T.cl_Table (T.na_Table _ (by decide)) rfl) (pda_cons (pd_var (pv 2)) pda_nil)))))), ?_⟩
  rintro as Qd Ed ⟨gs, rs, e, d, x, y, rfl, ⟨kvs, f, rfl, h1, h2, h3, h4, h5, h6, h7⟩, ax, ay, k1, k2, k3⟩
  refine DR.start (δ' := [some (.d (.obj C (tabFs gs rs kvs f))), some (.d x), some (.d y)]) rfl ?_
  walk_at "dd"
  refine ⟨_, x, rfl, ax, fun c => ?_, fun c => ⟨_, rfl, k2 c⟩⟩
  walk_at "dd"
  refine ⟨_, y, rfl, ay, fun c2 => ?_, fun c2 => ⟨_, rfl, k3 c c2⟩⟩
  walk_at "dd"
  exact k1 c c2
def sdGetX (C NA : Addr) : SpD := fun as Q E => ∃ (gs : List Str) (rs : List Row) (e : En) (d x y : D), as = [.d d, .d (.tup [x, y])] ∧ Tb C gs rs e d ∧ Ask x ∧ Ask y ∧ (∀ a b, x = .str a → y = .str b → a ∈ cash :: gs → b ∈ cash :: gs → Q (.d (.int (e a b))) []) ∧ (known (cash :: gs) x = false → E ⟨NA, some [("name", x)]⟩ []) ∧ (known (cash :: gs) x = true → known (cash :: gs) y = false → E ⟨NA, some [("name", y)]⟩ [])
theorem ok_getX (D_Table__check_pair : DefM P w K mg base C "_check_pair" 5 ["self", "up", "down"] (sdCheckPX C NA)) {f : Addr} {fd : FuncData} (G : Fun K "__getitem__" "Table.__getitem__" s_Table___getitem f fd) (T : TxtT K mg C) : FnOk P w K mg base (L2.CX P w) 7 f fd ["self", "at"] (spOf K (sdGetX C NA)) := by
  refine okD G sc_Table___getitem [] (fun as Q E ⟨gs, rs, e, d, a, b, q, _⟩ => by subst q; exact ⟨rfl, rfl⟩) ⟨_, fun cdv A outer s H E ad F0 H0 hr => (pds_cons (psd_unpack (pd_var (pv 1)) (pgd_tup (is := [2, 3]) (vs := [2, 3]) (pg_tup rfl (pgs_cons (pg_name (i := 2) sc_Table___getitem.nd rfl (.inl rfl)) (pgs_cons (pg_name (i := 3) sc_Table___getitem.nd rfl (.inl rfl)) pgs_nil))) rfl (by show ∀ i ∈ ([2, 3] : List Nat), ¬ (i ∈ ([] : List Nat)) ∧ i ∈ ([2, 3] : List Nat); decide)) (fun h g => ps_asg h g))
      (pds_cons (psd_expr (pd_meth (pd_var (pv 0)) T.cl_Table D_Table__check_pair.me D_Table__check_pair.ok (hr.mono (by decide)) D_Table__check_pair.b (takes_of rfl rfl rfl rfl) (pda_cons (pd_var (pv 2)) (pda_cons (pd_var (pv 3)) pda_nil))))
      (pds_one (psd_ret (pd_get (fun ho hi => pe_dget (hu_of hr) ho hi (fun _ _ => rfl)) (pd_fld (pd_var (pv 0)) T.cl_Table (T.na_Table _ (by decide)) rfl) (pd_tup (fun h => pe_tup h) (pda_cons (pd_var (pv 2)) (pda_cons (pd_var (pv 3)) pda_nil)))))))), ?_⟩
  rintro as Qd Ed ⟨gs, rs, e, d, x, y, rfl, ht, ax, ay, k1, k2, k3⟩
  obtain ⟨kvs, f, rfl, h1, h2, h3, h4, h5, h6, h7⟩ := id ht
  refine DR.start (δ' := [some (.d (.obj C (tabFs gs rs kvs f))), some (.d (.tup [x, y])), none, none]) rfl ?_
  walk_at "dd"
  refine ⟨gs, rs, e, _, x, y, rfl, ht, ax, ay, fun c c2 => ?_, fun c => ⟨_, rfl, k2 c⟩, fun c c2 => ⟨_, rfl, k3 c c2⟩⟩
  obtain ⟨a, rfl, ha⟩ := known_ex c
  obtain ⟨b, rfl, hb⟩ := known_ex c2
  walk_at "dd"
  refine ⟨_, KT.k2 a b, .int (e a b), rfl, rfl, by rw [h4.val, h7 a b ha hb]; rfl, ?_⟩
  walk_at "dd"
  exact k1 a b rfl rfl ha hb
def sdChainX (C NA : Addr) : SpD := fun as Q E => ∃ (gs : List Str) (rs : List Row) (e : En) (d x y : D), as = [.d d, .d x, .d y] ∧ Tb C gs rs e d ∧ Ask x ∧ Ask y ∧ ((known (cash :: gs) x = false ∧ E ⟨NA, some [("name", x)]⟩ []) ∨ (known (cash :: gs) x = true ∧ known (cash :: gs) y = false ∧ E ⟨NA, some [("name", y)]⟩ []))
theorem ok_chainX (D_Table__check_pair : DefM P w K mg base C "_check_pair" 5 ["self", "up", "down"] (sdCheckPX C NA)) (D_Table___getitem : DefG P w K mg base C 5 ["self", "at"] (sdGet C)) {f : Addr} {fd : FuncData} (G : Fun K "chain" "Table.chain" s_Table_chain f fd) (T : TxtT K mg C) : FnOk P w K mg base (L2.CX P w) 7 f fd ["self", "up", "down"] (spOf K (sdChainX C NA)) := by
  refine okD G sc_Table_chain [] (fun as Q E ⟨gs, rs, e, d, a, b, q, _⟩ => by subst q; exact ⟨rfl, rfl⟩) ⟨_, fun cdv A outer s H E ad F0 H0 hr => (pds_cons (psd_expr (pd_meth (pd_var (pv 0)) T.cl_Table D_Table__check_pair.me D_Table__check_pair.ok (hr.mono (by decide)) D_Table__check_pair.b (takes_of rfl rfl rfl rfl) (pda_cons (pd_var (pv 1)) (pda_cons (pd_var (pv 2)) pda_nil))))
      (pds_cons (psd_setO (i := 3) (pd_disp1 (pd_var (pv 1)) (pd_tup (fun h => pe_tup h) (pda_cons (pd_var (pv 1)) pda_nil))) (by show ¬ (3 ∈ ([] : List Nat)); decide) sc_Table_chain.nd rfl (.inl rfl))
      (pds_cons (psd_while (passes_of rfl) (ptd_inKO_f (j := 3) (fun hi ho => pt_cmp (pc_dnotin (hu_of hr) hi ho)) (pd_var (pv 2)) (pv 3)) (pds_one (psd_for (passes_of rfl) rfl (pid_tup (pd_fld (pd_var (pv 0)) T.cl_Table (T.na_Table _ (by decide)) rfl)) (pgd_tup (is := [4, 5, 6]) (vs := [4, 5, 6]) (pg_tup rfl (pgs_cons (pg_name (i := 4) sc_Table_chain.nd rfl (.inl rfl)) (pgs_cons (pg_name (i := 5) sc_Table_chain.nd rfl (.inl rfl)) (pgs_cons (pg_name (i := 6) sc_Table_chain.nd rfl (.inl rfl)) pgs_nil)))) rfl (by show ∀ i ∈ ([4, 5, 6] : List Nat), ¬ (i ∈ ([] : List Nat)) ∧ i ∈ ([4, 5, 6] : List Nat); decide))
      (pds_one (psd_if (PW.pt (pwd_and (ptd_inKO_t (j := 3) (fun hi ho => pt_cmp (pc_din (hu_of hr) hi ho)) (pd_var (pv 4)) (pv 3)) (pwd_and (ptd_inKO_f (j := 3) (fun hi ho => pt_cmp (pc_dnotin (hu_of hr) hi ho)) (pd_var (pv 5)) (pv 3)) (pwd_and1 (ptd_cmp op_eq op2_eq.op (pd_op op_add (op2_I0 fun _ _ _ => .int _) (pd_sub D_Table___getitem.gi D_Table___getitem.ok (hr.mono (by decide)) D_Table___getitem.b (takes_of rfl rfl rfl rfl) (pd_var (pv 0)) (pd_tup (fun h => pe_tup h) (pda_cons (pd_var (pv 1)) (pda_cons (pd_var (pv 4)) pda_nil))) (fun _ _ => rfl)) (pd_var (pv 6))) (pd_sub D_Table___getitem.gi D_Table___getitem.ok (hr.mono (by decide)) D_Table___getitem.b (takes_of rfl rfl rfl rfl) (pd_var (pv 0)) (pd_tup (fun h => pe_tup h) (pda_cons (pd_var (pv 1)) (pda_cons (pd_var (pv 5)) pda_nil))) (fun _ _ => rfl)) (nomark _)))))) (pds_one (psd_putK (j := 3) (hu_of hr) (fun ho hi hv => ps_dput (hu_of hr) ho hi hv (by rfl)) (pv 3) (pd_op op_catA op2_catT (pd_getKO (j := 3) (fun ho hi => pe_dget (hu_of hr) ho hi (fun _ _ => rfl)) (pv 3) (pd_var (pv 4))) (pd_tup (fun h => pe_tup h) (pda_cons (pd_var (pv 5)) pda_nil))) (pd_var (pv 5)))) pds_nil)))))
      (pds_one (psd_ret (pd_getKO (j := 3) (fun ho hi => pe_dget (hu_of hr) ho hi (fun _ _ => rfl)) (pv 3) (pd_var (pv 2)))))))), ?_⟩
  rintro as Qd Ed ⟨gs, rs, e, d, x, y, rfl, ht, ax, ay, k⟩
  obtain ⟨kvs, f, rfl, h1, h2, h3, h4, h5, h6, h7⟩ := id ht
  refine DR.start (δ' := [some (.d (.obj C (tabFs gs rs kvs f))), some (.d x), some (.d y), none, none, none, none]) rfl ?_
  walk_at "dd"
  refine ⟨gs, rs, e, _, x, y, rfl, ht, ax, ay, fun c c2 => ?_, fun c => ?_, fun c c2 => ?_⟩
  · rcases k with ⟨k, _⟩ | ⟨_, k, _⟩
    · rw [c] at k; cases k
    · rw [c2] at k; cases k
  · rcases k with ⟨_, k⟩ | ⟨k, _, _⟩
    · exact ⟨_, rfl, k⟩
    · rw [c] at k; cases k
  · rcases k with ⟨k, _⟩ | ⟨_, _, k⟩
    · rw [c] at k; cases k
    · exact ⟨_, rfl, k⟩
end
end KT

set_option Elab.async false
set_option linter.all false
set_option maxRecDepth 100000
set_option maxHeartbeats 0
set_option pp.deepTerms false
set_option pp.deepTerms.threshold 8


namespace KT
open PySem PySem.Spec PyProof.Rows L2 DL
open Dst (IsDist)
/-! ### a chain's rows -/
theorem path_rows {rs : List Row} {p : List Str} {v : Int} (h : Dst.Path rs p v) : ∃ rr : List Row, (∀ r ∈ rr, r ∈ rs) ∧ p.zip (p.drop 1) = rr.map (fun r => (r.1, r.2.1)) ∧ (rr.map (·.2.2)).sum = v := by
  induction h with
  | one => exact ⟨[], (fun _ h => nomatch h), rfl, rfl⟩
  | @cons a c m s p h t ih =>
    obtain ⟨rr, h1, h2, h3⟩ := ih
    refine ⟨(a, c, m) :: rr, fun r hr => ?_, ?_, ?_⟩
    · rcases List.mem_cons.mp hr with rfl | hr
      · exact h
      · exact h1 r hr
    · show (a, c) :: (c :: p).zip p = _
      rw [List.map_cons, ← h2]
      rfl
    · rw [List.map_cons, List.sum_cons, h3]
theorem one_row {rs : List Row} {r : Row} : (rs.map ends).Nodup → r ∈ rs → rs.filterMap (fun q => if q.1 = r.1 ∧ q.2.1 = r.2.1 then some (D.int q.2.2) else none) = [D.int r.2.2] := by
  induction rs with
  | nil => intro _ h; cases h
  | cons q rs ih =>
    intro nd h
    rw [List.map_cons, List.nodup_cons] at nd
    rcases List.mem_cons.mp h with rfl | h
    · rw [List.filterMap_cons, if_pos ⟨rfl, rfl⟩]
      show D.int r.2.2 :: _ = _
      rw [List.filterMap_eq_nil_iff.mpr fun q hq => ?_]
      rw [if_neg]
      rintro ⟨e1, e2⟩
      exact nd.1 (List.mem_map.mpr ⟨q, hq, by unfold ends; rw [e1, e2]⟩)
    · rw [List.filterMap_cons, if_neg]
      · exact ih nd.2 h
      · rintro ⟨e1, e2⟩
        exact nd.1 (List.mem_map.mpr ⟨r, h, by unfold ends; rw [e1, e2]⟩)
theorem at_head {t : List Str} {a : Str} : atI ((a :: t).map D.str) 0 = some (.str a) := by
  unfold atI ixN
  simp
theorem at_lastS {p : List Str} {b : Str} (h : p.getLast? = some b) : atI (p.map D.str) (-1) = some (.str b) := by
  have hl : p ≠ [] := fun e => by rw [e] at h; cases h
  have hp : 0 < p.length := List.length_pos_iff.mpr hl
  unfold atI
  have e2 : ixN (p.map D.str).length (-1) = some (p.length - 1) := by
    unfold ixN
    rw [List.length_map]
    simp
    omega
  rw [e2]
  show (p.map D.str)[p.length - 1]? = _
  rw [List.getElem?_map, ← List.getLast?_eq_getElem?, h]
  rfl
theorem sIx_to {n i : Nat} (h : i ≤ n) : HT.sIx n n (some (i : Int)) = i := by
  unfold HT.sIx
  simp only []
  first
    | (rw [if_neg (by omega)]; simp; omega)
    | (simp; rw [if_neg (by omega), Nat.min_eq_left h])
theorem cut_to {p : List Str} {i : Nat} (h : i ≤ p.length) : DL.cutD (p.map D.str) none (some (i : Int)) = (p.take i).map D.str := by
  unfold DL.cutD
  rw [show HT.sIx (p.map D.str).length 0 none = 0 from rfl, List.length_map, sIx_to h, List.drop_zero, Nat.sub_zero, List.map_take]
theorem fresh_at {p : List Str} {i : Nat} {z : Str} (hn : p.Nodup) (h : p[i]? = some z) : z ∉ p.take i := fun hm => by
  obtain ⟨j, hj⟩ := List.getElem?_of_mem hm
  have hji : j < i := by
    have := (List.getElem?_eq_some_iff.mp hj).1
    rw [List.length_take] at this
    omega
  rw [List.getElem?_take, if_pos hji] at hj
  obtain ⟨h1, e1⟩ := List.getElem?_eq_some_iff.mp hj
  obtain ⟨h2, e2⟩ := List.getElem?_eq_some_iff.mp h
  exact List.pairwise_iff_getElem.mp hn j i h1 h2 hji (e1.trans e2.symm)
theorem cut_one {p : List Str} (h : 1 ≤ p.length) : DL.cutD (p.map D.str) (some 1) none = (p.drop 1).map D.str := by
  unfold DL.cutD
  have a2 : HT.sIx (p.map D.str).length 0 (some 1) = 1 := by unfold HT.sIx; rw [List.length_map]; simp; omega
  rw [show HT.sIx (p.map D.str).length (p.map D.str).length none = (p.map D.str).length from rfl, a2, ← List.map_drop]
  exact List.take_of_length_le (by rw [List.length_map, List.length_map, List.length_drop]; omega)
theorem sIx_one {p : List Str} (h : 1 ≤ p.length) : HT.sIx (p.map D.str).length 0 (some 1) = 1 := by unfold HT.sIx; rw [List.length_map]; simp; omega
theorem zip_strs : ∀ {p q : List Str}, zipL (p.map D.str) (q.map D.str) = (p.zip q).map fun x => D.tup [.str x.1, .str x.2]
  | [], _ => rfl
  | _ :: _, [] => rfl
  | x :: p, y :: q => congrArg (D.tup [.str x, .str y] :: ·) (zip_strs (p := p) (q := q))
section
variable {P : Program} {w : World} {K : PySem.W.Frag} {mg : Str → Option Value} {base : Heap} {C OG ME NA : Addr}
def sdWholeL : SpD := fun as Q _ => ∃ i : Int, as = [.d (.int i)] ∧ Q (.d (.bl true)) []
abbrev s_law_is_whole : Stmt := top 40
theorem sc_law_is_whole : FnScope ["thing"] ["thing"] (defScope s_law_is_whole) := ⟨rfl, rfl, rfl, by decide +kernel, rfl, by decide +kernel, by decide +kernel⟩
theorem ok_lwhole {f : Addr} {fd : FuncData} (G : Fun K "_law_is_whole" "_law_is_whole" s_law_is_whole f fd) (T : TxtN mg) : FnOk P w K mg base (L2.CX P w) 1 f fd ["thing"] (spOf K sdWholeL) := by
  refine okD G sc_law_is_whole [] (fun as Q E ⟨x, e, _⟩ => by subst e; exact ⟨rfl, rfl⟩) ⟨_, fun cdv A outer s H E ad F0 H0 hr => (pds_one (psd_ret (pd_and (pd_builtB (fun h => pe_callB call_isi (by rfl) T.b_isinstance (by decide +kernel) h) (cn_isi (K := K)).op (pda_cons (pd_var (pv 0)) (pda_cons (pd_const (pe_bltn (v := .ty "int") (by rfl) T.b_int (by decide +kernel) rfl) (fun _ => .ty _)) pda_nil))) (pd_one (pd_not (pd_builtB (fun h => pe_callB call_isi (by rfl) T.b_isinstance (by decide +kernel) h) (cn_isi (K := K)).op (pda_cons (pd_var (pv 0)) (pda_cons (pd_const (pe_bltn (v := .ty "bool") (by rfl) T.b_bool (by decide +kernel) rfl) (fun _ => .ty _)) pda_nil)))))))), ?_⟩
  rintro as Qd Ed ⟨i, rfl, k⟩
  refine DR.start (δ' := [some (.d (.int i))]) rfl ?_
  walk_at "dd"
  refine ⟨_, _, _, _, true, rfl, .ty _, .int _, kit_self, ?_⟩
  walk_at "dd"
  refine ⟨_, _, _, _, false, rfl, .ty _, .int _, by rfl, ?_⟩
  walk_at "dd"
  exact k
def sdMiss (C : Addr) : SpD := fun as Q _ => ∃ (gs : List Str) (rs : List Row) (e : En) (d x y : D), as = [.d d, .d x, .d y] ∧ Tb C gs rs e d ∧ Ask x ∧ Ask y ∧ ((known (cash :: gs) x = false ∧ Q (.d x) []) ∨ (known (cash :: gs) x = true ∧ known (cash :: gs) y = false ∧ Q (.d y) []))
abbrev s_law_missing : Stmt := top 41
theorem sc_law_missing : FnScope ["table", "up", "down", "told", "e"] ["table", "up", "down"] (defScope s_law_missing) := ⟨rfl, rfl, rfl, by decide +kernel, rfl, by decide +kernel, by decide +kernel⟩
theorem ok_lmiss (D_Table___getitem : DefG P w K mg base C 7 ["self", "at"] (sdGetX C NA)) {f : Addr} {fd : FuncData} (G : Fun K "_law_missing" "_law_missing" s_law_missing f fd) (T : TxtL K mg C OG ME NA) : FnOk P w K mg base (L2.CX P w) 9 f fd ["table", "up", "down"] (spOf K (sdMiss C)) := by
  refine okD G sc_law_missing [] (fun as Q E ⟨gs, rs, e, d, a, b, q, _⟩ => by subst q; exact ⟨rfl, rfl⟩) ⟨_, fun cdv A outer s H E ad F0 H0 hr => (pds_cons (psd_tryA K rfl (i := 4) (by show ¬ (4 ∈ ([] : List Nat)); decide) rfl rfl sc_law_missing.nd rfl rfl ⟨by rfl, by decide +kernel, .inl T.c_NoAsset⟩ (takes_of rfl rfl rfl rfl) (fun W pn xe tk po => (pds_one (psd_set (i := 3) (pd_sub D_Table___getitem.gi D_Table___getitem.ok (hr.mono (by decide)) D_Table___getitem.b tk (pd_var (pv 0)) (pd_tup (fun h => pe_tup h) (pda_cons (pd_var (pv 1)) (pda_cons (pd_var (pv 2)) pda_nil))) (fun _ _ => rfl)) (by show ¬ (3 ∈ ([] : List Nat)); decide) sc_law_missing.nd rfl (.inl rfl)))) (fun a oe cls d pn hz hf => (pds_one (psd_ret (pd_xf T.xf_NoAsset T.n_NoAsset_name hz hf (pd_var (pv 4)))))))
      (pds_one (psd_ret (pd_const pe_str (fun _ => .str (by decide +kernel)))))), ?_⟩
  rintro as Qd Ed ⟨gs, rs, e, d, x, y, rfl, ht, ax, ay, k⟩
  obtain ⟨kvs, f, rfl, _⟩ := id ht
  refine DR.start (δ' := [some (.d (.obj C (tabFs gs rs kvs f))), some (.d x), some (.d y), none, none]) rfl ?_
  walk_at "dd"
  refine DR.trya ?_
  walk_at "dd"
  refine ⟨gs, rs, e, _, x, y, rfl, ht, ax, ay, fun a b ea eb ha hb => ?_, fun c1 => ?_, fun c1 c2 => ?_⟩
  · subst ea eb
    rcases k with ⟨c, _⟩ | ⟨_, c, _⟩
    · rw [show known (cash :: gs) (.str a) = true from decide_eq_true ha] at c; cases c
    · rw [show known (cash :: gs) (.str b) = true from decide_eq_true hb] at c; cases c
  · refine ⟨true, T.exm_NN, fun _ a dd hdd => ?_, fun h => nomatch h⟩
    walk_at "dd"
    refine ⟨_, _, rfl, rfl, rfl, ?_⟩
    walk_at "dd"
    rcases k with ⟨_, k⟩ | ⟨c, _, _⟩
    · exact k
    · rw [c] at c1; cases c1
  · refine ⟨true, T.exm_NN, fun _ a dd hdd => ?_, fun h => nomatch h⟩
    walk_at "dd"
    refine ⟨_, _, rfl, rfl, rfl, ?_⟩
    walk_at "dd"
    rcases k with ⟨c, _⟩ | ⟨_, _, k⟩
    · rw [c] at c1; cases c1
    · exact k
abbrev s_law_missing_chain : Stmt := top 42
theorem sc_law_missing_chain : FnScope ["table", "up", "down", "told", "e"] ["table", "up", "down"] (defScope s_law_missing_chain) := ⟨rfl, rfl, rfl, by decide +kernel, rfl, by decide +kernel, by decide +kernel⟩
theorem ok_lmissc (D_Table_chain : DefM P w K mg base C "chain" 7 ["self", "up", "down"] (sdChainX C NA)) {f : Addr} {fd : FuncData} (G : Fun K "_law_missing_chain" "_law_missing_chain" s_law_missing_chain f fd) (T : TxtL K mg C OG ME NA) : FnOk P w K mg base (L2.CX P w) 9 f fd ["table", "up", "down"] (spOf K (sdMiss C)) := by
  refine okD G sc_law_missing_chain [] (fun as Q E ⟨gs, rs, e, d, a, b, q, _⟩ => by subst q; exact ⟨rfl, rfl⟩) ⟨_, fun cdv A outer s H E ad F0 H0 hr => (pds_cons (psd_tryA K rfl (i := 4) (by show ¬ (4 ∈ ([] : List Nat)); decide) rfl rfl sc_law_missing_chain.nd rfl rfl ⟨by rfl, by decide +kernel, .inl T.c_NoAsset⟩ (takes_of rfl rfl rfl rfl) (fun W pn xe tk po => (pds_one (psd_set (i := 3) (pd_meth (pd_var (pv 0)) T.cl_Table D_Table_chain.me D_Table_chain.ok (hr.mono (by decide)) D_Table_chain.b tk (pda_cons (pd_var (pv 1)) (pda_cons (pd_var (pv 2)) pda_nil))) (by show ¬ (3 ∈ ([] : List Nat)); decide) sc_law_missing_chain.nd rfl (.inl rfl)))) (fun a oe cls d pn hz hf => (pds_one (psd_ret (pd_xf T.xf_NoAsset T.n_NoAsset_name hz hf (pd_var (pv 4)))))))
      (pds_one (psd_ret (pd_const pe_str (fun _ => .str (by decide +kernel)))))), ?_⟩
  rintro as Qd Ed ⟨gs, rs, e, d, x, y, rfl, ht, ax, ay, k⟩
  obtain ⟨kvs, f, rfl, _⟩ := id ht
  refine DR.start (δ' := [some (.d (.obj C (tabFs gs rs kvs f))), some (.d x), some (.d y), none, none]) rfl ?_
  walk_at "dd"
  refine DR.trya ?_
  walk_at "dd"
  rcases k with ⟨c1, k⟩ | ⟨c1, c2, k⟩
  · refine ⟨gs, rs, e, _, x, y, rfl, ht, ax, ay, .inl ⟨c1, ?_⟩⟩
    refine ⟨true, T.exm_NN, fun _ a dd hdd => ?_, fun h => nomatch h⟩
    walk_at "dd"
    refine ⟨_, _, rfl, rfl, rfl, ?_⟩
    walk_at "dd"
    exact k
  · refine ⟨gs, rs, e, _, x, y, rfl, ht, ax, ay, .inr ⟨c1, c2, ?_⟩⟩
    refine ⟨true, T.exm_NN, fun _ a dd hdd => ?_, fun h => nomatch h⟩
    walk_at "dd"
    refine ⟨_, _, rfl, rfl, rfl, ?_⟩
    walk_at "dd"
    exact k
abbrev stJ (p : List Str) (rs : List Row) (a b : Str) (v : Int) (r : List (Option DV)) : DSt := some (.d (.tup (p.map .str))) :: some (.d (.lst (rs.map rowD))) :: some (.d (.str a)) :: some (.d (.str b)) :: some (.d (.int v)) :: r
def sdIsChain : SpD := fun as Q _ => ∃ (ns : List Str) (rs : List Row) (p : List Str) (a b : Str) (v : Int), as = [.d (.tup (p.map .str)), .d (.lst (rs.map rowD)), .d (.str a), .d (.str b), .d (.int v)] ∧ FineRows ns rs ∧ rs.length ≤ 200 ∧ p.length ≤ 100 ∧ Dst.Path rs p v ∧ p.head? = some a ∧ p.getLast? = some b ∧ p.Nodup ∧ Q (.d (.bl true)) []
abbrev s_law_is_chain : Stmt := top 43
theorem sc_law_is_chain : FnScope ["told", "rows", "up", "down", "due", "place", "name", "added", "one", "other", "here", "first", "second", "most"] ["told", "rows", "up", "down", "due"] (defScope s_law_is_chain) := ⟨rfl, rfl, rfl, by decide +kernel, rfl, by decide +kernel, by decide +kernel⟩
theorem ok_lchain {f : Addr} {fd : FuncData} (G : Fun K "_law_is_chain" "_law_is_chain" s_law_is_chain f fd) (T : TxtN mg) : FnOk P w K mg base (L2.CX P w) 1 f fd ["told", "rows", "up", "down", "due"] (spOf K sdIsChain) := by
  refine okD G sc_law_is_chain [] (fun as Q E ⟨ns, rs, p, a, b, v, q, _⟩ => by subst q; exact ⟨rfl, rfl⟩) ⟨_, fun cdv A outer s H E ad F0 H0 hr => (pds_cons (psd_if (PW.pt (pwd_or (ptd_not (ptd_val (pd_builtB (fun h => pe_callB call_isi (by rfl) T.b_isinstance (by decide +kernel) h) (cn_isi (K := K)).op (pda_cons (pd_var (pv 0)) (pda_cons (pd_const (pe_bltn (v := .ty "tuple") (by rfl) T.b_tuple (by decide +kernel) rfl) (fun _ => .ty _)) pda_nil))) (fun h => pt_val h))) (pwd_or (ptd_cmp op_eq op2_eq.op (pd_builtB (fun h => pe_callB call_len_seq (by rfl) T.b_len (by decide +kernel) h) cn_len.op (pda_cons (pd_var (pv 0)) pda_nil)) (pd_const pe_int (fun _ => .int _)) (nomark _)) (pwd_or (ptd_cmp op_ne op2_ne.op (pd_ix ix_tup op2_ixT (pd_var (pv 0)) (pd_const pe_int (fun _ => .int _)) (fun _ _ => rfl)) (pd_var (pv 2)) (nomark _)) (pwd_or1 (ptd_cmp op_ne op2_ne.op (pd_ix ix_tup op2_ixT (pd_var (pv 0)) (pd_neg (pd_const pe_int (fun _ => .int _))) (fun _ _ => rfl)) (pd_var (pv 3)) (nomark _))))))) (pds_one (psd_ret (pd_const pe_bl (fun _ => .bl _)))) pds_nil)
      (pds_cons (psd_for (passes_of rfl) rfl (pid_enumT (by rfl) T.b_enumerate (pda_cons (pd_var (pv 0)) pda_nil)) (pgd_tup (is := [5, 6]) (vs := [5, 6]) (pg_tup rfl (pgs_cons (pg_name (i := 5) sc_law_is_chain.nd rfl (.inl rfl)) (pgs_cons (pg_name (i := 6) sc_law_is_chain.nd rfl (.inl rfl)) pgs_nil))) rfl (by show ∀ i ∈ ([5, 6] : List Nat), ¬ (i ∈ ([] : List Nat)) ∧ i ∈ ([5, 6] : List Nat); decide))
      (pds_one (psd_if (ptd_cmp op_in_seq (op2_in false).op (pd_var (pv 6)) (pd_sliceT (pd_var (pv 0)) pod_none (pod_some (pd_var (pv 5)))) rfl) (pds_one (psd_ret (pd_const pe_bl (fun _ => .bl _)))) pds_nil)))
      (pds_cons (psd_set (i := 7) (pd_const pe_int (fun _ => .int _)) (by show ¬ (7 ∈ ([] : List Nat)); decide) sc_law_is_chain.nd rfl (.inl rfl))
      (pds_cons (psd_for (passes_of rfl) rfl (pid_zip (by rfl) T.b_zip (pda_cons (pd_var (pv 0)) (pda_cons (pd_sliceT (pd_var (pv 0)) (pod_some (pd_const pe_int (fun _ => .int _))) pod_none) pda_nil))) (pgd_tup (is := [8, 9]) (vs := [8, 9]) (pg_tup rfl (pgs_cons (pg_name (i := 8) sc_law_is_chain.nd rfl (.inr rfl)) (pgs_cons (pg_name (i := 9) sc_law_is_chain.nd rfl (.inr rfl)) pgs_nil))) rfl (by show ∀ i ∈ ([8, 9] : List Nat), ¬ (i ∈ ([] : List Nat)) ∧ i ∈ ([8, 9] : List Nat); decide))
      (pds_cons (psd_setLc (i := 10) (o := false) (own := [("first", 11), ("second", 12), ("most", 13)]) (by show ¬ (10 ∈ ([] : List Nat)); decide) (by rfl) sc_law_is_chain.nd rfl rfl (sw_true rfl rfl rfl (by decide +kernel)) (pid_list (pd_var (pv 1))) (blkOk_by (own := [("first", 11), ("second", 12), ("most", 13)]) (N := ["told", "rows", "up", "down", "due", "place", "name", "added", "one", "other", "here", "first", "second", "most"]) (sc := defScope s_law_is_chain) (by decide +kernel)) (fun _ _ _ _ _ => (pgd_tup (is := [11, 12, 13]) (vs := [11, 12, 13]) (pg_tup rfl (pgs_cons (pg_name (i := 11) sc_law_is_chain.nd rfl (.inl rfl)) (pgs_cons (pg_name (i := 12) sc_law_is_chain.nd rfl (.inl rfl)) (pgs_cons (pg_name (i := 13) sc_law_is_chain.nd rfl (.inl rfl)) pgs_nil)))) rfl (by show ∀ i ∈ ([11, 12, 13] : List Nat), ¬ (i ∈ ([] : List Nat)) ∧ i ∈ ([11, 12, 13] : List Nat); decide))) (fun _ _ _ _ _ => (ptsd_one (PW.pt (pwd_and (ptd_cmp op_eq op2_eq.op (pd_var (pv 11)) (pd_var (pv 8)) (nomark _)) (pwd_and1 (ptd_cmp op_eq op2_eq.op (pd_var (pv 12)) (pd_var (pv 9)) (nomark _))))))) (fun _ _ _ _ _ => (pd_var (pv 13))) (by show ∀ i ∈ ([11, 12, 13] : List Nat), ¬ (i ∈ ([] : List Nat)); decide))
      (pds_cons (psd_if (ptd_cmp op_ne op2_ne.op (pd_builtB (fun h => pe_callB call_len_seq (by rfl) T.b_len (by decide +kernel) h) cn_len.op (pda_cons (pd_var (pv 10)) pda_nil)) (pd_const pe_int (fun _ => .int _)) (nomark _)) (pds_one (psd_ret (pd_const pe_bl (fun _ => .bl _)))) pds_nil)
      (pds_one (psd_set (i := 7) (pd_op op_add (op2_I0 fun _ _ _ => .int _) (pd_var (pv 7)) (pd_ix ix_list op2_ixL (pd_var (pv 10)) (pd_const pe_int (fun _ => .int _)) (fun _ _ => rfl))) (by show ¬ (7 ∈ ([] : List Nat)); decide) sc_law_is_chain.nd rfl (.inl rfl))))))
      (pds_one (psd_ret (pd_cmp op_eq op2_eq.op (pd_var (pv 7)) (pd_var (pv 4)) (nomark _)))))))), ?_⟩
  rintro as Qd Ed ⟨ns, rs, p, a, b, v, rfl, hf, hl, hpl, hp, hh, ht, hn, k⟩
  refine DR.start (δ' := stJ p rs a b v [none, none, none, none, none, none, none, none, none]) rfl ?_
  with_reducible refine DR.cut (fun δ => δ = stJ p rs a b v [none, none, none, none, none, none, none, none, none]) (fun N kN => ?_) ?_
  · walk_at "dd"
    refine ⟨_, _, _, _, true, rfl, .ty _, .tup _, rfl, ?_⟩
    walk_at "dd"
    rw [decide_eq_false (show ¬ (((p.map D.str).length : Int) = 0) from fun e => by
      cases p with
      | nil => cases hh
      | cons x t => simp at e; omega), if_neg Bool.false_ne_true]
    walk_at "dd"
    have e0 : atI (p.map D.str) 0 = some (.str a) := by
      cases p with
      | nil => cases hh
      | cons x t => cases hh; exact at_head
    refine ⟨_, _, _, rfl, rfl, e0, ?_⟩
    walk_at "dd"
    rw [if_neg (by simp)]
    walk_at "dd"
    refine ⟨_, _, _, rfl, rfl, at_lastS ht, ?_⟩
    walk_at "dd"
    rw [if_neg (by simp)]
    walk_at "dd"
    exact kN _ rfl
  rintro δ rfl
  with_reducible refine DR.cut (fun δ => ∃ q5 q6 : Option DV, δ = stJ p rs a b v [q5, q6, none, none, none, none, none, none, none]) (fun N kN => ?_) ?_
  · walk_at "dd"
    refine DR.enumti ?_
    walk_at "dd"
    refine DR.for_inv (fun i δ => ∃ q5 q6 : Option DV, δ = stJ p rs a b v [q5, q6, none, none, none, none, none, none, none]) ⟨_, _, rfl⟩ ?stp ?fn
    case fn =>
      rintro δ ⟨q5, q6, rfl⟩
      exact kN _ ⟨q5, q6, rfl⟩
    case stp =>
    rintro i x δ N2 hx ⟨q5, q6, rfl⟩ kN2
    obtain ⟨d, hd, rfl⟩ := DR.enum_at hx
    obtain ⟨z, hz, rfl⟩ := DR.map_at hd
    have hi := (List.getElem?_eq_some_iff.mp hz).1
    walk_at "dd"
    refine ⟨fun h => ?_, ?_⟩
    · have := h.2
      rw [List.length_map, sIx_to (Nat.le_of_lt hi)] at this
      omega
    rw [cut_to (Nat.le_of_lt hi)]
    refine ⟨_, _, _, rfl, rfl, scL_str, ?_⟩
    walk_at "dd"
    rw [inV_str, decide_eq_false (fresh_at hn hz)]
    walk_at "dd"
    exact kN2 _ ⟨_, _, rfl⟩
  rintro δ ⟨q5, q6, rfl⟩
  with_reducible refine DR.cut (fun δ => δ = stJ p rs a b v [q5, q6, some (.d (.int 0)), none, none, none, none, none, none]) (fun N kN => ?_) ?_
  · walk_at "dd"
    exact kN _ rfl
  rintro δ rfl
  obtain ⟨rr, hrr, hz, hsum⟩ := path_rows hp
  with_reducible refine DR.cut (fun δ => ∃ q8 q9 q10 : Option DV, δ = stJ p rs a b v [q5, q6, some (.d (.int v)), q8, q9, q10, none, none, none]) (fun N kN => ?_) ?_
  · walk_at "dd"
    have p1 : 1 ≤ p.length := by
      cases p with
      | nil => cases hh
      | cons x t => simp
    refine ⟨fun h => by rw [sIx_one p1] at h; exact absurd h.1 (by decide), ?_⟩
    rw [cut_one p1]
    walk_at "dd"
    refine ⟨_, _, _, _, rfl, .inr ⟨rfl, rfl⟩, ?_⟩
    rw [zip_strs, hz, List.map_map]
    refine DR.for_inv (fun i δ => ∃ q8 q9 q10 : Option DV, δ = stJ p rs a b v [q5, q6, some (.d (.int ((rr.take i).map (·.2.2)).sum)), q8, q9, q10, none, none, none]) ⟨_, _, _, rfl⟩ ?stp ?fn
    case fn =>
      rintro δ ⟨q8, q9, q10, rfl⟩
      rw [List.length_map, List.take_length, hsum]
      exact kN _ ⟨q8, q9, q10, rfl⟩
    case stp =>
    rintro i x δ N2 hx ⟨q8, q9, q10, rfl⟩ kN2
    obtain ⟨r, hr, rfl⟩ := DR.map_at hx
    have hrm := hrr r (List.mem_of_getElem? hr)
    dsimp only [Function.comp]
    walk_at "dd"
    refine DR.lc_filterM (l := rs) (r := rowD) (fun q => if q.1 = r.1 ∧ q.2.1 = r.2.1 then some (D.int q.2.2) else none) (fun q acc N hq hl2 kN => ?_) ?_
    · walk_at "dd"
      refine DR.split (fun c1 => ?_) (fun c1 => ?_)
      · walk_at "dd"
        refine DR.split (fun c2 => ?_) (fun c2 => ?_)
        · rw [if_pos ⟨c1, c2⟩] at kN
          walk_at "dd"
          exact ⟨Nat.lt_of_lt_of_le hl2 (Nat.le_trans hl (by decide)), kN⟩
        · rw [if_neg fun h => c2 h.2] at kN
          walk_at "dd"
          rw [Option.toList_none, List.append_nil] at kN
          exact kN
      · rw [if_neg fun h => c1 h.1] at kN
        walk_at "dd"
        rw [Option.toList_none, List.append_nil] at kN
        exact kN
    rw [one_row hf.nd hrm]
    walk_at "dd"
    rw [if_neg (by simp)]
    walk_at "dd"
    refine ⟨_, _, .inl rfl, rfl, ?_⟩
    walk_at "dd"
    refine kN2 _ ⟨some (.d (.str r.1)), some (.d (.str r.2.1)), some (.d (.lst [.int r.2.2])), ?_⟩
    rw [List.take_succ, hr, List.map_append, List.sum_append]
    simp
    rfl
  rintro δ ⟨q8, q9, q10, rfl⟩
  walk_at "dd"
  rw [if_neg Bool.false_ne_true, decide_eq_true rfl]
  exact k
end
end KT

set_option Elab.async false
set_option linter.all false
set_option maxRecDepth 100000
set_option maxHeartbeats 0
set_option pp.deepTerms false
set_option pp.deepTerms.threshold 8


namespace KT
open PySem PySem.Spec PyProof.Rows L2 DL
open Dst (IsDist)
mutual
theorem eqv_self : ∀ d : PyData, d.hasDict = false → PyData.eqv d d = true
  | .none, _ => by simp [PyData.eqv]
  | .bool b, _ => by simp [PyData.eqv]
  | .int i, _ => by simp [PyData.eqv]
  | .str x, _ => by simp [PyData.eqv]
  | .list xs, h => by
    simp only [PyData.eqv]
    exact eqv_selfs xs (by simpa [PyData.hasDict] using h)
  | .tuple xs, h => by
    simp only [PyData.eqv]
    exact eqv_selfs xs (by simpa [PyData.hasDict] using h)
  | .dict _, h => by simp [PyData.hasDict] at h
theorem eqv_selfs : ∀ ds : List PyData, PyData.hasDictAll ds = false → PyData.eqvAll ds ds = true
  | [], _ => by simp [PyData.eqvAll]
  | d :: ds, h => by
    simp only [PyData.hasDictAll, Bool.or_eq_false_iff] at h
    simp only [PyData.eqvAll, eqv_self d h.1, eqv_selfs ds h.2, Bool.and_self]
end
theorem goods6 {gs : List Str} (h : Goods gs) : (cash :: gs).length ≤ 10 := by have := h.2.2.1; rw [List.length_cons]; omega
theorem dp_rw (r : Row) : Dp_ 2 (rowD r) := dp_tup fun d hd => by
  simp only [List.mem_cons, List.not_mem_nil, or_false] at hd
  rcases hd with rfl | rfl | rfl
  · exact dp_str
  · exact dp_str
  · exact dp_int
theorem dp_rws {rs : List Row} : Dp_ 3 (.tup (rs.map rowD)) := dp_tup (dp_map fun r _ => dp_rw r)
section
variable {P : Program} {w : World} {K : PySem.W.Frag} {mg : Str → Option Value} {base : Heap} {C OG ME NA : Addr}
def sdEntR (C : Addr) : SpD := fun as Q _ => ∃ (gs : List Str) (rs : List Row) (e : En) (d : D) (f : Fn), as = [.d d, .d (.lst ((cash :: gs).map .str)), .d (.dT (es (sq (cash :: gs)) f))] ∧ Tb C gs rs e d ∧ (∀ a b, a ∈ cash :: gs → b ∈ cash :: gs → f a b = some (e a b)) ∧ Q (.d (.bl true)) []
abbrev s_law_entries_right : Stmt := top 44
theorem sc_law_entries_right : FnScope ["table", "names", "closed", "due", "told", "one", "other", "row"] ["table", "names", "closed"] (defScope s_law_entries_right) := ⟨rfl, rfl, rfl, by decide +kernel, rfl, by decide +kernel, by decide +kernel⟩
theorem ok_lentr (D_law_pairs : DefD P w K mg base "_law_pairs" 1 ["names"] sdPairs) (D_law_is_whole : DefD P w K mg base "_law_is_whole" 1 ["thing"] sdWholeL) (D_Table_entries : DefP P w K mg base C "entries" 1 ["self"] (sdEntries C)) {f : Addr} {fd : FuncData} (G : Fun K "_law_entries_right" "_law_entries_right" s_law_entries_right f fd) (T : TxtL K mg C OG ME NA) : FnOk P w K mg base (L2.CX P w) 3 f fd ["table", "names", "closed"] (spOf K (sdEntR C)) := by
  refine okD G sc_law_entries_right [] (fun as Q E ⟨gs, rs, e, d, f, q, _⟩ => by subst q; exact ⟨rfl, rfl⟩) ⟨_, fun cdv A outer s H E ad F0 H0 hr => (pds_cons (psd_set (i := 3) (pd_builtB (fun h => pe_callTy call_tuple_of (by rfl) T.b_tuple (by decide +kernel) h) cn_tuple (pda_cons (pd_lc (own := [("one", 5), ("other", 6)]) (by rfl) sc_law_entries_right.nd (pid_list (pd_call D_law_pairs.ok (hr.mono (by decide)) (by rfl) D_law_pairs.mg D_law_pairs.kp D_law_pairs.b (takes_of rfl rfl rfl rfl) (pda_cons (pd_var (pv 1)) pda_nil))) (blkOk_by (own := [("one", 5), ("other", 6)]) (N := ["table", "names", "closed", "due", "told", "one", "other", "row"]) (sc := defScope s_law_entries_right) (by decide +kernel)) (fun _ _ _ _ _ => (pgd_tup (is := [5, 6]) (vs := [5, 6]) (pg_tup rfl (pgs_cons (pg_name (i := 5) sc_law_entries_right.nd rfl (.inl rfl)) (pgs_cons (pg_name (i := 6) sc_law_entries_right.nd rfl (.inl rfl)) pgs_nil))) rfl (by show ∀ i ∈ ([5, 6] : List Nat), ¬ (i ∈ ([] : List Nat)) ∧ i ∈ ([5, 6] : List Nat); decide))) (fun _ _ _ _ _ => ptsd_nil) (fun _ _ _ _ _ => (pd_tup (fun h => pe_tup h) (pda_cons (pd_var (pv 5)) (pda_cons (pd_var (pv 6)) (pda_cons (pd_get (fun ho hi => pe_dget (hu_of hr) ho hi (fun _ _ => rfl)) (pd_var (pv 2)) (pd_tup (fun h => pe_tup h) (pda_cons (pd_var (pv 5)) (pda_cons (pd_var (pv 6)) pda_nil)))) pda_nil))))) (by show ∀ i ∈ ([5, 6] : List Nat), ¬ (i ∈ ([] : List Nat)); decide)) pda_nil)) (by show ¬ (3 ∈ ([] : List Nat)); decide) sc_law_entries_right.nd rfl (.inl rfl))
      (pds_cons (psd_set (i := 4) (pd_prop (pd_var (pv 0)) T.cl_Table D_Table_entries.po D_Table_entries.ok (hr.mono (by decide)) D_Table_entries.b rfl) (by show ¬ (4 ∈ ([] : List Nat)); decide) sc_law_entries_right.nd rfl (.inl rfl))
      (pds_cons (psd_if (PW.pt (pwd_or (ptd_not (ptd_val (pd_builtB (fun h => pe_callB call_isi (by rfl) T.b_isinstance (by decide +kernel) h) (cn_isi (K := K)).op (pda_cons (pd_var (pv 4)) (pda_cons (pd_const (pe_bltn (v := .ty "tuple") (by rfl) T.b_tuple (by decide +kernel) rfl) (fun _ => .ty _)) pda_nil))) (fun h => pt_val h))) (pwd_or1 (ptd_cmp (op_neD hr.units) op2_neD.op (pd_var (pv 4)) (pd_var (pv 3)) (nomark _))))) (pds_one (psd_ret (pd_const pe_bl (fun _ => .bl _)))) pds_nil)
      (pds_one (psd_ret (pd_builtB (fun h => pe_callB (cr_all rfl) (by rfl) T.b_all (by decide +kernel) h) cn_all.op (pda_cons (pd_lc (own := [("row", 7)]) (by rfl) sc_law_entries_right.nd (pid_tup (pd_var (pv 4))) (blkOk_by (own := [("row", 7)]) (N := ["table", "names", "closed", "due", "told", "one", "other", "row"]) (sc := defScope s_law_entries_right) (by decide +kernel)) (fun _ _ _ _ _ => (pgd_name (i := 7) (vs := [7]) (pg_name (i := 7) sc_law_entries_right.nd rfl (.inl rfl)) (by show ¬ (7 ∈ ([] : List Nat)); decide) (by decide))) (fun _ _ _ _ _ => ptsd_nil) (fun _ _ _ _ _ => (pd_and (pd_builtB (fun h => pe_callB call_isi (by rfl) T.b_isinstance (by decide +kernel) h) (cn_isi (K := K)).op (pda_cons (pd_var (pv 7)) (pda_cons (pd_const (pe_bltn (v := .ty "tuple") (by rfl) T.b_tuple (by decide +kernel) rfl) (fun _ => .ty _)) pda_nil))) (pd_one (pd_call D_law_is_whole.ok (hr.mono (by decide)) (by rfl) D_law_is_whole.mg D_law_is_whole.kp D_law_is_whole.b takes0 (pda_cons (pd_ix ix_tup op2_ixT (pd_var (pv 7)) (pd_const pe_int (fun _ => .int _)) (fun _ _ => rfl)) pda_nil))))) (by show ∀ i ∈ ([7] : List Nat), ¬ (i ∈ ([] : List Nat)); decide)) pda_nil))))))), ?_⟩
  rintro as Qd Ed ⟨gs, rs, e, d, fn, rfl, ht, hf, k⟩
  obtain ⟨kvs, f, rfl, h1, _⟩ := id ht
  refine DR.start (δ' := [some (.d (.obj C (tabFs gs rs kvs f))), some (.d (.lst ((cash :: gs).map .str))), some (.d (.dT (es (sq (cash :: gs)) fn)))] ++ List.replicate 5 none) rfl ?_
  walk_at "dd"
  refine ⟨cash :: gs, rfl, goods6 h1, ?_⟩
  walk_at "dd"
  refine DR.lc_mapM (l := prs (cash :: gs)) (r := prD) (fun p => rowD (p.1, p.2, e p.1 p.2)) (fun p acc N hp hl2 kN => ?_) ?_
  · obtain ⟨x, y⟩ := p
    obtain ⟨hx, hy, _⟩ := prs_mem.mp hp
    walk_at "dd"
    refine ⟨_, KT.k2 x y, .int (e x y), rfl, rfl, by rw [val_es (mem_sq.mpr ⟨hx, hy⟩), hf x y hx hy]; rfl, ?_⟩
    walk_at "dd"
    exact ⟨Nat.lt_of_lt_of_le hl2 (Nat.le_trans (prs_len (goods6 h1)) (by decide)), kN⟩
  rw [show (prs (cash :: gs)).map (fun p => rowD (p.1, p.2, e p.1 p.2)) = (entRows (cash :: gs) e).map rowD by unfold entRows; rw [List.map_map]; rfl]
  walk_at "dd"
  refine ⟨_, _, rfl, .inl rfl, ?_⟩
  walk_at "dd"
  refine ⟨gs, rs, e, _, rfl, ht, ?_⟩
  walk_at "dd"
  refine ⟨_, _, _, _, true, rfl, .ty _, .tup _, rfl, ?_⟩
  walk_at "dd"
  refine eqd_f (dp_rws).cmp (dp_rws).cmp (eqv_self _ (noDict (dp_rws).cmp.1)) ?_
  walk_at "dd"
  refine DR.lc_mapM (l := entRows (cash :: gs) e) (r := rowD) (fun r => .bl true) (fun r acc N hr hl2 kN => ?_) ?_
  · walk_at "dd"
    refine ⟨_, _, _, _, true, rfl, .ty _, .tup _, rfl, ?_⟩
    walk_at "dd"
    refine ⟨r.2.2, rfl, ?_⟩
    walk_at "dd"
    exact ⟨Nat.lt_of_lt_of_le hl2 (Nat.le_trans (by rw [entRows_len]; exact prs_len (goods6 h1)) (by decide)), kN⟩
  walk_at "dd"
  refine ⟨(entRows (cash :: gs) e).map fun _ => true, .inl (by rw [List.map_map]; rfl), ?_⟩
  have ea : ((entRows (cash :: gs) e).map fun _ => true).all id = true := by simp
  dsimp only
  rw [ea]
  walk_at "dd"
  exact k
end
end KT

set_option Elab.async false
set_option linter.all false
set_option maxRecDepth 100000
set_option maxHeartbeats 0
set_option pp.deepTerms false
set_option pp.deepTerms.threshold 8


namespace KT
open PySem PySem.Spec PyProof.Rows L2 DL
open Dst (IsDist)
theorem sum_lens : ∀ {gs : List Str}, (∀ g ∈ gs, g.length ≤ 12) → (gs.map fun x => x.length).sum ≤ 12 * gs.length
  | [], _ => Nat.le_refl _
  | g :: gs, h => by
    have h1 := h g List.mem_cons_self
    have h2 := sum_lens (gs := gs) fun x hx => h x (List.mem_cons_of_mem _ hx)
    rw [List.map_cons, List.sum_cons, List.length_cons]
    omega
theorem mem_lens {g : Str} : ∀ {gs : List Str}, g ∈ gs → g.length ≤ (gs.map fun x => x.length).sum
  | _ :: gs, h => by
    rw [List.map_cons, List.sum_cons]
    rcases List.mem_cons.mp h with rfl | h
    · omega
    · have := mem_lens h
      omega
theorem join0 : ∀ ts : List Str, (Str.join "" ts).length = (ts.map fun x => x.length).sum
  | [] => rfl
  | [x] => by show x.length = x.length + 0; omega
  | x :: y :: r => by
    have ih := join0 (y :: r)
    show (x ++ "" ++ Str.join "" (y :: r)).length = x.length + ((y :: r).map fun x => x.length).sum
    rw [strLen_append, strLen_append, ih, show (("" : String) : Str).length = 0 from rfl]
    omega
theorem kn_no {gs : List Str} {s : Str} (hg : Goods gs) (hc : s ≠ cash) (hs : ¬ Nm s) : known (cash :: gs) (.str s) = false := decide_eq_false fun h => by
  rcases List.mem_cons.mp h with h | h
  · exact hc h
  · exact hs (hg.2.2.2 s h)
def oddL (gs : List Str) : List D := [.str (Str.join "" (cash :: gs) ++ "x"), .non, .int 0, .bl true, .str "", .tup [.str "cash"], .lst [.str "cash"], .lst [], .str "Cash"]
theorem odd_ok {gs : List Str} (hg : Goods gs) : ∀ x ∈ oddL gs, Ask x ∧ known (cash :: gs) x = false := fun x hx => by
  simp only [oddL, List.mem_cons, List.not_mem_nil, or_false] at hx
  rcases hx with rfl | rfl | rfl | rfl | rfl | rfl | rfl | rfl | rfl
  · refine ⟨.str _, decide_eq_false fun h => ?_⟩
    have h1 := mem_lens h
    rw [strLen_append, join0, show (("x" : String) : Str).length = 1 from rfl] at h1
    omega
  · exact ⟨.non, rfl⟩
  · exact ⟨.int _, rfl⟩
  · exact ⟨.bl _, rfl⟩
  · exact ⟨.str _, kn_no hg (by decide) fun h => absurd h.2.1 (by decide)⟩
  · exact ⟨.tup ["cash"], rfl⟩
  · exact ⟨.lst ["cash"], rfl⟩
  · exact ⟨.lst [], rfl⟩
  · exact ⟨.str _, kn_no hg (by decide) fun h => absurd (h.2.2.2 67 (by decide)).1 (by decide)⟩
theorem far_ok {gs : List Str} (hg : Goods gs) : known (cash :: gs) (.str "cash cash") = false := kn_no hg (by decide) fun h => absurd (h.2.2.2 32 (by decide)).1 (by decide)
abbrev stS (d : D) (ys : List D) (gs : List Str) (r : List (Option DV)) : DSt := some (.d d) :: some (.own (.lst ys)) :: some (.d (.lst ((cash :: gs).map .str))) :: r
section
variable {P : Program} {w : World} {K : PySem.W.Frag} {mg : Str → Option Value} {base : Heap} {C OG ME NA : Addr}
def sdStrg (C : Addr) : SpD := fun as Q _ => ∃ (gs : List Str) (rs : List Row) (e : En) (d : D) (xs : List D) (n : Nat), as = [.d d, .own (.lst xs), .d (.lst ((cash :: gs).map .str))] ∧ Tb C gs rs e d ∧ Src n xs ∧ n < 900000000 ∧ ∀ ys, Src (n + 9) ys → Q (.d (.bl true)) [.lst ys]
abbrev s_law_strangers : Stmt := top 46
theorem sc_law_strangers : FnScope ["table", "source", "names", "odd", "right", "far", "up", "down", "due"] ["table", "source", "names"] (defScope s_law_strangers) := ⟨rfl, rfl, rfl, by decide +kernel, rfl, by decide +kernel, by decide +kernel⟩
theorem ok_lstr (D_law_draw : DefD P w K mg base "_law_draw" 1 ["source", "many"] sdDraw) (D_law_missing : DefD P w K mg base "_law_missing" 9 ["table", "up", "down"] (sdMiss C)) (D_law_missing_chain : DefD P w K mg base "_law_missing_chain" 9 ["table", "up", "down"] (sdMiss C)) {f : Addr} {fd : FuncData} (G : Fun K "_law_strangers" "_law_strangers" s_law_strangers f fd) (T : TxtL K mg C OG ME NA) : FnOk P w K mg base (L2.CX P w) 11 f fd ["table", "source", "names"] (spOf K (sdStrg C)) := by
  refine okD G sc_law_strangers [1] (fun as Q E ⟨gs, rs, e, d, xs, n, q, _⟩ => by subst q; exact ⟨rfl, rfl⟩) ⟨_, fun cdv A outer s H E ad F0 H0 hr => (pds_cons (psd_for (passes_of rfl) rfl (pid_list (pd_lst (fun h => pe_lst h) (pda_cons (pd_op op_add_str op2_addS (pd_join (pd_const pe_str (fun _ => .str (by decide +kernel))) (pd_var (pv 2))) (pd_const pe_str (fun _ => .str (by decide +kernel)))) (pda_cons (pd_const pe_non (fun _ => .non)) (pda_cons (pd_const pe_int (fun _ => .int _)) (pda_cons (pd_const pe_bl (fun _ => .bl _)) (pda_cons (pd_const pe_str (fun _ => .str (by decide +kernel))) (pda_cons (pd_tup (fun h => pe_tup h) (pda_cons (pd_const pe_str (fun _ => .str (by decide +kernel))) pda_nil)) (pda_cons (pd_lst (fun h => pe_lst h) (pda_cons (pd_const pe_str (fun _ => .str (by decide +kernel))) pda_nil)) (pda_cons (pd_lst (fun h => pe_lst h) pda_nil) (pda_cons (pd_const pe_str (fun _ => .str (by decide +kernel))) pda_nil))))))))))) (pgd_name (i := 3) (vs := [3]) (pg_name (i := 3) sc_law_strangers.nd rfl (.inl rfl)) (by show ¬ (3 ∈ ([1] : List Nat)); decide) (by decide))
      (pds_cons (psd_par (i := 4) (j := 5) (oi := false) (oj := false) (pka_cons (pd_ix ix_list op2_ixL (pd_var (pv 2)) (pd_call D_law_draw.ok (hr.mono (by decide)) (by rfl) D_law_draw.mg D_law_draw.kp D_law_draw.b (takes_of rfl rfl rfl rfl) (pda_own (i := 1) (pv 1) (pda_cons (pd_builtB (fun h => pe_callB call_len_seq (by rfl) T.b_len (by decide +kernel) h) cn_len.op (pda_cons (pd_var (pv 2)) pda_nil)) pda_nil))) (fun _ _ => rfl)) (pka_cons (pd_const pe_str (fun _ => .str (by decide +kernel))) pka_nil)) (by show ¬ (4 ∈ ([1] : List Nat)); decide) (by show ¬ (5 ∈ ([1] : List Nat)); decide) (fun h => ps_par (i := 4) (j := 5) (by rfl) sc_law_strangers.nd rfl rfl (by decide) rfl rfl h (by rfl)) (by decide))
      (pds_one (psd_for (passes_of rfl) rfl (pid_list (pd_lst (fun h => pe_lst h) (pda_cons (pd_tup (fun h => pe_tup h) (pda_cons (pd_var (pv 3)) (pda_cons (pd_var (pv 4)) (pda_cons (pd_var (pv 3)) pda_nil)))) (pda_cons (pd_tup (fun h => pe_tup h) (pda_cons (pd_var (pv 4)) (pda_cons (pd_var (pv 3)) (pda_cons (pd_var (pv 3)) pda_nil)))) (pda_cons (pd_tup (fun h => pe_tup h) (pda_cons (pd_var (pv 3)) (pda_cons (pd_var (pv 5)) (pda_cons (pd_var (pv 3)) pda_nil)))) (pda_cons (pd_tup (fun h => pe_tup h) (pda_cons (pd_var (pv 5)) (pda_cons (pd_var (pv 3)) (pda_cons (pd_var (pv 5)) pda_nil)))) pda_nil)))))) (pgd_tup (is := [6, 7, 8]) (vs := [6, 7, 8]) (pg_tup rfl (pgs_cons (pg_name (i := 6) sc_law_strangers.nd rfl (.inl rfl)) (pgs_cons (pg_name (i := 7) sc_law_strangers.nd rfl (.inl rfl)) (pgs_cons (pg_name (i := 8) sc_law_strangers.nd rfl (.inl rfl)) pgs_nil)))) rfl (by show ∀ i ∈ ([6, 7, 8] : List Nat), ¬ (i ∈ ([1] : List Nat)) ∧ i ∈ ([6, 7, 8] : List Nat); decide))
      (pds_one (psd_if (PW.pt (pwd_or (ptd_cmp (op_neD hr.units) op2_neD.op (pd_call D_law_missing.ok (hr.mono (by decide)) (by rfl) D_law_missing.mg D_law_missing.kp D_law_missing.b (takes_of rfl rfl rfl rfl) (pda_cons (pd_var (pv 0)) (pda_cons (pd_var (pv 6)) (pda_cons (pd_var (pv 7)) pda_nil)))) (pd_var (pv 8)) (nomark _)) (pwd_or1 (ptd_cmp (op_neD hr.units) op2_neD.op (pd_call D_law_missing_chain.ok (hr.mono (by decide)) (by rfl) D_law_missing_chain.mg D_law_missing_chain.kp D_law_missing_chain.b (takes_of rfl rfl rfl rfl) (pda_cons (pd_var (pv 0)) (pda_cons (pd_var (pv 6)) (pda_cons (pd_var (pv 7)) pda_nil)))) (pd_var (pv 8)) (nomark _))))) (pds_one (psd_ret (pd_const pe_bl (fun _ => .bl _)))) pds_nil))))))
      (pds_one (psd_ret (pd_const pe_bl (fun _ => .bl _))))), ?_⟩
  rintro as Qd Ed ⟨gs, rs, e, d, xs, n, rfl, ht, hs, hn, k⟩
  obtain ⟨kvs, f, rfl, h1, _⟩ := id ht
  refine DR.start (δ' := [some (.d (.obj C (tabFs gs rs kvs f))), some (.own (.lst xs)), some (.d (.lst ((cash :: gs).map .str)))] ++ List.replicate 6 none) rfl ?_
  walk_at "dd"
  have h12 : ∀ g ∈ cash :: gs, g.length ≤ 12 := fun g hg => by
    rcases List.mem_cons.mp hg with rfl | hg
    · decide
    · exact (h1.2.2.2 g hg).2.2.1
  have hsl := sum_lens h12
  have hg6 : (cash :: gs).length ≤ 6 := by have := h1.2.2.1; rw [List.length_cons]; omega
  refine ⟨by show _ + (cash :: gs).length * 0 ≤ _; omega, ?_⟩
  walk_at "dd"
  refine ⟨by rw [join0]; exact Nat.le_trans (show _ + 1 ≤ 100 by omega) (by decide), ?_⟩
  walk_at "dd"
  refine ⟨oddL gs, rfl, (by show 9 ≤ sizeLine; decide), _, .inl rfl, ?_⟩
  refine DR.for_inv (fun i δ => ∃ (ys : List D) (q3 q4 q5 q6 q7 q8 : Option DV), Src (n + i) ys ∧ δ = stS (.obj C (tabFs gs rs kvs f)) ys gs [q3, q4, q5, q6, q7, q8]) ⟨xs, _, _, _, _, _, _, hs, rfl⟩ ?stp ?fn
  case fn =>
    rintro δ ⟨ys, q3, q4, q5, q6, q7, q8, hs, rfl⟩
    walk_at "dd"
    exact k ys hs
  case stp =>
  rintro i x δ N2 hx ⟨ys, q3, q4, q5, q6, q7, q8, hs, rfl⟩ kN2
  obtain ⟨ax, kx⟩ := odd_ok h1 x (List.mem_of_getElem? hx)
  have hi : i < 9 := (List.getElem?_eq_some_iff.mp hx).1
  walk_at "dd"
  refine draw hs (by omega) (by rw [List.length_map, List.length_cons]; omega) (by rw [List.length_map]; omega) fun r ys r0 r1 hs => ?_
  rw [List.length_map] at r1
  obtain ⟨r, rfl⟩ := Int.eq_ofNat_of_zero_le r0
  have hr : r < (cash :: gs).length := by omega
  refine ⟨_, rfl, _, _, .inl rfl, atI_map (f := D.str) (List.getElem?_eq_getElem hr), ?_⟩
  have hgm : (cash :: gs)[r] ∈ cash :: gs := List.getElem_mem hr
  generalize (cash :: gs)[r] = g at hgm
  walk_at "dd"
  refine DR.for_inv (fun j δ => ∃ (q6 q7 q8 : Option DV), δ = stS (.obj C (tabFs gs rs kvs f)) ys gs [some (.d x), some (.d (.str g)), some (.d (.str "cash cash")), q6, q7, q8]) ⟨_, _, _, rfl⟩ ?stp2 ?fn2
  case fn2 =>
    rintro δ ⟨q6, q7, q8, rfl⟩
    exact kN2 _ ⟨ys, _, _, _, _, _, _, hs, rfl⟩
  case stp2 =>
  rintro j x' δ N3 hx' ⟨q6, q7, q8, rfl⟩ kN3
  have kf := far_ok h1
  have kg : known (cash :: gs) (.str g) = true := decide_eq_true hgm
  obtain ⟨u, v, z, rfl, au, av, az, hz⟩ : ∃ u v z, x' = D.tup [u, v, z] ∧ Ask u ∧ Ask v ∧ Ask z ∧ ((known (cash :: gs) u = false ∧ z = u) ∨ (known (cash :: gs) u = true ∧ known (cash :: gs) v = false ∧ z = v)) := by
    have := List.mem_of_getElem? hx'
    simp only [List.mem_cons, List.not_mem_nil, or_false] at this
    rcases this with rfl | rfl | rfl | rfl
    · exact ⟨_, _, _, rfl, ax, .str _, ax, .inl ⟨kx, rfl⟩⟩
    · exact ⟨_, _, _, rfl, .str _, ax, ax, .inr ⟨kg, kx, rfl⟩⟩
    · exact ⟨_, _, _, rfl, ax, .str _, ax, .inl ⟨kx, rfl⟩⟩
    · exact ⟨_, _, _, rfl, .str _, ax, .str _, .inl ⟨kf, rfl⟩⟩
  have ez : PyData.eqv z.py z.py = true := eqv_self _ (noDict az.cmp.1)
  walk_at "dd"
  have two : ∀ {Q : DV → List OC → Prop} {E : Ex → List OC → Prop}, Q (.d z) [] → sdMiss C [.d (.obj C (tabFs gs rs kvs f)), .d u, .d v] Q E := fun {Q E} hq => ⟨gs, rs, e, _, u, v, rfl, ht, au, av, by
    rcases hz with ⟨h, rfl⟩ | ⟨h, h2, rfl⟩
    · exact .inl ⟨h, hq⟩
    · exact .inr ⟨h, h2, hq⟩⟩
  refine two ?_
  walk_at "dd"
  refine eqd_f az.cmp az.cmp ez ?_
  walk_at "dd"
  refine two ?_
  walk_at "dd"
  refine eqd_f az.cmp az.cmp ez ?_
  walk_at "dd"
  exact kN3 _ ⟨_, _, _, rfl⟩
end
end KT

set_option Elab.async false
set_option linter.all false
set_option maxRecDepth 100000
set_option maxHeartbeats 0
set_option pp.deepTerms false
set_option pp.deepTerms.threshold 8


namespace KT
open PySem PySem.Spec PyProof.Rows L2 DL
open Dst (IsDist)
theorem val_at : ∀ {kvs : List (List Key × D)}, (kvs.map (·.1)).Nodup → ∀ {p : List Key × D}, p ∈ kvs → valD kvs p.1 = some p.2
  | [], _, _, h => nomatch h
  | q :: kvs, nd, p, h => by
    rw [List.map_cons, List.nodup_cons] at nd
    unfold valD
    rw [List.find?_cons]
    rcases List.mem_cons.mp h with rfl | h
    · rw [decide_eq_true rfl]; rfl
    · have ne : ¬ q.1 = p.1 := fun e => nd.1 (by rw [e]; exact List.mem_map_of_mem h)
      rw [decide_eq_false ne]
      exact val_at nd.2 h
theorem val_key {kvs : List (List Key × D)} {k : List Key} {d : D} (h : valD kvs k = some d) : k ∈ kvs.map (·.1) := by
  unfold valD at h
  obtain ⟨p, hp, _⟩ := Option.map_eq_some_iff.mp h
  have := List.find?_some hp
  exact List.mem_map.mpr ⟨p, List.mem_of_find?_eq_some hp, of_decide_eq_true this⟩
theorem Dct.at_ {ns : List Str} {kvs : List (List Key × D)} {f : Fn} (h : Dct ns kvs f) {p : List Key × D} (hp : p ∈ kvs) : ∃ a b n, a ∈ ns ∧ b ∈ ns ∧ p = (k2 a b, .int n) ∧ f a b = some n := by
  obtain ⟨⟨a, b⟩, hq, e⟩ := List.mem_map.mp (h.keys p hp)
  obtain ⟨ha, hb⟩ := mem_sq.mp hq
  have e1 := val_at h.nd hp
  rw [← e, h.val] at e1
  obtain ⟨n, e2, e3⟩ := Option.map_eq_some_iff.mp e1
  exact ⟨a, b, n, ha, hb, Prod.ext e.symm e3.symm, e2⟩
theorem Dct.sub {ns : List Str} {kvs ls : List (List Key × D)} {f g : Fn} (h1 : Dct ns kvs f) (h2 : Dct ns ls g) (e : ∀ a b, a ∈ ns → b ∈ ns → f a b = g a b) : kvs.length ≤ ls.length := by
  have := Dst.nodup_len (N := List Key) h1.nd (k := ls.map (·.1)) fun k hk => by
    obtain ⟨p, hp, rfl⟩ := List.mem_map.mp hk
    obtain ⟨a, b, n, ha, hb, rfl, e2⟩ := h1.at_ hp
    refine val_key (d := .int n) ?_
    rw [h2.val, ← e a b ha hb, e2]; rfl
  rwa [List.length_map, List.length_map] at this
theorem same_dct {ns : List Str} {kvs ls : List (List Key × D)} {f g : Fn} (h1 : Dct ns kvs f) (h2 : Dct ns ls g) (e : ∀ a b, a ∈ ns → b ∈ ns → f a b = g a b) : SameT kvs ls :=
  ⟨Nat.le_antisymm (h1.sub h2 e) (h2.sub h1 fun a b ha hb => (e a b ha hb).symm), fun p hp => by
    obtain ⟨a, b, n, ha, hb, rfl, e2⟩ := h1.at_ hp
    exact ⟨n, rfl, by rw [h2.val, ← e a b ha hb, e2]; rfl⟩⟩
/-- f at these pairs alone -/
def onD (l : List (Str × Str)) (f : Fn) : Fn := fun a b => if (a, b) ∈ l then f a b else none
theorem onD_nil {f : Fn} : onD [] f = fun _ _ => none := by funext a b; exact if_neg fun h => nomatch h
theorem onD_none {l : List (Str × Str)} {f : Fn} {a b : Str} (e : f a b = none) : onD (l ++ [(a, b)]) f = onD l f := by
  funext x y
  unfold onD
  by_cases h : (x, y) ∈ l
  · rw [if_pos h, if_pos (List.mem_append_left _ h)]
  · rw [if_neg h]
    by_cases h2 : (x, y) = (a, b)
    · cases h2; rw [if_pos (List.mem_append_right _ List.mem_cons_self), e]
    · exact if_neg fun z => (List.mem_append.mp z).elim h fun z => h2 (List.mem_singleton.mp z)
theorem onD_some {l : List (Str × Str)} {f : Fn} {a b : Str} {v : Int} (e : f a b = some v) : onD (l ++ [(a, b)]) f = up2 (onD l f) a b (some v) := by
  funext x y
  unfold onD up2
  by_cases h2 : x = a ∧ y = b
  · rw [if_pos h2, h2.1, h2.2, if_pos (List.mem_append_right _ List.mem_cons_self), e]
  · rw [if_neg h2]
    dsimp only
    by_cases h : (x, y) ∈ l
    · rw [if_pos h, if_pos (List.mem_append_left _ h)]
    · rw [if_neg h]
      exact if_neg fun z => (List.mem_append.mp z).elim h fun z => h2 (by have := List.mem_singleton.mp z; exact ⟨congrArg Prod.fst this, congrArg Prod.snd this⟩)
theorem onD_all {ns : List Str} {f : Fn} {a b : Str} (ha : a ∈ ns) (hb : b ∈ ns) : onD (sq ns) f a b = f a b := if_pos (mem_sq.mpr ⟨ha, hb⟩)
theorem okK_dct {ns : List Str} {kvs : List (List Key × D)} {f : Fn} (h : Dct ns kvs f) (hn : ∀ g ∈ ns, Low g) : ∀ kv ∈ kvs, ∀ k ∈ kv.1, okK k := fun kv hk k hk2 => by
  obtain ⟨a, b, n, ha, hb, rfl, _⟩ := h.at_ hk
  have go : ∀ g ∈ ns, okK (.inr g) := fun g hg => by
    show PyData.strOk g = true
    have hl := hn g hg
    unfold PyData.strOk
    rw [Array.all_eq_true_iff_forall_mem]
    intro c hc
    exact decide_eq_true (Nat.lt_of_le_of_lt (hl c (Array.mem_toList_iff.mpr hc)).2 (by decide))
  have hk2 : k ∈ ([.inr a, .inr b] : List Key) := hk2
  simp only [List.mem_cons, List.not_mem_nil, or_false] at hk2
  rcases hk2 with rfl | rfl
  · exact go _ ha
  · exact go _ hb
/-- what is held, and rows over it -/
structure HG (ns : List Str) (rs : List Row) : Prop where
  nd : ns.Nodup
  len : ns.length ≤ 6
  ne : ns ≠ []
  low : ∀ g ∈ ns, Low g
  rl : rs.length ≤ 200
  row : ∀ r ∈ rs, r.1 ∈ ns ∧ r.2.1 ∈ ns
  nn : ∀ r ∈ rs, 0 ≤ r.2.2
theorem low_names {gs : List Str} (h : Goods gs) : ∀ g ∈ cash :: gs, Low g := fun g hg => by
  rcases List.mem_cons.mp hg with rfl | hg
  · intro c hc
    have e : ∀ c ∈ ("cash" : Str).cps.toList, 97 ≤ c ∧ c ≤ 122 := by decide
    exact e c hc
  · exact (h.2.2.2 g hg).2.2.2
theorem hg_names {gs : List Str} {rs : List Row} (h : Goods gs) (hl : rs.length ≤ 200) (hr : ∀ r ∈ rs, r.1 ∈ cash :: gs ∧ r.2.1 ∈ cash :: gs) (nn : ∀ r ∈ rs, 0 ≤ r.2.2) : HG (cash :: gs) rs :=
  ⟨List.nodup_cons.mpr ⟨fun z => (h.2.2.2 _ z).1 rfl, h.1⟩, by have := h.2.2.1; rw [List.length_cons]; omega, (fun z => nomatch z), low_names h, hl, hr, nn⟩
theorem hg_goods {gs : List Str} {rs : List Row} (h : Goods gs) (hl : rs.length ≤ 200) (hr : ∀ r ∈ rs, r.1 ∈ gs ∧ r.2.1 ∈ gs) (nn : ∀ r ∈ rs, 0 ≤ r.2.2) : HG gs rs :=
  ⟨h.1, Nat.le_trans h.2.2.1 (by decide), (fun z => by have := h.2.1; rw [z] at this; exact absurd this (by decide)), fun g hg => low_names h g (List.mem_cons_of_mem _ hg), hl, hr, nn⟩
end KT

set_option Elab.async false
set_option linter.all false
set_option maxRecDepth 100000
set_option maxHeartbeats 0
set_option pp.deepTerms false
set_option pp.deepTerms.threshold 8


namespace KT
open PySem PySem.Spec PyProof.Rows L2 DL
open Dst (IsDist)
abbrev stU (ys : List D) (gs : List Str) (rs : List Row) (r : List (Option DV)) : DSt := some (.own (.lst ys)) :: some (.d (.lst ((cash :: gs).map .str))) :: some (.d (.lst (rs.map rowD))) :: r
theorem cut_tl {gs : List Str} : DL.cutD (List.map D.str (cash :: gs)) (some 1) none = gs.map D.str := by
  unfold DL.cutD
  rw [HT.sIx_none, show HT.sIx (List.map D.str (cash :: gs)).length 0 (some 1) = 1 from (HT.sIx_nat _ 0 1).trans (Nat.min_eq_left (by rw [List.length_map, List.length_cons]; omega)), List.map_cons, List.drop_succ_cons, List.drop_zero]
  exact List.take_of_length_le (by rw [List.length_cons, List.length_map]; omega)
abbrev stW (ys : List D) (gs : List Str) (rs sm pl : List Row) (ns : List Str) (gv : List Row) (fn : Fn) (due : List (List Key × D)) (r : List (Option DV)) : DSt := stU ys gs rs (some (.d (.lst (sm.map rowD))) :: none :: some (.d (.lst (pl.map rowD))) :: some (.d (.lst (ns.map .str))) :: some (.d (.lst (gv.map rowD))) :: some (.d (.dT (es (sq ns) fn))) :: some (.own (.dT due)) :: r)
theorem fm_filter {p : Row → Prop} [DecidablePred p] : ∀ {rs : List Row}, rs.filterMap (fun r => if p r then some (rowD r) else none) = (rs.filter fun r => decide (p r)).map rowD
  | [] => rfl
  | r :: rs => by
    rw [List.filterMap_cons, List.filter_cons]
    by_cases h : p r
    · simp [h, fm_filter]
    · simp [h, fm_filter]
section
variable {P : Program} {w : World} {K : PySem.W.Frag} {mg : Str → Option Value} {base : Heap} {C OG ME NA : Addr}
def sdSumsR : SpD := fun as Q _ => ∃ (gs : List Str) (rs : List Row) (xs : List D) (n : Nat), as = [.own (.lst xs), .d (.lst ((cash :: gs).map .str)), .d (.lst (rs.map rowD))] ∧ Goods gs ∧ FineRows (cash :: gs) rs ∧ rs.length ≤ 200 ∧ Src n xs ∧ n < 900000000 ∧ ∀ ys m, m ≤ n + 200 → Src m ys → Q (.d (.bl true)) [.lst ys]
abbrev s_law_sums_right : Stmt := top 45
theorem sc_law_sums_right : FnScope ["source", "names", "rows", "some", "row", "plain", "held", "given", "closed", "due", "one", "other", "told", "pair"] ["source", "names", "rows"] (defScope s_law_sums_right) := ⟨rfl, rfl, rfl, by decide +kernel, rfl, by decide +kernel, by decide +kernel⟩
theorem ok_lsums (D_law_draw : DefD P w K mg base "_law_draw" 1 ["source", "many"] sdDraw) (D_law_closed : DefD P w K mg base "_law_closed" 1 ["names", "rows"] sdClosed) (D_closed_sums : DefD P w K mg base "closed_sums" 1 ["assets", "rows"] sdSums) (D_law_is_whole : DefD P w K mg base "_law_is_whole" 1 ["thing"] sdWholeL) {f : Addr} {fd : FuncData} (G : Fun K "_law_sums_right" "_law_sums_right" s_law_sums_right f fd) (T : TxtL K mg C OG ME NA) : FnOk P w K mg base (L2.CX P w) 3 f fd ["source", "names", "rows"] (spOf K sdSumsR) := by
  refine okD G sc_law_sums_right [0] (fun as Q E ⟨gs, rs, xs, n, q, _⟩ => by subst q; exact ⟨rfl, rfl⟩) ⟨_, fun cdv A outer s H E ad F0 H0 hr => (pds_cons (psd_setO (i := 3) (pd_lst (fun h => pe_lst h) pda_nil) (by show ¬ (3 ∈ ([0] : List Nat)); decide) sc_law_sums_right.nd rfl (.inl rfl))
      (pds_cons (psd_for (passes_of rfl) rfl (pid_list (pd_var (pv 2))) (pgd_name (i := 4) (vs := [4]) (pg_name (i := 4) sc_law_sums_right.nd rfl (.inl rfl)) (by show ¬ (4 ∈ ([0] : List Nat)); decide) (by decide))
      (pds_one (psd_if (ptd_cmp op_gt (op2_I0 fun _ _ _ => .bl _) (pd_call D_law_draw.ok (hr.mono (by decide)) (by rfl) D_law_draw.mg D_law_draw.kp D_law_draw.b (takes_of rfl rfl rfl rfl) (pda_own (i := 0) (pv 0) (pda_cons (pd_const pe_int (fun _ => .int _)) pda_nil))) (pd_const pe_int (fun _ => .int _)) (nomark _)) (pds_one (psd_expr (pd_methO (j := 3) (fun ho h => pe_bm PySem.F.plainAttrs_list PySem.F.slot_list_append PySem.F.type_list_append mt_append ho h) mo_append (pv 3) (pda_cons (pd_var (pv 4)) pda_nil)))) pds_nil)))
      (pds_cons (psd_setLc (i := 5) (o := false) (own := [("row", 4)]) (by show ¬ (5 ∈ ([0] : List Nat)); decide) (by rfl) sc_law_sums_right.nd rfl rfl (sw_true rfl rfl rfl (by decide +kernel)) (pid_list (pd_var (pv 2))) (blkOk_by (own := [("row", 4)]) (N := ["source", "names", "rows", "some", "row", "plain", "held", "given", "closed", "due", "one", "other", "told", "pair"]) (sc := defScope s_law_sums_right) (by decide +kernel)) (fun _ _ _ _ _ => (pgd_name (i := 4) (vs := [4]) (pg_name (i := 4) sc_law_sums_right.nd rfl (.inl rfl)) (by show ¬ (4 ∈ ([0] : List Nat)); decide) (by decide))) (fun _ _ _ _ _ => (ptsd_one (PW.pt (pwd_and (ptd_cmp op_ne op2_ne.op (pd_ix ix_tup op2_ixT (pd_var (pv 4)) (pd_const pe_int (fun _ => .int _)) (fun _ _ => rfl)) (pd_const pe_str (fun _ => .str (by decide +kernel))) (nomark _)) (pwd_and1 (ptd_cmp op_ne op2_ne.op (pd_ix ix_tup op2_ixT (pd_var (pv 4)) (pd_const pe_int (fun _ => .int _)) (fun _ _ => rfl)) (pd_const pe_str (fun _ => .str (by decide +kernel))) (nomark _))))))) (fun _ _ _ _ _ => (pd_var (pv 4))) (by show ∀ i ∈ ([4] : List Nat), ¬ (i ∈ ([0] : List Nat)); decide))
      (pds_cons (psd_for (passes_of rfl) rfl (pid_list (pd_lst (fun h => pe_lst h) (pda_cons (pd_tup (fun h => pe_tup h) (pda_cons (pd_var (pv 1)) (pda_cons (pd_var (pv 2)) pda_nil))) (pda_cons (pd_tup (fun h => pe_tup h) (pda_cons (pd_var (pv 1)) (pda_cons (pd_fvar (i := 3) (pv 3) (by show ¬ (3 ∈ ([0] : List Nat)); decide)) pda_nil))) (pda_cons (pd_tup (fun h => pe_tup h) (pda_cons (pd_var (pv 1)) (pda_cons (pd_lst (fun h => pe_lst h) pda_nil) pda_nil))) (pda_cons (pd_tup (fun h => pe_tup h) (pda_cons (pd_slice (pd_var (pv 1)) (pod_some (pd_const pe_int (fun _ => .int _))) pod_none) (pda_cons (pd_var (pv 5)) pda_nil))) (pda_cons (pd_tup (fun h => pe_tup h) (pda_cons (pd_slice (pd_var (pv 1)) (pod_some (pd_const pe_int (fun _ => .int _))) pod_none) (pda_cons (pd_lst (fun h => pe_lst h) pda_nil) pda_nil))) pda_nil))))))) (pgd_tup (is := [6, 7]) (vs := [6, 7]) (pg_tup rfl (pgs_cons (pg_name (i := 6) sc_law_sums_right.nd rfl (.inl rfl)) (pgs_cons (pg_name (i := 7) sc_law_sums_right.nd rfl (.inl rfl)) pgs_nil))) rfl (by show ∀ i ∈ ([6, 7] : List Nat), ¬ (i ∈ ([0] : List Nat)) ∧ i ∈ ([6, 7] : List Nat); decide))
      (pds_cons (psd_par (i := 8) (j := 9) (oi := false) (oj := true) (pka_cons (pd_call D_law_closed.ok (hr.mono (by decide)) (by rfl) D_law_closed.mg D_law_closed.kp D_law_closed.b (takes_of rfl rfl rfl rfl) (pda_cons (pd_var (pv 6)) (pda_cons (pd_var (pv 7)) pda_nil))) (pka_cons (pd_newT pe_dnewT) pka_nil)) (by show ¬ (8 ∈ ([0] : List Nat)); decide) (by show ¬ (9 ∈ ([0] : List Nat)); decide) (fun h => ps_par (i := 8) (j := 9) (by rfl) sc_law_sums_right.nd rfl rfl (by decide) rfl rfl h (by rfl)) (by decide))
      (pds_cons (psd_for (passes_of rfl) rfl (pid_list (pd_var (pv 6))) (pgd_name (i := 10) (vs := [10]) (pg_name (i := 10) sc_law_sums_right.nd rfl (.inl rfl)) (by show ¬ (10 ∈ ([0] : List Nat)); decide) (by decide))
      (pds_one (psd_for (passes_of rfl) rfl (pid_list (pd_var (pv 6))) (pgd_name (i := 11) (vs := [11]) (pg_name (i := 11) sc_law_sums_right.nd rfl (.inl rfl)) (by show ¬ (11 ∈ ([0] : List Nat)); decide) (by decide))
      (pds_one (psd_if (ptd_cmp op_notN op2_notN.op (pd_get (fun ho hi => pe_dget (hu_of hr) ho hi (fun _ _ => rfl)) (pd_var (pv 8)) (pd_tup (fun h => pe_tup h) (pda_cons (pd_var (pv 10)) (pda_cons (pd_var (pv 11)) pda_nil)))) (pd_const pe_non (fun _ => .non)) (nomark _)) (pds_one (psd_put (j := 9) (hu_of hr) (fun ho hi hv => ps_dput (hu_of hr) ho hi hv (by rfl)) (pv 9) (pd_get (fun ho hi => pe_dget (hu_of hr) ho hi (fun _ _ => rfl)) (pd_var (pv 8)) (pd_tup (fun h => pe_tup h) (pda_cons (pd_var (pv 10)) (pda_cons (pd_var (pv 11)) pda_nil)))) (pd_tup (fun h => pe_tup h) (pda_cons (pd_var (pv 10)) (pda_cons (pd_var (pv 11)) pda_nil))))) pds_nil)))))
      (pds_cons (psd_setO (i := 12) (pd_call D_closed_sums.ok (hr.mono (by decide)) (by rfl) D_closed_sums.mg D_closed_sums.kp D_closed_sums.b (takes_of rfl rfl rfl rfl) (pda_cons (pd_builtB (fun h => pe_callTy call_tuple_of (by rfl) T.b_tuple (by decide +kernel) h) cn_tuple (pda_cons (pd_var (pv 6)) pda_nil)) (pda_cons (pd_builtB (fun h => pe_callTy call_list_of (by rfl) T.b_list (by decide +kernel) h) cn_list (pda_cons (pd_var (pv 7)) pda_nil)) pda_nil))) (by show ¬ (12 ∈ ([0] : List Nat)); decide) sc_law_sums_right.nd rfl (.inr rfl))
      (pds_cons (psd_if (PW.pt (pwd_or (ptd_neTO (i := 12) (j := 9) (Nat.lt_of_le_of_lt (Nat.add_le_add_left (by decide) _) hr.units) (pv 12) (pv 9)) (pwd_or1 (ptd_not (ptd_val (pd_builtB (fun h => pe_callB (cr_all rfl) (by rfl) T.b_all (by decide +kernel) h) cn_all.op (pda_cons (pd_lockOT (j := 12) (fun F0 H0 => (pd_lc (own := [("pair", 13)]) (by rfl) sc_law_sums_right.nd (pid_lkt (pd_var (pv 12))) (blkOk_by (own := [("pair", 13)]) (N := ["source", "names", "rows", "some", "row", "plain", "held", "given", "closed", "due", "one", "other", "told", "pair"]) (sc := defScope s_law_sums_right) (by decide +kernel)) (fun _ _ _ _ _ => (pgd_name (i := 13) (vs := [13]) (pg_name (i := 13) sc_law_sums_right.nd rfl (.inl rfl)) (by show ¬ (13 ∈ ([] : List Nat)); decide) (by decide))) (fun _ _ _ _ _ => ptsd_nil) (fun _ _ _ _ _ => (pd_call D_law_is_whole.ok (hr.mono (by decide)) (by rfl) D_law_is_whole.mg D_law_is_whole.kp D_law_is_whole.b takes0 (pda_cons (pd_get (fun ho hi => pe_dget (hu_of hr) ho hi (fun _ _ => rfl)) (pd_asT (pd_var (pv 12))) (pd_var (pv 13))) pda_nil))) (by show ∀ i ∈ ([13] : List Nat), ¬ (i ∈ ([] : List Nat)); decide)))) pda_nil)) (fun h => pt_val h)))))) (pds_one (psd_ret (pd_const pe_bl (fun _ => .bl _)))) pds_nil)
      (pds_cons (psd_put (j := 12) (hu_of hr) (fun ho hi hv => ps_dput (hu_of hr) ho hi hv (by rfl)) (pv 12) (pd_const pe_int (fun _ => .int _)) (pd_tup (fun h => pe_tup h) (pda_cons (pd_ix ix_list op2_ixL (pd_var (pv 6)) (pd_const pe_int (fun _ => .int _)) (fun _ _ => rfl)) (pda_cons (pd_ix ix_list op2_ixL (pd_var (pv 6)) (pd_const pe_int (fun _ => .int _)) (fun _ _ => rfl)) pda_nil))))
      (pds_one (psd_if (ptd_neTE (j := 9) (Nat.lt_of_le_of_lt (Nat.add_le_add_left (by decide) _) hr.units) (pd_call D_closed_sums.ok (hr.mono (by decide)) (by rfl) D_closed_sums.mg D_closed_sums.kp D_closed_sums.b (takes_of rfl rfl rfl rfl) (pda_cons (pd_builtB (fun h => pe_callTy call_tuple_of (by rfl) T.b_tuple (by decide +kernel) h) cn_tuple (pda_cons (pd_var (pv 6)) pda_nil)) (pda_cons (pd_builtB (fun h => pe_callTy call_tuple_of (by rfl) T.b_tuple (by decide +kernel) h) cn_tuple (pda_cons (pd_var (pv 7)) pda_nil)) pda_nil))) (pv 9)) (pds_one (psd_ret (pd_const pe_bl (fun _ => .bl _)))) pds_nil))))))))
      (pds_one (psd_ret (pd_const pe_bl (fun _ => .bl _)))))))), ?_⟩
  rintro as Qd Ed ⟨gs, rs, xs, n, rfl, hg, hr, hl, hs, hn, k⟩
  refine DR.start (δ' := stU xs gs rs (List.replicate 11 none)) rfl ?_
  with_reducible refine DR.cut (fun δ => δ = stU xs gs rs (some (.own (.lst [])) :: List.replicate 10 none)) (fun N kN => by walk_at "dd"; exact kN _ rfl) ?_
  rintro δ rfl
  with_reducible refine DR.cut (fun δ => ∃ (ys : List D) (sm : List Row) (q4 : Option DV) (m : Nat), m ≤ n + 200 ∧ Src m ys ∧ (∀ r ∈ sm, r ∈ rs) ∧ sm.length ≤ 200 ∧ δ = stU ys gs rs (some (.own (.lst (sm.map rowD))) :: q4 :: List.replicate 9 none)) (fun N kN => ?_) ?_
  · walk_at "dd"
    refine DR.for_inv (fun i δ => ∃ (ys : List D) (sm : List Row) (q4 : Option DV), Src (n + i) ys ∧ (∀ r ∈ sm, r ∈ rs) ∧ sm.length ≤ i ∧ δ = stU ys gs rs (some (.own (.lst (sm.map rowD))) :: q4 :: List.replicate 9 none)) ⟨xs, [], _, hs, (fun r h => nomatch h), Nat.le_refl _, rfl⟩ ?stp ?fn
    case fn =>
      rintro δ ⟨ys, sm, q4, h1, h2, h3, rfl⟩
      rw [List.length_map] at h1 h3
      exact kN _ ⟨ys, sm, q4, _, by omega, h1, h2, by omega, rfl⟩
    case stp =>
    rintro i x δ N2 hx ⟨ys, sm, q4, h1, h2, h3, rfl⟩ kN2
    obtain ⟨r, hri, rfl⟩ := DR.map_at hx
    have hi := DR.at_lt hri
    walk_at "dd"
    refine draw h1 (by omega) (by decide) (by decide) fun z ys z0 z1 h1 => ?_
    walk_at "dd"
    refine DR.split (fun c => ?_) (fun c => ?_)
    · walk_at "dd"
      refine ⟨[_], _, rfl, rfl, _, rfl, by rw [List.length_map]; exact Nat.lt_of_le_of_lt (show _ ≤ 200 by omega) (by decide), ?_⟩
      exact kN2 _ ⟨ys, sm ++ [r], _, h1, fun q hq => (List.mem_append.mp hq).elim (h2 q) fun hq => by rw [List.mem_singleton.mp hq]; exact List.mem_of_getElem? hri, by rw [List.length_append]; exact Nat.succ_le_succ h3, by rw [List.map_append]; rfl⟩
    · walk_at "dd"
      exact kN2 _ ⟨ys, sm, _, h1, h2, by omega, rfl⟩
  rintro δ ⟨ys, sm, q4, m, hm, hs, hsm, hsl, rfl⟩
  with_reducible refine DR.cut (fun δ => ∃ (pl : List Row), (∀ r ∈ pl, r ∈ rs ∧ r.1 ≠ cash ∧ r.2.1 ≠ cash) ∧ pl.length ≤ 200 ∧ δ = stU ys gs rs (some (.own (.lst (sm.map rowD))) :: none :: some (.d (.lst (pl.map rowD))) :: List.replicate 8 none)) (fun N kN => ?_) ?_
  · walk_at "dd"
    refine DR.lc_filterM (l := rs) (r := rowD) (fun r => if r.1 ≠ cash ∧ r.2.1 ≠ cash then some (rowD r) else none) (fun r acc N hr hl2 kN => ?_) ?_
    · obtain ⟨a, b, m⟩ := r
      walk_at "dd"
      refine DR.splitN (fun c => ?_) (fun c => ?_)
      · walk_at "dd"
        rw [if_neg (fun z => z.1 c), Option.toList_none, List.append_nil] at kN
        exact kN
      · walk_at "dd"
        refine DR.splitN (fun c2 => ?_) (fun c2 => ?_)
        · walk_at "dd"
          rw [if_neg (fun z => z.2 c2), Option.toList_none, List.append_nil] at kN
          exact kN
        · walk_at "dd"
          rw [if_pos ⟨c, c2⟩] at kN
          exact ⟨Nat.lt_of_lt_of_le hl2 (Nat.le_trans hl (by decide)), kN⟩
    · walk_at "dd"
      rw [fm_filter]
      refine kN _ ⟨rs.filter _, fun r hr => ?_, Nat.le_trans (List.length_filter_le ..) hl, rfl⟩
      obtain ⟨h1, h2⟩ := List.mem_filter.mp hr
      exact ⟨h1, of_decide_eq_true h2⟩
  rintro δ ⟨pl, hpl, hpl2, rfl⟩
  walk_at "dd"
  rw [cut_tl]
  refine ⟨by show 5 ≤ sizeLine; decide, _, .inl rfl, ?_⟩
  refine DR.for_inv (fun i δ => ∃ q6 q7 q8 q9 q10 q11 q12 q13 : Option DV, δ = stU ys gs rs [some (.d (.lst (sm.map rowD))), none, some (.d (.lst (pl.map rowD))), q6, q7, q8, q9, q10, q11, q12, q13]) ⟨_, _, _, _, _, _, _, _, rfl⟩ ?stp2 ?fn2
  case fn2 =>
    rintro δ ⟨q6, q7, q8, q9, q10, q11, q12, q13, rfl⟩
    walk_at "dd"
    exact k ys m hm hs
  case stp2 =>
  rintro i x δ N2 hx ⟨q6, q7, q8, q9, q10, q11, q12, q13, rfl⟩ kN2
  obtain ⟨ns, gv, rfl, hn⟩ : ∃ ns gv, x = D.tup [.lst (ns.map .str), .lst (gv.map rowD)] ∧ HG ns gv := by
    have := List.mem_of_getElem? hx
    simp only [List.mem_cons, List.not_mem_nil, or_false] at this
    rcases this with rfl | rfl | rfl | rfl | rfl
    · exact ⟨cash :: gs, rs, rfl, hg_names hg hl (fun r h => ⟨(hr.row r h).1, (hr.row r h).2.1⟩) fun r h => (hr.row r h).2.2.2⟩
    · exact ⟨cash :: gs, sm, rfl, hg_names hg hsl (fun r h => ⟨(hr.row r (hsm r h)).1, (hr.row r (hsm r h)).2.1⟩) fun r h => (hr.row r (hsm r h)).2.2.2⟩
    · exact ⟨cash :: gs, [], rfl, hg_names hg (by decide) (fun r h => nomatch h) fun r h => nomatch h⟩
    · exact ⟨gs, pl, rfl, hg_goods hg hpl2 (fun r h => ⟨(List.mem_cons.mp (hr.row r (hpl r h).1).1).resolve_left (hpl r h).2.1, (List.mem_cons.mp (hr.row r (hpl r h).1).2.1).resolve_left (hpl r h).2.2⟩) fun r h => (hr.row r (hpl r h).1).2.2.2⟩
    · exact ⟨gs, [], rfl, hg_goods hg (by decide) (fun r h => nomatch h) fun r h => nomatch h⟩
  clear hx
  walk_at "dd"
  refine ⟨ns, gv, rfl, hn.nd, Nat.le_trans hn.len (by decide), hn.row, hn.nn, fun fn hf => ?_⟩
  repeat ((fail_if_success (with_reducible apply DR.cut)); walk_at "dd1")
  refine DR.start (δ' := stW ys gs rs sm pl ns gv fn [] [q10, q11, q12, q13]) rfl ?_
  with_reducible refine DR.cut (fun δ => ∃ (due : List (List Key × D)) (q10 q11 : Option DV), Dct ns due (onD (sq ns) fn) ∧ δ = stW ys gs rs sm pl ns gv fn due [q10, q11, q12, q13]) (fun N kN => ?_) ?_
  · walk_at "dd"
    refine DR.for_inv (fun i δ => ∃ (due : List (List Key × D)) (q10 q11 : Option DV), Dct ns due (onD (sq2 ns i) fn) ∧ δ = stW ys gs rs sm pl ns gv fn due [q10, q11, q12, q13]) ⟨[], _, _, by rw [show sq2 ns 0 = [] from rfl, onD_nil]; exact Dct.nil, rfl⟩ ?stp3 ?fn3
    case fn3 =>
      rintro δ ⟨due, q10, q11, hd, rfl⟩
      rw [List.length_map, sq2_all] at hd
      exact kN _ ⟨due, _, _, hd, rfl⟩
    case stp3 =>
    rintro i x δ N3 hx ⟨due, q10, q11, hd, rfl⟩ kN3
    obtain ⟨a, hai, rfl⟩ := DR.map_at hx
    have ha := List.mem_of_getElem? hai
    walk_at "dd"
    refine DR.for_inv (fun j δ => ∃ (due : List (List Key × D)) (q11 : Option DV), Dct ns due (onD (sq2 ns i ++ (ns.take j).map fun y => (a, y)) fn) ∧ δ = stW ys gs rs sm pl ns gv fn due [some (.d (.str a)), q11, q12, q13]) ⟨due, _, by rw [List.take_zero, List.map_nil, List.append_nil]; exact hd, rfl⟩ ?stp4 ?fn4
    case fn4 =>
      rintro δ ⟨due, q11, hd, rfl⟩
      rw [List.length_map, sq2_row hai] at hd
      exact kN3 _ ⟨due, _, _, hd, rfl⟩
    case stp4 =>
    rintro j x δ N4 hx ⟨due, q11, hd, rfl⟩ kN4
    obtain ⟨b, hbj, rfl⟩ := DR.map_at hx
    have hb := List.mem_of_getElem? hbj
    have hd2 : ∀ due2, Dct ns due2 (onD (sq2 ns i ++ (ns.take j).map (fun y => (a, y)) ++ [(a, b)]) fn) → N4 (stW ys gs rs sm pl ns gv fn due2 [some (.d (.str a)), some (.d (.str b)), q12, q13]) := fun due2 h2 => by
      refine kN4 _ ⟨due2, _, ?_, rfl⟩
      rw [List.take_succ, hbj, List.map_append, ← List.append_assoc]
      exact h2
    walk_at "dd"
    have hve : valD (es (sq ns) fn) (k2 a b) = some (optD (fn a b)) := val_es (mem_sq.mpr ⟨ha, hb⟩)
    refine ⟨_, k2 a b, optD (fn a b), rfl, rfl, hve, ?_⟩
    walk_at "dd"
    cases e : fn a b with
    | none =>
      refine ⟨true, rfl, ⟨fun _ => rfl, fun _ => rfl⟩, ?_⟩
      walk_at "dd"
      exact hd2 due (by rw [onD_none e]; exact hd)
    | some v =>
      rw [e] at hve
      refine ⟨false, rfl, ⟨(fun z => nomatch z), (fun z => nomatch z)⟩, ?_⟩
      walk_at "dd"
      refine ⟨_, k2 a b, .int v, rfl, rfl, hve, ?_⟩
      walk_at "dd"
      refine ⟨_, k2 a b, rfl, rfl, Nat.lt_of_le_of_lt hd.len (Nat.lt_of_le_of_lt (Nat.mul_le_mul hn.len hn.len) (by decide)), ?_⟩
      exact hd2 _ (by rw [onD_some e]; exact hd.put ha hb)
  rintro δ ⟨due, q10, q11, hd, rfl⟩
  have hnl : ns.length ≤ 10 := Nat.le_trans hn.len (by decide)
  have hsum : ∀ kvs f, Dct ns kvs f → IsDist ns gv f → SameT kvs due := fun kvs f h1 h2 => same_dct h1 hd fun a b ha hb => by rw [onD_all ha hb]; exact h2.unique hf ha hb
  with_reducible refine DR.cut (fun δ => ∃ (kvs : List (List Key × D)) (f : Fn), Dct ns kvs f ∧ SameT kvs due ∧ δ = stW ys gs rs sm pl ns gv fn due [q10, q11, some (.own (.dT kvs)), q13]) (fun N kN => ?_) ?_
  · walk_at "dd"
    refine ⟨_, _, rfl, .inl rfl, ?_⟩
    walk_at "dd"
    refine ⟨ns, gv, _, rfl, .inl rfl, hnl, hn.row, hn.nn, fun kvs f h1 h2 => ?_⟩
    exact kN _ ⟨kvs, f, h1, hsum kvs f h1 h2, rfl⟩
  rintro δ ⟨kvs, f, hk, hsame, rfl⟩
  with_reducible refine DR.cut (fun δ => δ = stW ys gs rs sm pl ns gv fn due [q10, q11, some (.own (.dT kvs)), q13]) (fun N kN => ?_) ?_
  · walk_at "dd"
    refine DR.neTO rfl rfl hsame ?_
    walk_at "dd"
    refine DR.lockOT rfl fun p od vs => ?_
    walk_at "dd"
    refine DR.lkTI ?_
    walk_at "dd"
    refine ⟨p, od, vs, kvs, rfl, okK_dct hk hn.low, ?_⟩
    have hkl : kvs.length < sizeLine := Nat.lt_of_le_of_lt hk.len (Nat.lt_of_le_of_lt (Nat.mul_le_mul hn.len hn.len) (by decide))
    unfold keysTD
    refine DR.lc_mapM (l := kvs) (r := fun kv => keyD kv.1) (fun _ => D.bl true) (fun kv acc N hkv hl2 kN => ?_) ?_
    · obtain ⟨a, b, v, ha, hb, rfl, e⟩ := hk.at_ hkv
      walk_at "dd"
      refine DR.asT ?_
      walk_at "dd"
      refine ⟨p, od, vs, kvs, rfl, ?_⟩
      walk_at "dd"
      refine ⟨kvs, k2 a b, .int v, rfl, rfl, val_at hk.nd hkv, ?_⟩
      walk_at "dd"
      refine ⟨v, rfl, ?_⟩
      walk_at "dd"
      exact ⟨Nat.lt_trans hl2 hkl, kN⟩
    refine ⟨fun d hd => by obtain ⟨_, _, rfl⟩ := List.mem_map.mp hd; trivial, ?_⟩
    walk_at "dd"
    refine ⟨kvs.map fun _ => true, .inl (by rw [List.map_map]; rfl), ?_⟩
    have ea : (kvs.map fun _ => true).all id = true := by simp
    dsimp only
    rw [ea]
    walk_at "dd"
    exact kN _ rfl
  rintro δ rfl
  obtain ⟨a0, nt, en⟩ : ∃ a0 nt, ns = a0 :: nt := by
    cases e : ns with
    | nil => exact absurd e hn.ne
    | cons a0 nt => exact ⟨_, _, rfl⟩
  have hat : atI (ns.map D.str) 0 = some (.str a0) := by rw [en]; exact atI_map (i := 0) rfl
  have hkl : kvs.length < sizeLine := Nat.lt_of_le_of_lt hk.len (Nat.lt_of_le_of_lt (Nat.mul_le_mul hn.len hn.len) (by decide))
  walk_at "dd"
  refine ⟨_, _, .inl rfl, hat, ?_⟩
  walk_at "dd"
  refine ⟨_, _, .inl rfl, hat, ?_⟩
  walk_at "dd"
  refine ⟨_, k2 a0 a0, rfl, rfl, hkl, ?_⟩
  walk_at "dd"
  refine DR.neTE ?_
  walk_at "dd"
  refine ⟨_, _, rfl, .inl rfl, ?_⟩
  walk_at "dd"
  refine ⟨_, _, rfl, .inl rfl, ?_⟩
  walk_at "dd"
  refine ⟨ns, gv, _, rfl, .inr (.inr rfl), hnl, hn.row, hn.nn, fun kvs2 f2 h1 h2 => ?_⟩
  refine ⟨kvs2, due, rfl, rfl, hsum kvs2 f2 h1 h2, ?_⟩
  walk_at "dd"
  exact kN2 _ ⟨_, _, _, _, _, _, _, _, rfl⟩
end
end KT

set_option Elab.async false
set_option linter.all false
set_option maxRecDepth 100000
namespace KT
open PySem PySem.Spec PyProof.Rows L2 DL
open Dst (IsDist Walk Path)
theorem Ent.mem {ns : List Str} {rs rs' : List Row} {e : En} (h : Ent ns rs e) (m : ∀ r, r ∈ rs ↔ r ∈ rs') : Ent ns rs' e :=
  ⟨fun a b ha hb => let ⟨n, w⟩ := h.at_ a b ha hb; ⟨n, w.mono fun r hr => (m r).mp hr⟩, fun a b n s ha hb w => h.low a b n s ha hb (w.mono fun r hr => (m r).mpr hr)⟩
theorem FineRows.perm {ns : List Str} {rs rs' : List Row} (h : FineRows ns rs) (p : rs'.Perm rs) : FineRows ns rs' :=
  ⟨fun r hr => h.row r (p.mem_iff.mp hr), ((p.map ends).nodup_iff).mpr h.nd, fun a b ha hb => let ⟨n, s, w⟩ := h.all a b ha hb; ⟨n, s, w.mono fun r hr => p.mem_iff.mpr hr⟩⟩
theorem FineRows.names {ns ns' : List Str} {rs : List Row} (h : FineRows ns rs) (m : ∀ x, x ∈ ns' ↔ x ∈ ns) : FineRows ns' rs :=
  ⟨fun r hr => ⟨(m _).mpr (h.row r hr).1, (m _).mpr (h.row r hr).2.1, (h.row r hr).2.2⟩, h.nd, fun a b ha hb => h.all a b ((m a).mp ha) ((m b).mp hb)⟩
theorem walk_le {rs : List Row} {M : Int} (h0 : 0 ≤ M) (hm : ∀ r ∈ rs, r.2.2 ≤ M) {n : Nat} {a b : Str} {s : Int} (w : Walk rs n a b s) : s ≤ n * M := by
  induction w with
  | nil => exact Int.mul_nonneg (Int.natCast_nonneg _) h0
  | @cons n a c b m s h t ih =>
    have h1 : m ≤ M := hm _ h
    rw [Int.natCast_add, Int.add_mul, Int.natCast_one, Int.one_mul]
    omega
theorem GoodRows.ent_le {ns : List Str} {rs : List Row} {e : En} (h : GoodRows ns rs) (t : Ent ns rs e) (hl : ns.length ≤ 6) {a b : Str} (ha : a ∈ ns) (hb : b ∈ ns) : e a b ≤ 5000000000000 := by
  obtain ⟨n, s, w⟩ := h.all a b ha hb
  have nn : ∀ r ∈ rs, 0 ≤ r.2.2 := fun r hr => (h.row r hr).2.2.2.1
  obtain ⟨p, s', h1, h2, h3, h4⟩ := w.path nn
  have hlen := Dst.nodup_len h4 (h1.mem (ns := ns) (fun r hr => ⟨(h.row r hr).1, (h.row r hr).2.1⟩) rfl ha)
  rw [List.length_cons] at hlen
  have w2 := h1.walk rfl h3
  have h5 := walk_le (M := 1000000000000) (by decide) (fun r hr => (h.row r hr).2.2.2.2) w2
  have h6 := t.low a b _ _ ha hb w2
  have h7 : (p.length : Int) * 1000000000000 ≤ 5 * 1000000000000 := Int.mul_le_mul_of_nonneg_right (by omega) (by decide)
  omega
/-! one entry higher by one -/
def hi (e : En) (p : Str × Str) : En := fun a b => e a b + if (a, b) = p then 1 else 0
theorem hi_nn {ns : List Str} {e : En} {p : Str × Str} (m : Met ns e) : ∀ a b, a ∈ ns → b ∈ ns → 0 ≤ hi e p a b := fun a b ha hb => by
  have := m.nn a b ha hb
  unfold hi
  split <;> omega
theorem hi_le {e : En} {p : Str × Str} {a b : Str} (h : e a b ≤ 5000000000000) : hi e p a b ≤ 6000000000000 := by
  unfold hi
  split <;> omega
theorem entRows_eq {ns : List Str} {e f : En} : entRows ns e = entRows ns f ↔ ∀ q ∈ prs ns, e q.1 q.2 = f q.1 q.2 := by
  constructor
  · intro h q hq
    have := List.map_inj_left.mp h q hq
    exact congrArg (fun z : Row => z.2.2) this
  · intro h
    exact List.map_congr_left fun q hq => by rw [h q hq]
theorem filter_ne_len {ns : List Str} {a : Str} (nd : ns.Nodup) (h : a ∈ ns) : (ns.filter fun b => decide (b ≠ a)).length = ns.length - 1 := by
  have e : (ns.filter fun b => decide (b ≠ a)) = ns.erase a := by
    rw [nd.erase_eq_filter]
    refine List.filter_congr fun b _ => ?_
    by_cases q : b = a <;> simp [q]
  rw [e, List.length_erase_of_mem h]
theorem flat_prs {ns : List Str} (nd : ns.Nodup) : ∀ {l : List Str}, (∀ a ∈ l, a ∈ ns) → (l.flatMap (prRow ns)).length = l.length * (ns.length - 1)
  | [], _ => by rw [List.flatMap_nil, List.length_nil, List.length_nil, Nat.zero_mul]
  | a :: l, h => by
    rw [List.flatMap_cons, List.length_append, flat_prs nd fun b hb => h b (List.mem_cons_of_mem _ hb), List.length_cons, Nat.add_mul, Nat.one_mul]
    unfold prRow
    rw [List.length_map, filter_ne_len nd (h a List.mem_cons_self), Nat.add_comm]
theorem prs_len_eq {ns : List Str} (nd : ns.Nodup) : (prs ns).length = ns.length * (ns.length - 1) := flat_prs nd fun _ h => h
/-! a name that is none of the goods -/
def six : List Str := ["za", "zb", "zc", "zd", "ze", "zf"]
theorem six_nd : six.Nodup := by decide
theorem six_nm : ∀ g ∈ six, Nm g := by
  intro g hg
  simp only [six, List.mem_cons, List.not_mem_nil, or_false] at hg
  rcases hg with rfl | rfl | rfl | rfl | rfl | rfl <;> exact ⟨by decide, by decide, by decide, by decide⟩
theorem six_free {gs : List Str} (h : gs.length ≤ 5) : ∃ x t, (six.filter fun g => decide (g ∉ gs)) = x :: t ∧ x ∈ six ∧ x ∉ gs := by
  cases e : six.filter fun g => decide (g ∉ gs) with
  | nil =>
    have := Dst.nodup_len six_nd (k := gs) fun a ha => by
      by_cases hg : a ∈ gs
      · exact hg
      · have : a ∈ six.filter fun g => decide (g ∉ gs) := List.mem_filter.mpr ⟨ha, decide_eq_true hg⟩
        rw [e] at this
        exact nomatch this
    exact absurd (Nat.le_trans this h) (by decide)
  | cons x t =>
    have : x ∈ six.filter fun g => decide (g ∉ gs) := by rw [e]; exact List.mem_cons_self
    obtain ⟨h1, h2⟩ := List.mem_filter.mp this
    exact ⟨x, t, rfl, h1, of_decide_eq_true h2⟩
/-! the last of the goods renamed -/
def ren (last fresh x : Str) : Str := if x = last then fresh else x
def renR (last fresh : Str) (r : Row) : Row := (ren last fresh r.1, ren last fresh r.2.1, r.2.2)
theorem ren_inj {last fresh x y : Str} (hx : x ≠ fresh) (hy : y ≠ fresh) (h : ren last fresh x = ren last fresh y) : x = y := by
  unfold ren at h
  split at h <;> split at h
  · rename_i a b; rw [a, b]
  · exact absurd h.symm hy
  · exact absurd h hx
  · exact h
theorem walk_ren {last fresh : Str} {rs : List Row} {n : Nat} {a b : Str} {s : Int} (w : Walk rs n a b s) : Walk (rs.map (renR last fresh)) n (ren last fresh a) (ren last fresh b) s := by
  induction w with
  | nil => exact .nil
  | cons h t ih => exact .cons (List.mem_map_of_mem (f := renR last fresh) h) ih
theorem nodup_mapOn {α β : Type} {f : α → β} : ∀ {l : List α}, (∀ x ∈ l, ∀ y ∈ l, f x = f y → x = y) → l.Nodup → (l.map f).Nodup
  | [], _, _ => .nil
  | a :: l, hi, h => by
    rw [List.nodup_cons] at h
    rw [List.map_cons, List.nodup_cons]
    refine ⟨fun z => ?_, nodup_mapOn (fun x hx y hy => hi x (List.mem_cons_of_mem _ hx) y (List.mem_cons_of_mem _ hy)) h.2⟩
    obtain ⟨y, hy, e⟩ := List.mem_map.mp z
    have := hi a List.mem_cons_self y (List.mem_cons_of_mem _ hy) e.symm
    rw [this] at h
    exact h.1 hy
/-- the goods with another last one -/
def reG (init : List Str) (fresh : Str) : List Str := init ++ [fresh]
theorem reG_goods {init : List Str} {last fresh : Str} (h : Goods (init ++ [last])) (nf : fresh ∉ init ++ [last]) (nm : Nm fresh) : Goods (reG init fresh) := by
  obtain ⟨h1, h2, h3, h4⟩ := h
  have h1' := List.nodup_append.mp h1
  refine ⟨List.nodup_append.mpr ⟨h1'.1, List.nodup_cons.mpr ⟨(fun z => nomatch z), .nil⟩, fun a ha b hb e => nf ?_⟩, ?_, ?_, fun g hg => ?_⟩
  · rw [List.mem_singleton.mp hb] at e
    rw [← e]
    exact List.mem_append_left _ ha
  · unfold reG; rw [List.length_append] at h2 ⊢; exact h2
  · unfold reG; rw [List.length_append] at h3 ⊢; exact h3
  · rcases List.mem_append.mp hg with hg | hg
    · exact h4 g (List.mem_append_left _ hg)
    · rw [List.mem_singleton.mp hg]; exact nm
theorem ren_rows {init : List Str} {last fresh : Str} {rs : List Row} (h : Goods (init ++ [last])) (nf : fresh ∉ init ++ [last]) (nm : Nm fresh) (hr : FineRows (cash :: (init ++ [last])) rs) : FineRows (cash :: reG init fresh) (rs.map (renR last fresh)) := by
  have nfc : ∀ x ∈ cash :: (init ++ [last]), x ≠ fresh := fun x hx e => by
    rcases List.mem_cons.mp hx with rfl | hx
    · exact nm.1 e.symm
    · rw [e] at hx; exact nf hx
  have hl : last ∈ init ++ [last] := List.mem_append_right _ List.mem_cons_self
  have nlc : cash ≠ last := fun e => (h.2.2.2 _ hl).1 e.symm
  have mp : ∀ x ∈ cash :: (init ++ [last]), ren last fresh x ∈ cash :: reG init fresh := fun x hx => by
    unfold ren
    split
    · exact List.mem_cons_of_mem _ (List.mem_append_right _ List.mem_cons_self)
    · rename_i n
      rcases List.mem_cons.mp hx with rfl | hx
      · exact List.mem_cons_self
      · rcases List.mem_append.mp hx with hx | hx
        · exact List.mem_cons_of_mem _ (List.mem_append_left _ hx)
        · exact absurd (List.mem_singleton.mp hx) n
  have sj : ∀ y ∈ cash :: reG init fresh, ∃ x ∈ cash :: (init ++ [last]), ren last fresh x = y := fun y hy => by
    rcases List.mem_cons.mp hy with rfl | hy
    · exact ⟨_, List.mem_cons_self, if_neg nlc⟩
    · rcases List.mem_append.mp hy with hy | hy
      · refine ⟨y, List.mem_cons_of_mem _ (List.mem_append_left _ hy), if_neg fun e => ?_⟩
        have := (List.nodup_append.mp h.1).2.2 y hy last List.mem_cons_self
        exact this e
      · exact ⟨last, List.mem_cons_of_mem _ hl, by rw [List.mem_singleton.mp hy]; exact if_pos rfl⟩
  refine ⟨fun r hr2 => ?_, ?_, fun a b ha hb => ?_⟩
  · obtain ⟨q, hq, rfl⟩ := List.mem_map.mp hr2
    obtain ⟨h1, h2, h3, h4⟩ := hr.row q hq
    exact ⟨mp _ h1, mp _ h2, fun e => h3 (ren_inj (nfc _ h1) (nfc _ h2) e), h4⟩
  · rw [List.map_map, show (ends ∘ renR last fresh) = (fun p : Str × Str => (ren last fresh p.1, ren last fresh p.2)) ∘ ends from rfl, ← List.map_map]
    refine nodup_mapOn (fun p hp q hq e => ?_) hr.nd
    obtain ⟨r, hr1, rfl⟩ := List.mem_map.mp hp
    obtain ⟨r2, hr2, rfl⟩ := List.mem_map.mp hq
    have e1 := congrArg Prod.fst e
    have e2 := congrArg Prod.snd e
    exact Prod.ext (ren_inj (nfc _ (hr.row r hr1).1) (nfc _ (hr.row r2 hr2).1) e1) (ren_inj (nfc _ (hr.row r hr1).2.1) (nfc _ (hr.row r2 hr2).2.1) e2)
  · obtain ⟨x, hx, rfl⟩ := sj a ha
    obtain ⟨y, hy, rfl⟩ := sj b hb
    obtain ⟨n, s, w⟩ := hr.all x y hx hy
    exact ⟨n, s, walk_ren w⟩
/-! turned about -/
theorem rot_goods {gs : List Str} (h : Goods gs) : Goods (gs.drop 1 ++ gs.take 1) := by
  have p : (gs.drop 1 ++ gs.take 1).Perm gs := by
    have := List.perm_append_comm (l₁ := gs.drop 1) (l₂ := gs.take 1)
    rwa [List.take_append_drop] at this
  exact ⟨p.nodup_iff.mpr h.1, by rw [p.length_eq]; exact h.2.1, by rw [p.length_eq]; exact h.2.2.1, fun g hg => h.2.2.2 g (p.mem_iff.mp hg)⟩
theorem rot_mem {gs : List Str} (x : Str) : x ∈ cash :: (gs.drop 1 ++ gs.take 1) ↔ x ∈ cash :: gs := by
  have p : (gs.drop 1 ++ gs.take 1).Perm gs := by
    have := List.perm_append_comm (l₁ := gs.drop 1) (l₂ := gs.take 1)
    rwa [List.take_append_drop] at this
  rw [List.mem_cons, List.mem_cons, p.mem_iff]
theorem rot_ne {gs : List Str} (h : gs.Nodup) (h2 : gs.length ≠ 1) (h1 : 1 ≤ gs.length) : gs.drop 1 ++ gs.take 1 ≠ gs := fun e => by
  match gs, h, h2, h1, e with
  | [a], _, h2, _, _ => exact h2 rfl
  | a :: b :: t, h, _, _, e =>
    have e1 : b = a := by
      have := congrArg List.head? e
      simpa using this
    rw [List.nodup_cons] at h
    exact h.1 (by rw [e1]; exact List.mem_cons_self)
theorem goods_last {gs : List Str} (h : Goods gs) : ∃ init last, gs = init ++ [last] := by
  have : gs ≠ [] := fun e => by have := h.2.1; rw [e] at this; exact absurd this (by decide)
  exact ⟨gs.dropLast, gs.getLast this, (List.dropLast_concat_getLast this).symm⟩
end KT

set_option Elab.async false
set_option linter.all false
set_option maxRecDepth 100000
set_option maxHeartbeats 0
set_option pp.deepTerms false
set_option pp.deepTerms.threshold 8


namespace KT
open PySem PySem.Spec PyProof.Rows L2 DL
open Dst (IsDist)
structure TxtM (K : PySem.W.Frag) (mg : Str → Option Value) (C OG ME NA : Addr) : Prop extends TxtL K mg C OG ME NA where
  nf_Table : PySem.W.notFirst K C (.ref C) = true
  nf_Ttup : PySem.W.notFirst K C (.type "tuple") = true
  nf_Tlst : PySem.W.notFirst K C (.type "list") = true
  no_tup : PySem.W.kitOne K (.type "tuple") (.ref C) = some false
  no_lst : PySem.W.kitOne K (.type "list") (.ref C) = some false
theorem gr_len {gs : List Str} {rs : List Row} (hg : Goods gs) (hr : FineRows (cash :: gs) rs) : rs.length ≤ 100 := by
  have := Dst.nodup_len hr.nd (k := prs (cash :: gs)) fun p hp => by
    obtain ⟨r, h, rfl⟩ := List.mem_map.mp hp
    exact prs_mem.mpr ⟨(hr.row r h).1, (hr.row r h).2.1, (hr.row r h).2.2.1⟩
  rw [List.length_map] at this
  exact Nat.le_trans this (prs_len (goods6 hg))
theorem new_tabY {C : Addr} {gs : List Str} {rs : List Row} {x y : D} {cap : Int} {Q : DV → List OC → Prop} {E : Ex → List OC → Prop} (hx : RowOf x (gs.map .str)) (hy : RowOf y (rs.map rowD)) (hg : Goods gs) (hr : FineRows (cash :: gs) rs) (hc : ∀ r ∈ rs, r.2.2 ≤ cap) (k : ∀ fs e, Tb C gs rs e (.obj C fs) → Q (.d .non) [.ins C fs]) : sdInit C [.own (.ins C []), .d x, .d y, .d (.int cap)] Q E :=
  have hl : rs.length ≤ 200 := Nat.le_trans (gr_len hg hr) (by decide)
  ⟨gs, rs, _, _, _, _, rfl, hx, hy, asRows_self, hg, hl, hr, hc, fun kvs f hd hi => by
    obtain ⟨e, he, hfe⟩ := IsDist.ent hr hi
    exact k _ e ⟨kvs, f, rfl, hg, hr, hl, hd, hi, he, hfe⟩⟩
section
variable {P : Program} {w : World} {K : PySem.W.Frag} {mg : Str → Option Value} {base : Heap} {C OG ME NA : Addr}
/-- == with another table, or with a list or a tuple -/
def sdEqA (C : Addr) : SpD := fun as Q E => ∃ (x y : D), as = [.d x, .d y] ∧ (sdEq C as Q E ∨ ∃ gs rs e l, Tb C gs rs e x ∧ (y = .tup l ∨ y = .lst l) ∧ Q (.d (.bl false)) [])
theorem ok_eqA {f : Addr} {fd : FuncData} (G : Fun K "__eq__" "Table.__eq__" s_Table___eq f fd) (T : TxtM K mg C OG ME NA) : FnOk P w K mg base (L2.CX P w) 1 f fd ["self", "other"] (spOf K (sdEqA C)) := by
  refine okD G sc_Table___eq [] (fun as Q E ⟨x, y, q, _⟩ => by subst q; exact ⟨rfl, rfl⟩) ⟨_, fun cdv A outer s H E ad F0 H0 hr => (pds_one (psd_ret (pd_and (pd_builtB (fun h => pe_callB call_isi (by rfl) T.b_isinstance (by decide +kernel) h) (cn_isi (K := K)).op (pda_cons (pd_var (pv 1)) (pda_cons (pd_const (pe_glob (v := .ref C) rfl T.c_Table rfl) (fun _ => .adr _)) pda_nil))) (pd_and (pd_cmp (op_eqD hr.units) op2_eqD.op (pd_fld (pd_var (pv 0)) T.cl_Table (T.na_Table _ (by decide)) rfl) (pd_fld (pd_var (pv 1)) T.cl_Table (T.na_Table _ (by decide)) rfl) (nomark _)) (pd_one (pd_cmp (op_eqD hr.units) op2_eqD.op (pd_fld (pd_var (pv 0)) T.cl_Table (T.na_Table _ (by decide)) rfl) (pd_fld (pd_var (pv 1)) T.cl_Table (T.na_Table _ (by decide)) rfl) (nomark _))))))), ?_⟩
  rintro as Qd Ed ⟨x, y, rfl, h⟩
  rcases h with ⟨gs, gs2, rs, rs2, e, e2, d, d2, q, ⟨kvs, f, rfl, h1, h2, h3, h4, h5, h6, h7⟩, ⟨kvs2, f2, rfl, g1, g2, g3, g4, g5, g6, g7⟩, k⟩ | ⟨gs, rs, e, l, ⟨kvs, f, rfl, h1, h2, h3, h4, h5, h6, h7⟩, hy, k⟩
  · cases q
    refine DR.start (δ' := [some (.d (.obj C (tabFs gs rs kvs f))), some (.d (.obj C (tabFs gs2 rs2 kvs2 f2)))]) rfl ?_
    walk_at "dd"
    refine ⟨_, _, _, _, true, rfl, .own C, .obj T.cl_Table T.si_Table, kit_own, ?_⟩
    walk_at "dd"
    refine eqd_t (dp_strs gs).cmp (dp_strs gs2).cmp eqv_names ?_
    walk_at "dd"
    refine DR.split (fun c => ?_) (fun c => ?_)
    · walk_at "dd"
      rw [ent_rows h7, ent_rows g7]
      refine eqd_t (dp_rows _).cmp (dp_rows _).cmp eqv_rows ?_
      walk_at "dd"
      exact k _ ⟨fun z => ⟨c, of_decide_eq_true z⟩, fun z => decide_eq_true z.2⟩
    · walk_at "dd"
      exact k _ ⟨(fun z => nomatch z), fun z => absurd z.1 c⟩
  · refine DR.start (δ' := [some (.d (.obj C (tabFs gs rs kvs f))), some (.d y)]) rfl ?_
    walk_at "dd"
    rcases hy with rfl | rfl
    · refine ⟨_, _, _, _, false, rfl, .own C, .tup _, T.no_tup, ?_⟩
      walk_at "dd"
      exact k
    · refine ⟨_, _, _, _, false, rfl, .own C, .lst _, T.no_lst, ?_⟩
      walk_at "dd"
      exact k
theorem seq_ix {r n : Nat} (h : r < n) : seqIndex? (r : Int) n = some r := by
  unfold seqIndex?
  simp
  omega
theorem er_map {α β : Type} (f : α → β) : ∀ (l : List α) (j : Nat), (l.map f).eraseIdx j = (l.eraseIdx j).map f
  | [], _ => rfl
  | _ :: _, 0 => rfl
  | a :: l, j + 1 => by
    show f a :: (l.map f).eraseIdx j = f a :: (l.eraseIdx j).map f
    rw [er_map f l j]
theorem er_perm {α : Type} : ∀ {l : List α} {j : Nat} (h : j < l.length), (l[j] :: l.eraseIdx j).Perm l
  | a :: l, 0, _ => .refl _
  | a :: l, j + 1, h => by
    have h2 : j < l.length := by rw [List.length_cons] at h; omega
    exact (List.Perm.swap a _ _).trans ((er_perm h2).cons a)
theorem er_len {α : Type} {l : List α} {j : Nat} (h : j < l.length) : (l.eraseIdx j).length + 1 = l.length := (er_perm h).length_eq
theorem eq_tab {C : Addr} {gs gs2 : List Str} {rs rs2 : List Row} {e e2 : En} {x y : D} {Q : DV → List OC → Prop} {E : Ex → List OC → Prop} (h1 : Tb C gs rs e x) (h2 : Tb C gs2 rs2 e2 y) (k : ∀ b : Bool, (b = true ↔ Same2 gs gs2 e e2) → Q (.d (.bl b)) []) : sdEqA C [.d x, .d y] Q E :=
  ⟨x, y, rfl, .inl ⟨gs, gs2, rs, rs2, e, e2, x, y, rfl, h1, h2, k⟩⟩
theorem dp_pr {p : Str × Str} : Dp_ 2 (prD p) := dp_tup fun d hd => by
  simp only [List.mem_cons, List.not_mem_nil, or_false] at hd
  rcases hd with rfl | rfl <;> exact dp_str
theorem eqv_pr {a b : Str} {p : Str × Str} : PyData.eqv (prD (a, b)).py (prD p).py = decide ((a, b) = p) := by
  have := eqv_tups eqv_strs (l := [a, b]) (k := [p.1, p.2])
  refine this.trans ?_
  obtain ⟨c, d⟩ := p
  simp
theorem hi_rows {ns : List Str} {e : En} {p : Str × Str} : (entRows ns e).map (fun r => rowD (r.1, r.2.1, r.2.2 + if (r.1, r.2.1) = p then 1 else 0)) = (entRows ns (hi e p)).map rowD := by
  unfold entRows
  rw [List.map_map, List.map_map]
  exact List.map_congr_left fun q _ => rfl
theorem v_int {a b : Int} : decide (V.int a = V.int b) = decide (a = b) := by
  by_cases h : a = b
  · rw [h, decide_eq_true rfl, decide_eq_true rfl]
  · rw [decide_eq_false h, decide_eq_false fun z => h (V.int.inj z)]
theorem fm_str {p : Str → Prop} [DecidablePred p] : ∀ {l : List Str}, l.filterMap (fun g => if p g then some (D.str g) else none) = (l.filter fun g => decide (p g)).map D.str
  | [] => rfl
  | r :: rs => by
    rw [List.filterMap_cons, List.filter_cons]
    by_cases h : p r
    · simp [h, fm_str]
    · simp [h, fm_str]
theorem at_last {init : List Str} {last : Str} : atI ((init ++ [last]).map D.str) (-1) = some (.str last) := at_lastS (by simp)
theorem cut_init {init : List Str} {last : Str} : DL.cutD ((init ++ [last]).map D.str) none (some (-1)) = init.map D.str := by
  unfold DL.cutD
  have e : HT.sIx ((init ++ [last]).map D.str).length ((init ++ [last]).map D.str).length (some (-1)) = init.length := by
    show (if (-1 : Int) < 0 then ((-1 : Int) + ((((init ++ [last]).map D.str).length : Nat) : Int)).toNat else (0 : Nat)) = init.length
    rw [if_pos (by decide), List.length_map, List.length_append, List.length_singleton]
    omega
  rw [e, HT.sIx_none, List.drop_zero, Nat.sub_zero, List.map_append]
  exact List.take_left' (List.length_map ..)
theorem cut_rot {gs : List Str} (h : 1 ≤ gs.length) : DL.cutD (gs.map D.str) (some 1) none ++ DL.cutD (gs.map D.str) none (some 1) = (gs.drop 1 ++ gs.take 1).map D.str := by
  have e : HT.sIx (gs.map D.str).length 0 (some 1) = 1 := (HT.sIx_nat _ 0 1).trans (Nat.min_eq_left (by rw [List.length_map]; exact h))
  have e2 : HT.sIx (gs.map D.str).length (gs.map D.str).length (some 1) = 1 := (HT.sIx_nat _ _ 1).trans (Nat.min_eq_left (by rw [List.length_map]; exact h))
  unfold DL.cutD
  rw [e, e2, HT.sIx_none, HT.sIx_none, List.drop_zero, List.map_append, List.map_drop, List.map_take, Nat.sub_zero]
  congr 1
  exact List.take_of_length_le (by rw [List.length_drop]; exact Nat.le_refl _)
abbrev stQ (d : D) (ys : List D) (gs : List Str) (rs : List Row) (r : List (Option DV)) : DSt := some (.d d) :: some (.own (.lst ys)) :: some (.d (.lst (gs.map .str))) :: some (.d (.lst (rs.map rowD))) :: r
def sdEqOnes (C : Addr) : SpD := fun as Q _ => ∃ (gs : List Str) (rs : List Row) (e : En) (d : D) (xs : List D) (n : Nat), as = [.d d, .own (.lst xs), .d (.lst (gs.map .str)), .d (.lst (rs.map rowD))] ∧ Tb C gs rs e d ∧ GoodRows (cash :: gs) rs ∧ Src n xs ∧ n < 900000000 ∧ ∀ ys m, m ≤ n + 500 → Src m ys → Q (.d (.bl true)) [.lst ys]
abbrev s_law_equal_ones : Stmt := top 47
theorem sc_law_equal_ones : FnScope ["table", "source", "goods", "rows", "names", "turned", "turn", "taken", "pair", "higher", "again", "due", "fresh", "last", "renamed", "one", "other", "most", "name"] ["table", "source", "goods", "rows"] (defScope s_law_equal_ones) := ⟨rfl, rfl, rfl, by decide +kernel, rfl, by decide +kernel, by decide +kernel⟩
theorem ok_leq (D_law_draw : DefD P w K mg base "_law_draw" 1 ["source", "many"] sdDraw) (D_law_pairs : DefD P w K mg base "_law_pairs" 1 ["names"] sdPairs) (D_law_closed : DefD P w K mg base "_law_closed" 1 ["names", "rows"] sdClosed) (K_Table : DefK P w K mg base C 9 3 ["self", "goods", "rows", "cap"] ["cap"] [.int 1000000000000] (sdInit C)) (D_Table_entries : DefP P w K mg base C "entries" 1 ["self"] (sdEntries C)) (D_Table___eq : DefE P w K mg base C 1 ["self", "other"] (sdEqA C)) {f : Addr} {fd : FuncData} (G : Fun K "_law_equal_ones" "_law_equal_ones" s_law_equal_ones f fd) (T : TxtM K mg C OG ME NA) : FnOk P w K mg base (L2.CX P w) 11 f fd ["table", "source", "goods", "rows"] (spOf K (sdEqOnes C)) := by
  refine okD G sc_law_equal_ones [1] (fun as Q E ⟨gs, rs, e, d, xs, n, q, _⟩ => by subst q; exact ⟨rfl, rfl⟩) ⟨_, fun cdv A outer s H E ad F0 H0 hr => (pds_cons (psd_par (i := 4) (j := 5) (oi := false) (oj := true) (pka_cons (pd_op op_cat op2_cat (pd_lst (fun h => pe_lst h) (pda_cons (pd_const pe_str (fun _ => .str (by decide +kernel))) pda_nil)) (pd_var (pv 2))) (pka_cons (pd_builtB (fun h => pe_callTy call_list_of (by rfl) T.b_list (by decide +kernel) h) cn_list (pda_cons (pd_var (pv 3)) pda_nil)) pka_nil)) (by show ¬ (4 ∈ ([1] : List Nat)); decide) (by show ¬ (5 ∈ ([1] : List Nat)); decide) (fun h => ps_par (i := 4) (j := 5) (by rfl) sc_law_equal_ones.nd rfl rfl (by decide) rfl rfl h (by rfl)) (by decide))
      (pds_cons (psd_for (passes_of rfl) rfl (pid_range1 (by rfl) T.b_range (pda_cons (pd_builtB (fun h => pe_callB call_len_seq (by rfl) T.b_len (by decide +kernel) h) cn_len.op (pda_cons (pd_var (pv 3)) pda_nil)) pda_nil)) (pgd_name (i := 6) (vs := [6]) (pg_name (i := 6) sc_law_equal_ones.nd rfl (.inl rfl)) (by show ¬ (6 ∈ ([1] : List Nat)); decide) (by decide))
      (pds_cons (psd_set (i := 7) (pd_methO (j := 5) (fun ho h => pe_bm PySem.F.plainAttrs_list PySem.F.slot_list_pop PySem.F.type_list_pop mt_popAt ho h) mo_pop (pv 5) (pda_cons (pd_call D_law_draw.ok (hr.mono (by decide)) (by rfl) D_law_draw.mg D_law_draw.kp D_law_draw.b (takes_of rfl rfl rfl rfl) (pda_own (i := 1) (pv 1) (pda_cons (pd_builtO (i := 5) (fun h => pe_callB call_len_seq (by rfl) T.b_len (by decide +kernel) h) cn_len (pv 5)) pda_nil))) pda_nil)) (by show ¬ (7 ∈ ([1] : List Nat)); decide) sc_law_equal_ones.nd rfl (.inl rfl))
      (pds_one (psd_expr (pd_methO (j := 5) (fun ho h => pe_bm PySem.F.plainAttrs_list PySem.F.slot_list_insert PySem.F.type_list_insert mt_insert ho h) mo_insert (pv 5) (pda_cons (pd_call D_law_draw.ok (hr.mono (by decide)) (by rfl) D_law_draw.mg D_law_draw.kp D_law_draw.b (takes_of rfl rfl rfl rfl) (pda_own (i := 1) (pv 1) (pda_cons (pd_op op_add (op2_I0 fun _ _ _ => .int _) (pd_builtO (i := 5) (fun h => pe_callB call_len_seq (by rfl) T.b_len (by decide +kernel) h) cn_len (pv 5)) (pd_const pe_int (fun _ => .int _))) pda_nil))) (pda_cons (pd_var (pv 7)) pda_nil)))))))
      (pds_cons (psd_if (PW.pt (pwd_or (ptd_cmp (op_neC D_Table___eq.ne D_Table___eq.ok (hr.mono (by decide)) D_Table___eq.b) (op2_neC (K := K)) (pd_newK (n := 2) K_Table.mkc K_Table.ok (hr.mono (by decide)) (by rfl) T.c_Table K_Table.kb0 (fun _ => .cons (.int _) .nil) (fun _ _ _ => rfl) (takes_of rfl rfl rfl rfl) (pda_cons (pd_var (pv 2)) (pda_cons (pd_fvar (i := 5) (pv 5) (by show ¬ (5 ∈ ([1] : List Nat)); decide)) pda_nil)) pkd_nil) (pd_var (pv 0)) (nomark _)) (pwd_or1 (ptd_not (ptd_cmp (op_eqC D_Table___eq.at_ D_Table___eq.fn D_Table___eq.ok (hr.mono (by decide)) D_Table___eq.b) (op2_eqC (K := K)) (pd_var (pv 0)) (pd_newK (n := 2) K_Table.mkc K_Table.ok (hr.mono (by decide)) (by rfl) T.c_Table K_Table.kb1 (fun _ => .nil) (fun _ _ _ => rfl) (takes_of rfl rfl rfl rfl) (pda_cons (pd_builtB (fun h => pe_callTy call_tuple_of (by rfl) T.b_tuple (by decide +kernel) h) cn_tuple (pda_cons (pd_var (pv 2)) pda_nil)) (pda_cons (pd_prop (pd_var (pv 0)) T.cl_Table D_Table_entries.po D_Table_entries.ok (hr.mono (by decide)) D_Table_entries.b rfl) pda_nil)) (pkd_cons (pd_op op_mul (op2_I fun _ _ _ => .int _) (pd_const pe_int (fun _ => .int _)) (pd_op op_pow (op2_I fun _ _ _ => .int _) (pd_const pe_int (fun _ => .int _)) (pd_const pe_int (fun _ => .int _)))) pkd_nil)) (nomark _)))))) (pds_one (psd_ret (pd_const pe_bl (fun _ => .bl _)))) pds_nil)
      (pds_cons (psd_set (i := 8) (pd_ix ix_list op2_ixL (pd_call D_law_pairs.ok (hr.mono (by decide)) (by rfl) D_law_pairs.mg D_law_pairs.kp D_law_pairs.b (takes_of rfl rfl rfl rfl) (pda_cons (pd_var (pv 4)) pda_nil)) (pd_call D_law_draw.ok (hr.mono (by decide)) (by rfl) D_law_draw.mg D_law_draw.kp D_law_draw.b (takes_of rfl rfl rfl rfl) (pda_own (i := 1) (pv 1) (pda_cons (pd_op op_mul (op2_I fun _ _ _ => .int _) (pd_builtB (fun h => pe_callB call_len_seq (by rfl) T.b_len (by decide +kernel) h) cn_len.op (pda_cons (pd_var (pv 4)) pda_nil)) (pd_op op_sub (op2_I0 fun _ _ _ => .int _) (pd_builtB (fun h => pe_callB call_len_seq (by rfl) T.b_len (by decide +kernel) h) cn_len.op (pda_cons (pd_var (pv 4)) pda_nil)) (pd_const pe_int (fun _ => .int _)))) pda_nil))) (fun _ _ => rfl)) (by show ¬ (8 ∈ ([1] : List Nat)); decide) sc_law_equal_ones.nd rfl (.inr rfl))
      (pds_cons (psd_setLc (i := 9) (o := false) (own := [("one", 15), ("other", 16), ("most", 17)]) (by show ¬ (9 ∈ ([1] : List Nat)); decide) (by rfl) sc_law_equal_ones.nd rfl rfl (sw_true rfl rfl rfl (by decide +kernel)) (pid_tup (pd_prop (pd_var (pv 0)) T.cl_Table D_Table_entries.po D_Table_entries.ok (hr.mono (by decide)) D_Table_entries.b rfl)) (blkOk_by (own := [("one", 15), ("other", 16), ("most", 17)]) (N := ["table", "source", "goods", "rows", "names", "turned", "turn", "taken", "pair", "higher", "again", "due", "fresh", "last", "renamed", "one", "other", "most", "name"]) (sc := defScope s_law_equal_ones) (by decide +kernel)) (fun _ _ _ _ _ => (pgd_tup (is := [15, 16, 17]) (vs := [15, 16, 17]) (pg_tup rfl (pgs_cons (pg_name (i := 15) sc_law_equal_ones.nd rfl (.inl rfl)) (pgs_cons (pg_name (i := 16) sc_law_equal_ones.nd rfl (.inl rfl)) (pgs_cons (pg_name (i := 17) sc_law_equal_ones.nd rfl (.inl rfl)) pgs_nil)))) rfl (by show ∀ i ∈ ([15, 16, 17] : List Nat), ¬ (i ∈ ([1] : List Nat)) ∧ i ∈ ([15, 16, 17] : List Nat); decide))) (fun _ _ _ _ _ => ptsd_nil) (fun _ _ _ _ _ => (pd_tup (fun h => pe_tup h) (pda_cons (pd_var (pv 15)) (pda_cons (pd_var (pv 16)) (pda_cons (pd_op op_add (op2_I0 fun _ _ _ => .int _) (pd_var (pv 17)) (pd_builtB (fun h => pe_callTy call_int1 (by rfl) T.b_int (by decide +kernel) h) cn_intB.op (pda_cons (pd_cmp (op_eqD hr.units) op2_eqD.op (pd_tup (fun h => pe_tup h) (pda_cons (pd_var (pv 15)) (pda_cons (pd_var (pv 16)) pda_nil))) (pd_var (pv 8)) (nomark _)) pda_nil))) pda_nil))))) (by show ∀ i ∈ ([15, 16, 17] : List Nat), ¬ (i ∈ ([1] : List Nat)); decide))
      (pds_cons (psd_set (i := 10) (pd_call D_law_closed.ok (hr.mono (by decide)) (by rfl) D_law_closed.mg D_law_closed.kp D_law_closed.b (takes_of rfl rfl rfl rfl) (pda_cons (pd_var (pv 4)) (pda_cons (pd_var (pv 9)) pda_nil))) (by show ¬ (10 ∈ ([1] : List Nat)); decide) sc_law_equal_ones.nd rfl (.inr rfl))
      (pds_cons (psd_set (i := 11) (pd_builtB (fun h => pe_callB (cr_all rfl) (by rfl) T.b_all (by decide +kernel) h) cn_all.op (pda_cons (pd_lc (own := [("one", 15), ("other", 16), ("most", 17)]) (by rfl) sc_law_equal_ones.nd (pid_tup (pd_prop (pd_var (pv 0)) T.cl_Table D_Table_entries.po D_Table_entries.ok (hr.mono (by decide)) D_Table_entries.b rfl)) (blkOk_by (own := [("one", 15), ("other", 16), ("most", 17)]) (N := ["table", "source", "goods", "rows", "names", "turned", "turn", "taken", "pair", "higher", "again", "due", "fresh", "last", "renamed", "one", "other", "most", "name"]) (sc := defScope s_law_equal_ones) (by decide +kernel)) (fun _ _ _ _ _ => (pgd_tup (is := [15, 16, 17]) (vs := [15, 16, 17]) (pg_tup rfl (pgs_cons (pg_name (i := 15) sc_law_equal_ones.nd rfl (.inl rfl)) (pgs_cons (pg_name (i := 16) sc_law_equal_ones.nd rfl (.inl rfl)) (pgs_cons (pg_name (i := 17) sc_law_equal_ones.nd rfl (.inl rfl)) pgs_nil)))) rfl (by show ∀ i ∈ ([15, 16, 17] : List Nat), ¬ (i ∈ ([1] : List Nat)) ∧ i ∈ ([15, 16, 17] : List Nat); decide))) (fun _ _ _ _ _ => ptsd_nil) (fun _ _ _ _ _ => (pd_cmp op_eq op2_eq.op (pd_get (fun ho hi => pe_dget (hu_of hr) ho hi (fun _ _ => rfl)) (pd_var (pv 10)) (pd_tup (fun h => pe_tup h) (pda_cons (pd_var (pv 15)) (pda_cons (pd_var (pv 16)) pda_nil)))) (pd_var (pv 17)) (nomark _))) (by show ∀ i ∈ ([15, 16, 17] : List Nat), ¬ (i ∈ ([1] : List Nat)); decide)) pda_nil)) (by show ¬ (11 ∈ ([1] : List Nat)); decide) sc_law_equal_ones.nd rfl (.inl rfl))
      (pds_cons (psd_if (ptd_cmp op_ne op2_ne.op (pd_cmp (op_eqC D_Table___eq.at_ D_Table___eq.fn D_Table___eq.ok (hr.mono (by decide)) D_Table___eq.b) (op2_eqC (K := K)) (pd_newK (n := 2) K_Table.mkc K_Table.ok (hr.mono (by decide)) (by rfl) T.c_Table K_Table.kb1 (fun _ => .nil) (fun _ _ _ => rfl) (takes_of rfl rfl rfl rfl) (pda_cons (pd_var (pv 2)) (pda_cons (pd_var (pv 9)) pda_nil)) (pkd_cons (pd_op op_mul (op2_I fun _ _ _ => .int _) (pd_const pe_int (fun _ => .int _)) (pd_op op_pow (op2_I fun _ _ _ => .int _) (pd_const pe_int (fun _ => .int _)) (pd_const pe_int (fun _ => .int _)))) pkd_nil)) (pd_var (pv 0)) (nomark _)) (pd_var (pv 11)) (nomark _)) (pds_one (psd_ret (pd_const pe_bl (fun _ => .bl _)))) pds_nil)
      (pds_cons (psd_set (i := 12) (pd_ix ix_list op2_ixL (pd_lc (own := [("name", 18)]) (by rfl) sc_law_equal_ones.nd (pid_list (pd_lst (fun h => pe_lst h) (pda_cons (pd_const pe_str (fun _ => .str (by decide +kernel))) (pda_cons (pd_const pe_str (fun _ => .str (by decide +kernel))) (pda_cons (pd_const pe_str (fun _ => .str (by decide +kernel))) (pda_cons (pd_const pe_str (fun _ => .str (by decide +kernel))) (pda_cons (pd_const pe_str (fun _ => .str (by decide +kernel))) (pda_cons (pd_const pe_str (fun _ => .str (by decide +kernel))) pda_nil)))))))) (blkOk_by (own := [("name", 18)]) (N := ["table", "source", "goods", "rows", "names", "turned", "turn", "taken", "pair", "higher", "again", "due", "fresh", "last", "renamed", "one", "other", "most", "name"]) (sc := defScope s_law_equal_ones) (by decide +kernel)) (fun _ _ _ _ _ => (pgd_name (i := 18) (vs := [18]) (pg_name (i := 18) sc_law_equal_ones.nd rfl (.inl rfl)) (by show ¬ (18 ∈ ([1] : List Nat)); decide) (by decide))) (fun _ _ _ _ _ => (ptsd_one (ptd_cmp op_notIn_seq (op2_in true).op (pd_var (pv 18)) (pd_var (pv 2)) rfl))) (fun _ _ _ _ _ => (pd_var (pv 18))) (by show ∀ i ∈ ([18] : List Nat), ¬ (i ∈ ([1] : List Nat)); decide)) (pd_const pe_int (fun _ => .int _)) (fun _ _ => rfl)) (by show ¬ (12 ∈ ([1] : List Nat)); decide) sc_law_equal_ones.nd rfl (.inr rfl))
      (pds_cons (psd_set (i := 13) (pd_ix ix_list op2_ixL (pd_var (pv 2)) (pd_neg (pd_const pe_int (fun _ => .int _))) (fun _ _ => rfl)) (by show ¬ (13 ∈ ([1] : List Nat)); decide) sc_law_equal_ones.nd rfl (.inr rfl))
      (pds_cons (psd_setLc (i := 14) (o := false) (own := [("one", 15), ("other", 16), ("most", 17)]) (by show ¬ (14 ∈ ([1] : List Nat)); decide) (by rfl) sc_law_equal_ones.nd rfl rfl (sw_true rfl rfl rfl (by decide +kernel)) (pid_list (pd_var (pv 3))) (blkOk_by (own := [("one", 15), ("other", 16), ("most", 17)]) (N := ["table", "source", "goods", "rows", "names", "turned", "turn", "taken", "pair", "higher", "again", "due", "fresh", "last", "renamed", "one", "other", "most", "name"]) (sc := defScope s_law_equal_ones) (by decide +kernel)) (fun _ _ _ _ _ => (pgd_tup (is := [15, 16, 17]) (vs := [15, 16, 17]) (pg_tup rfl (pgs_cons (pg_name (i := 15) sc_law_equal_ones.nd rfl (.inl rfl)) (pgs_cons (pg_name (i := 16) sc_law_equal_ones.nd rfl (.inl rfl)) (pgs_cons (pg_name (i := 17) sc_law_equal_ones.nd rfl (.inl rfl)) pgs_nil)))) rfl (by show ∀ i ∈ ([15, 16, 17] : List Nat), ¬ (i ∈ ([1] : List Nat)) ∧ i ∈ ([15, 16, 17] : List Nat); decide))) (fun _ _ _ _ _ => ptsd_nil) (fun _ _ _ _ _ => (pd_tup (fun h => pe_tup h) (pda_cons (pd_ifExp (ptd_cmp op_eq op2_eq.op (pd_var (pv 15)) (pd_var (pv 13)) (nomark _)) (pd_var (pv 12)) (pd_var (pv 15))) (pda_cons (pd_ifExp (ptd_cmp op_eq op2_eq.op (pd_var (pv 16)) (pd_var (pv 13)) (nomark _)) (pd_var (pv 12)) (pd_var (pv 16))) (pda_cons (pd_var (pv 17)) pda_nil))))) (by show ∀ i ∈ ([15, 16, 17] : List Nat), ¬ (i ∈ ([1] : List Nat)); decide))
      (pds_cons (psd_if (PW.pt (pwd_or (ptd_cmp (op_eqC D_Table___eq.at_ D_Table___eq.fn D_Table___eq.ok (hr.mono (by decide)) D_Table___eq.b) (op2_eqC (K := K)) (pd_newK (n := 2) K_Table.mkc K_Table.ok (hr.mono (by decide)) (by rfl) T.c_Table K_Table.kb0 (fun _ => .cons (.int _) .nil) (fun _ _ _ => rfl) (takes_of rfl rfl rfl rfl) (pda_cons (pd_op op_cat op2_cat (pd_slice (pd_var (pv 2)) pod_none (pod_some (pd_neg (pd_const pe_int (fun _ => .int _))))) (pd_lst (fun h => pe_lst h) (pda_cons (pd_var (pv 12)) pda_nil))) (pda_cons (pd_var (pv 14)) pda_nil)) pkd_nil) (pd_var (pv 0)) (nomark _)) (pwd_or (ptd_cmp (op_eqC D_Table___eq.at_ D_Table___eq.fn D_Table___eq.ok (hr.mono (by decide)) D_Table___eq.b) (op2_eqC (K := K)) (pd_var (pv 0)) (pd_prop (pd_var (pv 0)) T.cl_Table D_Table_entries.po D_Table_entries.ok (hr.mono (by decide)) D_Table_entries.b rfl) (nomark _)) (pwd_or1 (ptd_cmp (op_eqC D_Table___eq.at_ D_Table___eq.fn D_Table___eq.ok (hr.mono (by decide)) D_Table___eq.b) (op2_eqC (K := K)) (pd_var (pv 0)) (pd_var (pv 3)) (nomark _)))))) (pds_one (psd_ret (pd_const pe_bl (fun _ => .bl _)))) pds_nil)
      (pds_one (psd_ret (pd_or (pd_cmp op_eq op2_eq.op (pd_builtB (fun h => pe_callB call_len_seq (by rfl) T.b_len (by decide +kernel) h) cn_len.op (pda_cons (pd_var (pv 2)) pda_nil)) (pd_const pe_int (fun _ => .int _)) (nomark _)) (pd_one (pd_cmp (op_neC D_Table___eq.ne D_Table___eq.ok (hr.mono (by decide)) D_Table___eq.b) (op2_neC (K := K)) (pd_newK (n := 2) K_Table.mkc K_Table.ok (hr.mono (by decide)) (by rfl) T.c_Table K_Table.kb0 (fun _ => .cons (.int _) .nil) (fun _ _ _ => rfl) (takes_of rfl rfl rfl rfl) (pda_cons (pd_op op_cat op2_cat (pd_slice (pd_var (pv 2)) (pod_some (pd_const pe_int (fun _ => .int _))) pod_none) (pd_slice (pd_var (pv 2)) pod_none (pod_some (pd_const pe_int (fun _ => .int _))))) (pda_cons (pd_var (pv 3)) pda_nil)) pkd_nil) (pd_var (pv 0)) (nomark _)))))))))))))))))), ?_⟩
  rintro as Qd Ed ⟨gs, rs, e, d, xs, n, rfl, ht, hgr, hs, hn, k⟩
  obtain ⟨kvs, f, rfl, hg, hfr, hl, _, _, hent, _⟩ := id ht
  refine DR.start (δ' := stQ (.obj C (tabFs gs rs kvs f)) xs gs rs (List.replicate 15 none)) rfl ?_
  have hg5 : gs.length ≤ 5 := hg.2.2.1
  have hg1 : 1 ≤ gs.length := hg.2.1
  have hrl : rs.length ≤ 100 := gr_len hg hfr
  have h10 : (cash :: gs).length ≤ 10 := goods6 hg
  have h6 : (cash :: gs).length ≤ 6 := by rw [List.length_cons]; omega
  have hnd : (cash :: gs).Nodup := List.nodup_cons.mpr ⟨fun z => (hg.2.2.2 _ z).1 rfl, hg.1⟩
  with_reducible refine DR.cut (fun δ => δ = stQ (.obj C (tabFs gs rs kvs f)) xs gs rs (some (.d (.lst ((cash :: gs).map .str))) :: some (.own (.lst (rs.map rowD))) :: List.replicate 13 none)) (fun N kN => ?_) ?_
  · walk_at "dd"
    refine ⟨by rw [List.length_map]; exact Nat.le_trans (show 1 + gs.length ≤ 6 by omega) (by decide), ?_⟩
    walk_at "dd"
    exact kN _ rfl
  rintro δ rfl
  with_reducible refine DR.cut (fun δ => ∃ (ys : List D) (ts : List Row) (q6 q7 : Option DV) (m : Nat), m ≤ n + 200 ∧ Src m ys ∧ ts.Perm rs ∧ δ = stQ (.obj C (tabFs gs rs kvs f)) ys gs rs (some (.d (.lst ((cash :: gs).map .str))) :: some (.own (.lst (ts.map rowD))) :: q6 :: q7 :: List.replicate 11 none)) (fun N kN => ?_) ?_
  · walk_at "dd"
    have hz : ((rs.map rowD).length : Int) < 2 ^ 62 := Int.lt_of_le_of_lt (show _ ≤ (100 : Int) by rw [List.length_map]; omega) (by decide)
    refine ⟨Int.le_trans (by decide) (Int.natCast_nonneg _), hz, ?_⟩
    refine DR.for_inv (fun i δ => ∃ (ys : List D) (ts : List Row) (q6 q7 : Option DV), Src (n + 2 * i) ys ∧ ts.Perm rs ∧ δ = stQ (.obj C (tabFs gs rs kvs f)) ys gs rs (some (.d (.lst ((cash :: gs).map .str))) :: some (.own (.lst (ts.map rowD))) :: q6 :: q7 :: List.replicate 11 none)) ⟨xs, rs, _, _, hs, .refl _, rfl⟩ ?stp ?fn
    case fn =>
      rintro δ ⟨ys, ts, q6, q7, h1, h2, rfl⟩
      rw [upto_len, Int.toNat_natCast, List.length_map] at h1
      exact kN _ ⟨ys, ts, _, _, _, by omega, h1, h2, rfl⟩
    case stp =>
    rintro i x δ N2 hx ⟨ys, ts, q6, q7, h1, h2, rfl⟩ kN2
    obtain ⟨rfl, hi⟩ := upto_at hx
    rw [Int.toNat_natCast, List.length_map] at hi
    have htl : ts.length = rs.length := h2.length_eq
    walk_at "dd"
    refine draw h1 (by omega) (by rw [List.length_map]; omega) (by rw [List.length_map]; omega) fun z ys z0 z1 h1 => ?_
    rw [List.length_map] at z1
    obtain ⟨r, rfl⟩ := Int.eq_ofNat_of_zero_le z0
    have hr : r < ts.length := by omega
    walk_at "dd"
    refine ⟨[_], _, rfl, rfl, _, r, rowD ts[r], rfl, by omega, by omega, seq_ix (by rw [List.length_map]; exact hr), by rw [List.getElem?_map, List.getElem?_eq_getElem hr]; rfl, ?_⟩
    walk_at "dd"
    rw [er_map, List.length_map]
    have hel := er_len hr
    refine draw h1 (by omega) (by omega) (by omega) fun z ys z0 z1 h1 => ?_
    obtain ⟨j, rfl⟩ := Int.eq_ofNat_of_zero_le z0
    walk_at "dd"
    refine ⟨[_, _], _, rfl, rfl, _, _, rfl, by rw [List.length_map]; exact Nat.lt_of_le_of_lt (show _ ≤ 100 by omega) (by decide), z0, by omega, ?_⟩
    rw [Int.toNat_natCast]
    exact kN2 _ ⟨ys, ins (ts.eraseIdx r) j ts[r], some (.d (.int i)), some (.d (rowD ts[r])), h1, (ins_perm.trans (er_perm hr)).trans h2, by rw [ins_map]; rfl⟩
  rintro δ ⟨ys, ts, q6, q7, m, hm, hs, hp, rfl⟩
  have hcap : ∀ ts : List Row, ts.Perm rs → ∀ r ∈ ts, r.2.2 ≤ 1000000000000 := fun ts hp r hr => (hgr.row r (hp.mem_iff.mp hr)).2.2.2.2
  have hel : ∀ a b, a ∈ cash :: gs → b ∈ cash :: gs → e a b ≤ 5000000000000 := fun a b ha hb => hgr.ent_le hent h6 ha hb
  have hmet := hent.met hfr
  have hfe : FineRows (cash :: gs) (entRows (cash :: gs) e) := fine_ent hnd hmet.nn
  have hent5 : ∀ r ∈ entRows (cash :: gs) e, r.2.2 ≤ 5000000000000 := fun r hr => by
    obtain ⟨h1, h2, _, h4⟩ := entRows_mem.mp hr
    rw [h4]
    exact hel _ _ h1 h2
  with_reducible refine DR.cut (fun δ => δ = stQ (.obj C (tabFs gs rs kvs f)) ys gs rs (some (.d (.lst ((cash :: gs).map .str))) :: some (.d (.lst (ts.map rowD))) :: q6 :: q7 :: List.replicate 11 none)) (fun N kN => ?_) ?_
  · walk_at "dd"
    refine ⟨rfl, ?_⟩
    walk_at "dd"
    refine ⟨rfl, new_tabY (.inl rfl) (.inl rfl) hg (hfr.perm hp) (hcap ts hp) fun fs e2 t2 => ⟨rfl, _, _, rfl, ?_⟩⟩
    have he2 : ∀ a b, a ∈ cash :: gs → b ∈ cash :: gs → e2 a b = e a b := fun a b ha hb => by
      obtain ⟨_, _, _, _, _, _, _, _, h, _⟩ := t2
      exact (h.mem fun r => hp.mem_iff).unique hent ha hb
    walk_at "dd"
    refine eq_tab t2 ht fun b hb => ⟨b, rfl, ?_⟩
    obtain rfl : b = true := hb.mpr ⟨rfl, entRows_congr he2⟩
    walk_at "dd"
    refine ⟨_, _, rfl, .inl rfl, ?_⟩
    walk_at "dd"
    refine ⟨gs, rs, e, _, rfl, ht, ?_⟩
    walk_at "dd"
    refine ⟨rfl, ?_⟩
    walk_at "dd"
    refine ⟨rfl, new_tabY (.inr rfl) (.inr rfl) hg hfe (fun r hr => Int.le_trans (hent5 r hr) (by decide)) fun fs e3 t3 => ⟨rfl, _, _, rfl, ?_⟩⟩
    have he3 : ∀ a b, a ∈ cash :: gs → b ∈ cash :: gs → e a b = e3 a b := fun a b ha hb => by
      obtain ⟨_, _, _, _, _, _, _, _, h, _⟩ := t3
      exact hmet.ent.unique h ha hb
    walk_at "dd"
    refine ⟨.inl ⟨_, rfl, T.nf_Table⟩, eq_tab ht t3 fun b hb => ⟨b, rfl, ?_⟩⟩
    obtain rfl : b = true := hb.mpr ⟨rfl, entRows_congr he3⟩
    walk_at "dd"
    exact kN _ rfl
  rintro δ rfl
  have hsq : 1 ≤ (prs (cash :: gs)).length := by
    obtain ⟨g0, gt, eg⟩ : ∃ g0 gt, gs = g0 :: gt := by
      cases h : gs with
      | nil => rw [h] at hg1; exact absurd hg1 (by decide)
      | cons g0 gt => exact ⟨_, _, rfl⟩
    have : (cash, g0) ∈ prs (cash :: gs) := prs_mem.mpr ⟨List.mem_cons_self, by rw [eg]; exact List.mem_cons_of_mem _ List.mem_cons_self, fun e => (hg.2.2.2 g0 (by rw [eg]; exact List.mem_cons_self)).1 e.symm⟩
    exact List.length_pos_of_mem this
  with_reducible refine DR.cut (fun δ => ∃ (ys : List D) (p : Str × Str) (m : Nat), m ≤ n + 201 ∧ Src m ys ∧ p ∈ prs (cash :: gs) ∧ δ = stQ (.obj C (tabFs gs rs kvs f)) ys gs rs (some (.d (.lst ((cash :: gs).map .str))) :: some (.d (.lst (ts.map rowD))) :: q6 :: q7 :: some (.d (prD p)) :: List.replicate 10 none)) (fun N kN => ?_) ?_
  · walk_at "dd"
    refine ⟨cash :: gs, rfl, h10, ?_⟩
    walk_at "dd"
    have hpl := prs_len_eq hnd
    have e1 : (((cash :: gs).map D.str).length : Int) * ((((cash :: gs).map D.str).length : Int) - 1) = ((prs (cash :: gs)).length : Int) := by
      rw [hpl, List.length_map, Int.natCast_mul, Int.ofNat_sub (by rw [List.length_cons]; omega)]
      rfl
    refine ⟨RD9.mulr (by rw [List.length_map]; omega) (by rw [List.length_map]; omega), ?_⟩
    rw [e1]
    have hp100 : (prs (cash :: gs)).length ≤ 100 := prs_len h10
    walk_at "dd"
    refine draw hs (by omega) (by omega) (by omega) fun z ys z0 z1 hs => ?_
    obtain ⟨r, rfl⟩ := Int.eq_ofNat_of_zero_le z0
    have hr : r < (prs (cash :: gs)).length := by omega
    refine ⟨_, rfl, _, _, .inl rfl, atI_map (List.getElem?_eq_getElem hr), ?_⟩
    exact kN _ ⟨ys, _, _, by omega, hs, List.getElem_mem hr, rfl⟩
  rintro δ ⟨ys, p, m, hm, hs, hpm, rfl⟩
  with_reducible refine DR.cut (fun δ => δ = stQ (.obj C (tabFs gs rs kvs f)) ys gs rs (some (.d (.lst ((cash :: gs).map .str))) :: some (.d (.lst (ts.map rowD))) :: q6 :: q7 :: some (.d (prD p)) :: some (.d (.lst ((entRows (cash :: gs) (hi e p)).map rowD))) :: List.replicate 9 none)) (fun N kN => ?_) ?_
  · walk_at "dd"
    refine ⟨gs, rs, e, _, rfl, ht, ?_⟩
    walk_at "dd"
    refine DR.lc_mapM (l := entRows (cash :: gs) e) (r := rowD) (fun r => rowD (r.1, r.2.1, r.2.2 + if (r.1, r.2.1) = p then 1 else 0)) (fun r acc N hr hl2 kN => ?_) ?_
    · obtain ⟨a, b, v⟩ := r
      walk_at "dd"
      refine eqd_t (dp_pr (p := (a, b))).cmp (dp_pr (p := p)).cmp eqv_pr ?_
      walk_at "dd"
      refine ⟨Nat.lt_of_lt_of_le hl2 (Nat.le_trans (by rw [entRows_len]; exact prs_len h10) (by decide)), ?_⟩
      have e2 : (if decide ((a, b) = p) = true then (1 : Int) else 0) = if (a, b) = p then 1 else 0 := by simp
      rw [← e2] at kN
      exact kN
    rw [hi_rows]
    exact kN _ rfl
  rintro δ rfl
  have hfh : FineRows (cash :: gs) (entRows (cash :: gs) (hi e p)) := fine_ent hnd (hi_nn hmet)
  with_reducible refine DR.cut (fun δ => ∃ (fn : Fn) (e4 : En), Ent (cash :: gs) (entRows (cash :: gs) (hi e p)) e4 ∧ (∀ a b, a ∈ cash :: gs → b ∈ cash :: gs → fn a b = some (e4 a b)) ∧ δ = stQ (.obj C (tabFs gs rs kvs f)) ys gs rs (some (.d (.lst ((cash :: gs).map .str))) :: some (.d (.lst (ts.map rowD))) :: q6 :: q7 :: some (.d (prD p)) :: some (.d (.lst ((entRows (cash :: gs) (hi e p)).map rowD))) :: some (.d (.dT (es (sq (cash :: gs)) fn))) :: List.replicate 8 none)) (fun N kN => ?_) ?_
  · walk_at "dd"
    refine ⟨cash :: gs, entRows (cash :: gs) (hi e p), rfl, hnd, h10, fun r hr => ⟨(hfh.row r hr).1, (hfh.row r hr).2.1⟩, fun r hr => (hfh.row r hr).2.2.2, fun fn hf => ?_⟩
    obtain ⟨e4, h1, h2⟩ := IsDist.ent hfh hf
    exact kN _ ⟨fn, e4, h1, h2, rfl⟩
  rintro δ ⟨fn, e4, he4, hfn, rfl⟩
  with_reducible refine DR.cut (fun δ => δ = stQ (.obj C (tabFs gs rs kvs f)) ys gs rs (some (.d (.lst ((cash :: gs).map .str))) :: some (.d (.lst (ts.map rowD))) :: q6 :: q7 :: some (.d (prD p)) :: some (.d (.lst ((entRows (cash :: gs) (hi e p)).map rowD))) :: some (.d (.dT (es (sq (cash :: gs)) fn))) :: some (.d (.bl ((entRows (cash :: gs) e).all fun r => decide (e4 r.1 r.2.1 = r.2.2)))) :: List.replicate 7 none)) (fun N kN => ?_) ?_
  · walk_at "dd"
    refine ⟨gs, rs, e, _, rfl, ht, ?_⟩
    walk_at "dd"
    refine DR.lc_mapM (l := entRows (cash :: gs) e) (r := rowD) (fun r => D.bl (decide (e4 r.1 r.2.1 = r.2.2))) (fun r acc N hr hl2 kN => ?_) ?_
    · obtain ⟨a, b, v⟩ := r
      obtain ⟨ha, hb, _⟩ := entRows_mem.mp hr
      walk_at "dd"
      refine ⟨_, k2 a b, .int (e4 a b), rfl, rfl, by rw [val_es (mem_sq.mpr ⟨ha, hb⟩), hfn a b ha hb]; rfl, ?_⟩
      walk_at "dd"
      refine ⟨Nat.lt_of_lt_of_le hl2 (Nat.le_trans (by rw [entRows_len]; exact prs_len h10) (by decide)), ?_⟩
      rw [if_neg Bool.false_ne_true, v_int]
      exact kN
    walk_at "dd"
    refine ⟨(entRows (cash :: gs) e).map fun r => decide (e4 r.1 r.2.1 = r.2.2), .inl (by rw [List.map_map]; rfl), ?_⟩
    dsimp only
    rw [List.all_map]
    walk_at "dd"
    exact kN _ rfl
  rintro δ rfl
  have hcap2 : ∀ r ∈ entRows (cash :: gs) (hi e p), r.2.2 ≤ 6 * 10 ^ (12 : Int).toNat := fun r hr => by
    obtain ⟨h1, h2, _, h4⟩ := entRows_mem.mp hr
    rw [h4]
    exact Int.le_trans (hi_le (hel _ _ h1 h2)) (by decide)
  generalize hB : ((entRows (cash :: gs) e).all fun r => decide (e4 r.1 r.2.1 = r.2.2)) = B
  with_reducible refine DR.cut (fun δ => δ = stQ (.obj C (tabFs gs rs kvs f)) ys gs rs (some (.d (.lst ((cash :: gs).map .str))) :: some (.d (.lst (ts.map rowD))) :: q6 :: q7 :: some (.d (prD p)) :: some (.d (.lst ((entRows (cash :: gs) (hi e p)).map rowD))) :: some (.d (.dT (es (sq (cash :: gs)) fn))) :: some (.d (.bl B)) :: List.replicate 7 none)) (fun N kN => ?_) ?_
  · walk_at "dd"
    refine ⟨rfl, ?_⟩
    walk_at "dd"
    refine ⟨rfl, new_tabY (.inl rfl) (.inl rfl) hg hfh hcap2 fun fs e5 t5 => ⟨rfl, _, _, rfl, ?_⟩⟩
    have he5 : ∀ a b, a ∈ cash :: gs → b ∈ cash :: gs → e5 a b = e4 a b := fun a b ha hb => by
      obtain ⟨_, _, _, _, _, _, _, _, h, _⟩ := t5
      exact h.unique he4 ha hb
    walk_at "dd"
    refine ⟨.inl ⟨_, rfl, T.nf_Table⟩, eq_tab t5 ht fun b hb => ⟨b, rfl, ?_⟩⟩
    obtain rfl : b = B := by
      rw [Bool.eq_iff_iff, hb, ← hB, List.all_eq_true]
      refine (and_iff_right rfl).trans (entRows_eq.trans ⟨fun h r hr => decide_eq_true ?_, fun h q hq => ?_⟩)
      · obtain ⟨h1, h2, h3, h4⟩ := entRows_mem.mp hr
        rw [h4, ← he5 _ _ h1 h2]
        exact h (r.1, r.2.1) (prs_mem.mpr ⟨h1, h2, h3⟩)
      · obtain ⟨a, b⟩ := q
        obtain ⟨h1, h2, h3⟩ := prs_mem.mp hq
        have := of_decide_eq_true (h (a, b, e a b) (entRows_mem.mpr ⟨h1, h2, h3, rfl⟩))
        rw [he5 _ _ h1 h2]
        exact this
    walk_at "dd"
    refine ⟨rfl, DR.nost_b, _, rfl, ?_⟩
    rw [if_pos rfl, decide_eq_true rfl]
    walk_at "dd"
    exact kN _ rfl
  rintro δ rfl
  obtain ⟨fresh, ft, ef, f6, fn0⟩ := six_free hg5
  have fnm := six_nm fresh f6
  with_reducible refine DR.cut (fun δ => δ = stQ (.obj C (tabFs gs rs kvs f)) ys gs rs (some (.d (.lst ((cash :: gs).map .str))) :: some (.d (.lst (ts.map rowD))) :: q6 :: q7 :: some (.d (prD p)) :: some (.d (.lst ((entRows (cash :: gs) (hi e p)).map rowD))) :: some (.d (.dT (es (sq (cash :: gs)) fn))) :: some (.d (.bl B)) :: some (.d (.str fresh)) :: List.replicate 6 none)) (fun N kN => ?_) ?_
  · walk_at "dd"
    refine ⟨by show 6 ≤ sizeLine; decide, _, .inl rfl, ?_⟩
    refine DR.lc_filterM (l := six) (r := D.str) (fun g => if g ∉ gs then some (.str g) else none) (fun g acc N hg6 hl2 kN => ?_) ?_
    · walk_at "dd"
      refine ⟨_, _, _, rfl, rfl, scL_str, ?_⟩
      walk_at "dd"
      rw [if_pos rfl, inV_str]
      by_cases hgm : g ∈ gs
      · rw [decide_eq_true hgm]
        walk_at "dd"
        rw [if_neg (fun z => z hgm), Option.toList_none, List.append_nil] at kN
        exact kN
      · rw [decide_eq_false hgm]
        walk_at "dd"
        rw [if_pos hgm] at kN
        exact ⟨Nat.lt_of_lt_of_le hl2 (by show 6 ≤ sizeLine; decide), kN⟩
    · walk_at "dd"
      rw [fm_str, ef]
      refine ⟨_, _, .inl rfl, atI_map (i := 0) rfl, ?_⟩
      exact kN _ rfl
  rintro δ rfl
  obtain ⟨init, last, egs⟩ := goods_last hg
  with_reducible refine DR.cut (fun δ => δ = stQ (.obj C (tabFs gs rs kvs f)) ys gs rs (some (.d (.lst ((cash :: gs).map .str))) :: some (.d (.lst (ts.map rowD))) :: q6 :: q7 :: some (.d (prD p)) :: some (.d (.lst ((entRows (cash :: gs) (hi e p)).map rowD))) :: some (.d (.dT (es (sq (cash :: gs)) fn))) :: some (.d (.bl B)) :: some (.d (.str fresh)) :: some (.d (.str last)) :: List.replicate 5 none)) (fun N kN => ?_) ?_
  · walk_at "dd"
    refine ⟨_, _, .inl rfl, by rw [egs]; exact at_last, ?_⟩
    exact kN _ rfl
  rintro δ rfl
  with_reducible refine DR.cut (fun δ => δ = stQ (.obj C (tabFs gs rs kvs f)) ys gs rs (some (.d (.lst ((cash :: gs).map .str))) :: some (.d (.lst (ts.map rowD))) :: q6 :: q7 :: some (.d (prD p)) :: some (.d (.lst ((entRows (cash :: gs) (hi e p)).map rowD))) :: some (.d (.dT (es (sq (cash :: gs)) fn))) :: some (.d (.bl B)) :: some (.d (.str fresh)) :: some (.d (.str last)) :: some (.d (.lst ((rs.map (renR last fresh)).map rowD))) :: List.replicate 4 none)) (fun N kN => ?_) ?_
  · walk_at "dd"
    refine DR.lc_mapM (l := rs) (r := rowD) (fun r => rowD (renR last fresh r)) (fun r acc N hr hl2 kN => ?_) ?_
    · obtain ⟨a, b, v⟩ := r
      have hz : acc.length < sizeLine := Nat.lt_of_lt_of_le hl2 (Nat.le_trans hrl (by decide))
      unfold renR ren at kN
      dsimp only at kN
      walk_at "dd"
      refine DR.split (fun c => ?_) (fun c => ?_)
      · rw [if_pos c] at kN
        walk_at "dd"
        refine DR.split (fun c2 => ?_) (fun c2 => ?_)
        · rw [if_pos c2] at kN
          walk_at "dd"
          exact ⟨hz, kN⟩
        · rw [if_neg c2] at kN
          walk_at "dd"
          exact ⟨hz, kN⟩
      · rw [if_neg c] at kN
        walk_at "dd"
        refine DR.split (fun c2 => ?_) (fun c2 => ?_)
        · rw [if_pos c2] at kN
          walk_at "dd"
          exact ⟨hz, kN⟩
        · rw [if_neg c2] at kN
          walk_at "dd"
          exact ⟨hz, kN⟩
    rw [show rs.map (fun r => rowD (renR last fresh r)) = (rs.map (renR last fresh)).map rowD by rw [List.map_map]; rfl]
    exact kN _ rfl
  rintro δ rfl
  with_reducible refine DR.cut (fun δ => δ = stQ (.obj C (tabFs gs rs kvs f)) ys gs rs (some (.d (.lst ((cash :: gs).map .str))) :: some (.d (.lst (ts.map rowD))) :: q6 :: q7 :: some (.d (prD p)) :: some (.d (.lst ((entRows (cash :: gs) (hi e p)).map rowD))) :: some (.d (.dT (es (sq (cash :: gs)) fn))) :: some (.d (.bl B)) :: some (.d (.str fresh)) :: some (.d (.str last)) :: some (.d (.lst ((rs.map (renR last fresh)).map rowD))) :: List.replicate 4 none)) (fun N kN => ?_) ?_
  · walk_at "dd"
    have hgr2 : Goods (init ++ [last]) := by rw [← egs]; exact hg
    have hfr2 : FineRows (cash :: reG init fresh) (rs.map (renR last fresh)) := ren_rows hgr2 (by rw [← egs]; exact fn0) fnm (by rw [← egs]; exact hfr)
    have ecut : DL.cutD (gs.map D.str) none (some (-1)) = init.map D.str := by rw [egs]; exact cut_init
    have hil : init.length ≤ 5 := by rw [egs, List.length_append] at hg5; omega
    refine ⟨by rw [ecut, List.length_map]; exact Nat.le_trans (show _ + 1 ≤ 6 by omega) (by decide), ?_⟩
    walk_at "dd"
    refine ⟨rfl, ?_⟩
    walk_at "dd"
    have hcap3 : ∀ r ∈ rs.map (renR last fresh), r.2.2 ≤ 1000000000000 := fun r hr => by
      obtain ⟨q, hq, rfl⟩ := List.mem_map.mp hr
      exact (hgr.row q hq).2.2.2.2
    refine ⟨rfl, new_tabY (gs := reG init fresh) (.inl (by rw [ecut]; unfold reG; rw [List.map_append]; rfl)) (.inl rfl) (reG_goods hgr2 (by rw [← egs]; exact fn0) fnm) hfr2 hcap3 fun fs e6 t6 => ⟨rfl, _, _, rfl, ?_⟩⟩
    walk_at "dd"
    refine ⟨.inl ⟨_, rfl, T.nf_Table⟩, eq_tab t6 ht fun b hb => ⟨b, rfl, ?_⟩⟩
    obtain rfl : b = false := by
      cases hb2 : b with
      | false => rfl
      | true =>
        have := (hb.mp hb2).1
        exact absurd (show fresh ∈ gs by rw [← this]; exact List.mem_append_right _ List.mem_cons_self) fn0
    walk_at "dd"
    refine ⟨gs, rs, e, _, rfl, ht, ?_⟩
    walk_at "dd"
    refine ⟨.inr ⟨_, .tup _, T.nf_Ttup⟩, _, _, rfl, .inr ⟨gs, rs, e, _, ht, .inl rfl, _, rfl, ?_⟩⟩
    walk_at "dd"
    refine ⟨.inr ⟨_, .lst _, T.nf_Tlst⟩, _, _, rfl, .inr ⟨gs, rs, e, _, ht, .inr rfl, _, rfl, ?_⟩⟩
    walk_at "dd"
    exact kN _ rfl
  rintro δ rfl
  walk_at "dd"
  refine DR.split (fun c => ?_) (fun c => ?_)
  · walk_at "dd"
    exact k ys m (by omega) hs
  · have hne : gs.length ≠ 1 := fun z => c (by rw [List.length_map, z]; rfl)
    walk_at "dd"
    rw [← List.length_append, cut_rot hg1]
    have hrm : (gs.drop 1 ++ gs.take 1).length = gs.length := by rw [List.length_append, List.length_drop, List.length_take]; omega
    refine ⟨by rw [List.length_map, hrm]; exact Nat.le_trans hg5 (by decide), ?_⟩
    walk_at "dd"
    refine ⟨rfl, ?_⟩
    walk_at "dd"
    have hrn : ∀ x, x ∈ cash :: (gs.drop 1 ++ gs.take 1) ↔ x ∈ cash :: gs := fun x => rot_mem x
    refine ⟨rfl, new_tabY (.inl rfl) (.inl rfl) (rot_goods hg) (hfr.names hrn) (hcap rs (.refl _)) fun fs e7 t7 => ⟨rfl, _, _, rfl, ?_⟩⟩
    walk_at "dd"
    refine eq_tab t7 ht fun b hb => ⟨b, rfl, ?_⟩
    obtain rfl : b = false := by
      cases hb2 : b with
      | false => rfl
      | true => exact absurd (hb.mp hb2).1 (rot_ne hg.1 hne hg1)
    walk_at "dd"
    exact k ys m (by omega) hs
end
end KT

set_option Elab.async false
set_option linter.all false
set_option maxRecDepth 100000
set_option maxHeartbeats 0
set_option pp.deepTerms false
set_option pp.deepTerms.threshold 8


namespace KS
open PySem PySem.Spec PyProof.Rows L2 DL KT
def sdSourceR : SpD := fun as Q _ => ∃ (zs : List Int) (p : Nat), as = [.d (.ro (zs.map .int)), .d (.int p)] ∧ p < 64 ∧ ∀ xs, Src 0 xs → Q (.own (.lst xs)) []
section
variable {P : Program} {w : World} {K : PySem.W.Frag} {mg : Str → Option Value} {base : Heap}
abbrev s_law_source : Stmt := top 33
theorem sc_law_source : FnScope ["script", "place", "cell"] ["script", "place"] (defScope s_law_source) := ⟨rfl, rfl, rfl, by decide +kernel, rfl, by decide +kernel, by decide +kernel⟩
theorem ok_sourceR {f : Addr} {fd : FuncData} (G : Fun K "_law_source" "_law_source" s_law_source f fd) (T : TxtB mg) : FnOk P w K mg base (L2.CX P w) 1 f fd ["script", "place"] (spOf K sdSourceR) := by
  refine okD G sc_law_source [] (fun as Q E ⟨xs, m, e, _⟩ => by subst e; exact ⟨rfl, rfl⟩) ⟨_, fun cdv A outer s H E ad F0 H0 hr => (pds_cons (psd_set (i := 2) (pd_ifExp (ptd_cmp op_lt (op2_I0 fun _ _ _ => .bl _) (pd_var (pv 1)) (pd_builtB (fun h => pe_callB call_len_seq (by rfl) T.b_len (by decide +kernel) h) cn_len.op (pda_cons (pd_var (pv 0)) pda_nil)) (nomark _)) (pd_ix ix_list op2_ixL (pd_var (pv 0)) (pd_var (pv 1)) (fun _ _ => rfl)) (pd_const pe_int (fun _ => .int _))) (by show ¬ (2 ∈ ([] : List Nat)); decide) sc_law_source.nd rfl (.inl rfl))
      (pds_one (psd_ret (pd_lst (fun h => pe_lst h) (pda_cons (pd_ifExp (ptd_cmp op_ge (op2_I0 fun _ _ _ => .bl _) (pd_builtB (fun h => pe_callB call_abs (by rfl) T.b_abs (by decide +kernel) h) cn_abs.op (pda_cons (pd_var (pv 2)) pda_nil)) (pd_op op_pow (op2_I fun _ _ _ => .int _) (pd_const pe_int (fun _ => .int _)) (pd_const pe_int (fun _ => .int _))) (nomark _)) (pd_builtB (fun h => pe_callB call_abs (by rfl) T.b_abs (by decide +kernel) h) cn_abs.op (pda_cons (pd_var (pv 2)) pda_nil)) (pd_const pe_int (fun _ => .int _))) (pda_cons (pd_op op_add (op2_I0 fun _ _ _ => .int _) (pd_op op_add (op2_I0 fun _ _ _ => .int _) (pd_op op_mul (op2_I fun _ _ _ => .int _) (pd_op op_mod (op2_I fun _ _ _ => .int _) (pd_builtB (fun h => pe_callTy call_int1 (by rfl) T.b_int (by decide +kernel) h) cn_int.op (pda_cons (pd_var (pv 2)) pda_nil)) (pd_const pe_int (fun _ => .int _))) (pd_const pe_int (fun _ => .int _))) (pd_op op_mul (op2_I fun _ _ _ => .int _) (pd_const pe_int (fun _ => .int _)) (pd_var (pv 1)))) (pd_const pe_int (fun _ => .int _))) (pda_cons (pd_const pe_int (fun _ => .int _)) pda_nil))))))), ?_⟩
  rintro as Qd Ed ⟨zs, p, rfl, hp, k⟩
  refine DR.start (δ' := [some (.d (.ro (zs.map .int))), some (.d (.int p)), none]) rfl ?_
  have fin : ∀ a c : Int, Qd (.own (.lst [.int a, .int (c % 1000000000000000003 * 11 + 104729 * p + 15485863), .int 0])) [] := fun a c => by
    have h1 : 0 ≤ c % 1000000000000000003 := Int.emod_nonneg _ (by decide)
    have h2 : c % 1000000000000000003 < 1000000000000000003 := Int.emod_lt_of_pos _ (by decide)
    exact k _ ⟨_, _, _, rfl, by omega, by omega, by omega, by omega⟩
  walk_at "dd"
  refine DR.split (fun c => ?_) (fun c => ?_)
  · walk_at "dd"
    have hl : p < zs.length := by rw [List.length_map] at c; omega
    refine ⟨_, _, .inr rfl, atI_map (List.getElem?_eq_getElem hl), ?_⟩
    generalize zs[p] = cell
    walk_at "dd"
    refine DR.split (fun c => ?_) (fun c => ?_)
    · walk_at "dd"
      exact fin _ _
    · walk_at "dd"
      exact fin _ _
  · walk_at "dd"
    refine DR.split (fun c => ?_) (fun c => ?_)
    · walk_at "dd"
      exact fin _ _
    · walk_at "dd"
      exact fin _ _
end
end KS

set_option Elab.async false
set_option linter.all false
set_option maxRecDepth 100000
set_option maxHeartbeats 0
set_option pp.deepTerms false
set_option pp.deepTerms.threshold 8


namespace KT
open PySem PySem.Spec PyProof.Rows L2 DL
open Dst (IsDist)
def sdLaw : SpD := fun as Q _ => ∃ zs : List Int, as = [.d (.ro (zs.map .int))] ∧ Q (.d (.bl true)) []
/-! ### rows that are passed as tuples or as lists of one's own -/
def AllL (cs : Cells) : Prop := ∀ a o, (a, o) ∈ cs → IsLst o
theorem AllL.cons {cs : Cells} (h : AllL cs) {a : Addr} {ds : List D} : AllL ((a, .lst ds) :: cs) := fun b o hm => by
  rcases List.mem_cons.mp hm with hm | hm
  · cases hm; exact ⟨_, rfl⟩
  · exact h b o hm
theorem allL_set {cs : Cells} (h : AllL cs) {n : Nat} {a : Addr} {ds : List D} : AllL (cs.set n (a, .lst ds)) := fun b o hm => by
  rcases List.mem_or_eq_of_mem_set hm with hm | hm
  · exact h b o hm
  · cases hm; exact ⟨_, rfl⟩
theorem mem_set_ne {cs : Cells} {n : Nat} {a b : Addr} {o o' o2 : OC} (hn : cs[n]? = some (a, o)) (ne : b ≠ a) (h : (b, o2) ∈ cs) : (b, o2) ∈ cs.set n (a, o') := by
  obtain ⟨l, r, e1, e2⟩ := cells_at hn
  rw [e2]
  rw [e1] at h
  rcases List.mem_append.mp h with h | h
  · exact List.mem_append_left _ h
  · rcases List.mem_cons.mp h with h | h
    · cases h; exact absurd rfl ne
    · exact List.mem_append_right _ (List.mem_cons_of_mem _ h)
theorem mem_set_at {cs : Cells} {n : Nat} {a : Addr} {o o' : OC} (hn : cs[n]? = some (a, o)) : (a, o') ∈ cs.set n (a, o') := List.mem_of_getElem? (List.getElem?_set_self (set_lt hn))
theorem Fill.trans_ {K : PySem.W.Frag} {cs : Cells} {x y z : D} (h1 : Fill K cs x y) (h2 : Fill K cs y z) : Fill K cs x z := fun F v hc r => h2 F v hc (h1 F v hc r)
theorem fillL_mono {K : PySem.W.Frag} {cs cs' : Cells} {xs ys : List D} (h : FillL K cs xs ys) (m : ∀ z ∈ cs, z ∈ cs') : FillL K cs' xs ys := fun F vs hc r => h F vs (fun a o hm => hc a o (m _ hm)) r
theorem lc_fix {g : TDG} {tt : TDT} {te : TD} {vs : List Nat} {xs : List D} {δ : DSt} {Q : List D → DSt → Prop} (f : Nat → List D) (h0 : f 0 = [])
    (hs : ∀ i x (N : List D → DSt → Prop), xs[i]? = some x → N (f (i + 1)) δ → g x δ (fun δ1 => tt δ1 (fun b δ2 => if b = true then te δ2 (fun y δ3 => (f i).length < sizeLine ∧ N (f i ++ [y.toD]) (wipeD δ3 vs)) noX else N (f i) (wipeD δ2 vs)) noX))
    (hn : Q (f xs.length) δ) : lcD g tt te vs xs [] δ Q := by
  refine DR.lc_inv (fun i acc δ' => δ' = δ ∧ acc = f i) ⟨rfl, h0.symm⟩ (fun i x acc δ' N hx h kN => ?_) fun acc δ' h => by obtain ⟨e1, e2⟩ := h; rw [e1, e2]; exact hn
  obtain ⟨e1, e2⟩ := h
  subst e1 e2
  exact hs i x N hx (kN _ _ ⟨rfl, rfl⟩)
theorem cmp_strs {l : List Str} : Cmp (.lst (l.map .str)) := (dp_lst (dp_map fun r _ => dp_str)).cmp
theorem cmp_rows {l : List Row} : Cmp (.lst (l.map rowD)) := (dp_lst (dp_map fun r _ => dp_rw r)).cmp
theorem cmp_rowsT {l : List Row} : Cmp (.tup (l.map rowD)) := (dp_tup (dp_map fun r _ => dp_rw r)).cmp
theorem cmp_strsT {l : List Str} : Cmp (.tup (l.map .str)) := (dp_strs l).cmp
theorem eq_self {d : D} (h : Cmp d) : PyData.eqv d.py d.py = true := eqv_self _ (noDict h.1)
theorem fresh_ne {cs : Cells} {a b : Addr} {o : OC} (h : a ∉ cs.map (·.1)) (m : (b, o) ∈ cs) : b ≠ a := fun e => h (by rw [← e]; exact List.mem_map.mpr ⟨_, m, rfl⟩)
abbrev rowL (r : Row) : List D := [.str r.1, .str r.2.1, .int r.2.2]
/-- one item of the list at a0 -/
def ItR (a0 : Addr) (cs : Cells) (x : D) (r : Row) : Prop := (∃ a, x = .adr a ∧ a ≠ a0 ∧ (a, OC.lst (rowL r)) ∈ cs) ∨ x = rowD r
inductive Its (a0 : Addr) (cs : Cells) : List D → List Row → Prop
  | nil : Its a0 cs [] []
  | cons {x : D} {r : Row} {xs : List D} {rs : List Row} (h : ItR a0 cs x r) (t : Its a0 cs xs rs) : Its a0 cs (x :: xs) (r :: rs)
theorem Its.imp {a0 : Addr} {cs cs' : Cells} (h : ∀ b o, b ≠ a0 → (b, o) ∈ cs → (b, o) ∈ cs') {xs : List D} {rs : List Row} (q : Its a0 cs xs rs) : Its a0 cs' xs rs := by
  induction q with
  | nil => exact .nil
  | cons q _ ih =>
    refine .cons ?_ ih
    rcases q with ⟨a, e, ne, m⟩ | e
    · exact .inl ⟨a, e, ne, h _ _ ne m⟩
    · exact .inr e
theorem Its.app {a0 : Addr} {cs : Cells} {x : D} {r : Row} (h : ItR a0 cs x r) {xs : List D} {rs : List Row} (q : Its a0 cs xs rs) : Its a0 cs (xs ++ [x]) (rs ++ [r]) := by
  induction q with
  | nil => exact .cons h .nil
  | cons q _ ih => exact .cons q ih
theorem Its.len {a0 : Addr} {cs : Cells} {xs : List D} {rs : List Row} (q : Its a0 cs xs rs) : xs.length = rs.length := by
  induction q with
  | nil => rfl
  | cons _ _ ih => rw [List.length_cons, List.length_cons, ih]
theorem Its.fill {K : PySem.W.Frag} {a0 : Addr} {cs : Cells} {xs : List D} {rs : List Row} (q : Its a0 cs xs rs) : ∃ ds, FillL K cs xs ds ∧ AsRows ds rs := by
  induction q with
  | nil => exact ⟨[], .nil, .nil⟩
  | @cons x r xs rs q _ ih =>
    obtain ⟨ds, h1, h2⟩ := ih
    rcases q with ⟨a, rfl, _, m⟩ | rfl
    · exact ⟨.lst (rowL r) :: ds, .cons (Fill.adr m) h1, .cons (.inr rfl) h2⟩
    · exact ⟨rowD r :: ds, .cons .refl h1, .cons (.inl rfl) h2⟩
/-- one item, whatever its number -/
def ItW (a0 a1 : Addr) (cs : Cells) (x : D) : Prop := (∃ (a : Addr) (s t : Str) (v : Int), x = .adr a ∧ a ≠ a0 ∧ a ≠ a1 ∧ (a, OC.lst [.str s, .str t, .int v]) ∈ cs) ∨ ∃ r : Row, x = rowD r
theorem Its.weak {a0 a1 : Addr} {cs : Cells} {xs : List D} {rs : List Row} (q : Its a0 cs xs rs) (h : a1 ∉ cs.map (·.1)) : ∀ x ∈ xs, ItW a0 a1 cs x := by
  induction q with
  | nil => exact fun x h => nomatch h
  | cons q _ ih =>
    intro x hx
    rcases List.mem_cons.mp hx with rfl | hx
    · rcases q with ⟨a, e, ne, m⟩ | e
      · exact .inl ⟨a, _, _, _, e, ne, fresh_ne h m, m⟩
      · exact .inr ⟨_, e⟩
    · exact ih x hx
theorem itW_imp {a0 a1 : Addr} {cs cs' : Cells} {x : D} (h : ∀ b o, (b, o) ∈ cs → (b, o) ∈ cs') (q : ItW a0 a1 cs x) : ItW a0 a1 cs' x := by
  rcases q with ⟨a, s, t, v, e, n0, n1, m⟩ | q
  · exact .inl ⟨a, s, t, v, e, n0, n1, h _ _ m⟩
  · exact .inr q
theorem itW_set {a0 a1 a : Addr} {cs : Cells} {n : Nat} {s t : Str} {v w : Int} {x : D} (hn : cs[n]? = some (a, OC.lst [.str s, .str t, .int v])) (q : ItW a0 a1 cs x) : ItW a0 a1 (cs.set n (a, OC.lst [.str s, .str t, .int w])) x := by
  rcases q with ⟨b, s2, t2, v2, e, n0, n1, m⟩ | q
  · by_cases z : b = a
    · subst z
      exact .inl ⟨b, s, t, w, e, n0, n1, mem_set_at hn⟩
    · exact .inl ⟨b, s2, t2, v2, e, n0, n1, mem_set_ne hn z m⟩
  · exact .inr q
/-! ### tables hold no list -/
theorem noL_strs : ∀ {l : List Str}, noLL (l.map D.str) = true
  | [] => rfl
  | _ :: l => by show (true && noLL (l.map D.str)) = true; rw [noL_strs]; rfl
theorem noL_rows : ∀ {l : List Row}, noLL (l.map rowD) = true
  | [] => rfl
  | r :: l => by show (true && noLL (l.map rowD)) = true; rw [noL_rows]; rfl
theorem noL_ent {f : Fn} : ∀ {l : List (Str × Str)}, noLL (l.map fun p => D.tup [.str p.1, .str p.2, optD (f p.1 p.2)]) = true
  | [] => rfl
  | p :: l => by
    show ((true && (true && ((optD (f p.1 p.2)).noL && true))) && noLL (l.map _)) = true
    rw [noL_ent]
    cases f p.1 p.2 <;> rfl
theorem noL_dct : ∀ {kvs : List (List Key × D)}, (∀ p ∈ kvs, ∃ n : Int, p.2 = .int n) → noLT kvs = true
  | [], _ => rfl
  | (k, d) :: kvs, h => by
    obtain ⟨n, e⟩ := h _ List.mem_cons_self
    show (d.noL && noLT kvs) = true
    rw [noL_dct fun p hp => h p (List.mem_cons_of_mem _ hp)]
    dsimp only at e
    subst e
    rfl
theorem noL_tab {C : Addr} {gs : List Str} {rs : List Row} {kvs : List (List Key × D)} {f : Fn} (h : Dct (cash :: gs) kvs f) : (D.obj C (tabFs gs rs kvs f)).noL = true := by
  show (noLL (gs.map D.str) && (noLL ((cash :: gs).map D.str) && (noLL (rs.map rowD) && (noLT kvs && (noLL (ent (cash :: gs) f) && true))))) = true
  rw [noL_strs, noL_strs, noL_rows, noL_dct (fun p hp => by obtain ⟨a, b, n, _, _, rfl, _⟩ := h.at_ hp; exact ⟨n, rfl⟩), show noLL (ent (cash :: gs) f) = true from noL_ent]
  rfl
abbrev stA (zs : List Int) (i : Int) (ys : List D) (gs : List Str) (rs : List Row) (fn : Fn) (r : List (Option DV)) : DSt := some (.d (.ro (zs.map .int))) :: some (.d (.int i)) :: some (.own (.lst ys)) :: some (.d (.lst (gs.map .str))) :: some (.d (.lst ((cash :: gs).map .str))) :: some (.d (.lst (rs.map rowD))) :: some (.d (.dT (es (sq (cash :: gs)) fn))) :: r
section
variable {P : Program} {w : World} {K : PySem.W.Frag} {mg : Str → Option Value} {base : Heap} {C OG ME NA : Addr}
abbrev s_Table___iter : Stmt := inClass (top 31) 13
theorem sc_Table___iter : FnScope ["self"] ["self"] (defScope s_Table___iter) := ⟨rfl, rfl, rfl, by decide +kernel, rfl, by decide +kernel, by decide +kernel⟩
abbrev s_law : Stmt := top 48
theorem sc_law : FnScope ["script", "place", "source", "goods", "names", "rows", "closed", "listed", "row", "given", "copy", "table", "one", "other", "told"] ["script"] (defScope s_law) := ⟨rfl, rfl, rfl, by decide +kernel, rfl, by decide +kernel, by decide +kernel⟩
theorem ok_law {fI : Addr} {fdI : FuncData} (I_Table : IterOf K C fI "Table.__iter__" "rows" s_Table___iter fdI)
    (D_law_source : DefD P w K mg base "_law_source" 1 ["script", "place"] KS.sdSourceR) (D_law_draw : DefD P w K mg base "_law_draw" 1 ["source", "many"] sdDraw) (D_law_goods : DefD P w K mg base "_law_goods" 3 ["source", "most"] sdGoods) (D_law_rows : DefD P w K mg base "_law_rows" 5 ["source", "goods"] sdRows) (D_law_closed : DefD P w K mg base "_law_closed" 1 ["names", "rows"] sdClosed)
    (K_Table : DefK P w K mg base C 9 3 ["self", "goods", "rows", "cap"] ["cap"] [.int 1000000000000] (sdInit C)) (D_Table___getitem : DefG P w K mg base C 5 ["self", "at"] (sdGet C)) (D_Table_chain : DefM P w K mg base C "chain" 7 ["self", "up", "down"] (sdChain C))
    (D_law_entries_right : DefD P w K mg base "_law_entries_right" 3 ["table", "names", "closed"] (sdEntR C)) (D_law_is_whole : DefD P w K mg base "_law_is_whole" 1 ["thing"] sdWholeL) (D_law_is_chain : DefD P w K mg base "_law_is_chain" 1 ["told", "rows", "up", "down", "due"] sdIsChain)
    (D_law_strangers : DefD P w K mg base "_law_strangers" 11 ["table", "source", "names"] (sdStrg C)) (D_law_equal_ones : DefD P w K mg base "_law_equal_ones" 11 ["table", "source", "goods", "rows"] (sdEqOnes C)) (D_law_sums_right : DefD P w K mg base "_law_sums_right" 3 ["source", "names", "rows"] sdSumsR)
    {f : Addr} {fd : FuncData} (G : Fun K "law" "law" s_law f fd) (T : TxtM K mg C OG ME NA) : FnOk P w K mg base (L2.CX P w) 13 f fd ["script"] (spOf K sdLaw) := by
  refine okD G sc_law [] (fun as Q E ⟨xs, e, _⟩ => by subst e; exact ⟨rfl, rfl⟩) ⟨_, fun cdv A outer s H E ad F0 H0 hr => (pss_exit (pdsc_cons (psc_forR (passes_of rfl) rfl (pid_range1 (by rfl) T.b_range (pda_cons (pd_builtB (fun h => pe_callB (call_max2 rfl) (by rfl) T.b_max (by decide +kernel) h) cn_two.op (pda_cons (pd_const pe_int (fun _ => .int _)) (pda_cons (pd_builtB (fun h => pe_callB (call_min2 rfl) (by rfl) T.b_min (by decide +kernel) h) cn_two.op (pda_cons (pd_const pe_int (fun _ => .int _)) (pda_cons (pd_builtB (fun h => pe_callB call_len_seq (by rfl) T.b_len (by decide +kernel) h) cn_len.op (pda_cons (pd_var (pv 0)) pda_nil)) pda_nil))) pda_nil))) pda_nil)) (pgd_name (i := 1) (vs := [1]) (pg_name (i := 1) sc_law.nd rfl (.inl rfl)) (by show ¬ (1 ∈ ([] : List Nat)); decide) (by decide))
      (pdsc_cons (psc_up (psd_setO (i := 2) (pd_call D_law_source.ok (hr.mono (by decide)) (by rfl) D_law_source.mg D_law_source.kp D_law_source.b (takes_of rfl rfl rfl rfl) (pda_cons (pd_var (pv 0)) (pda_cons (pd_var (pv 1)) pda_nil))) (by show ¬ (2 ∈ ([] : List Nat)); decide) sc_law.nd rfl (.inl rfl)))
      (pdsc_cons (psc_up (psd_set (i := 3) (pd_call D_law_goods.ok (hr.mono (by decide)) (by rfl) D_law_goods.mg D_law_goods.kp D_law_goods.b (takes_of rfl rfl rfl rfl) (pda_own (i := 2) (pv 2) (pda_cons (pd_const pe_int (fun _ => .int _)) pda_nil))) (by show ¬ (3 ∈ ([] : List Nat)); decide) sc_law.nd rfl (.inl rfl)))
      (pdsc_cons (psc_up (psd_par (i := 4) (j := 5) (oi := false) (oj := false) (pka_cons (pd_op op_cat op2_cat (pd_lst (fun h => pe_lst h) (pda_cons (pd_const pe_str (fun _ => .str (by decide +kernel))) pda_nil)) (pd_var (pv 3))) (pka_cons (pd_call D_law_rows.ok (hr.mono (by decide)) (by rfl) D_law_rows.mg D_law_rows.kp D_law_rows.b (takes_of rfl rfl rfl rfl) (pda_own (i := 2) (pv 2) (pda_cons (pd_var (pv 3)) pda_nil))) pka_nil)) (by show ¬ (4 ∈ ([] : List Nat)); decide) (by show ¬ (5 ∈ ([] : List Nat)); decide) (fun h => ps_par (i := 4) (j := 5) (by rfl) sc_law.nd rfl rfl (by decide) rfl rfl h (by rfl)) (by decide)))
      (pdsc_cons (psc_up (psd_set (i := 6) (pd_call D_law_closed.ok (hr.mono (by decide)) (by rfl) D_law_closed.mg D_law_closed.kp D_law_closed.b (takes_of rfl rfl rfl rfl) (pda_cons (pd_var (pv 4)) (pda_cons (pd_var (pv 5)) pda_nil))) (by show ¬ (6 ∈ ([] : List Nat)); decide) sc_law.nd rfl (.inl rfl)))
      (pdsc_cons (psc_set (i := 7) (o := false) (pec_cell (pd_lst (fun h => pe_lst h) pda_nil)) (by show ¬ (7 ∈ ([] : List Nat)); decide) sc_law.nd rfl (.inl rfl))
      (pdsc_cons (psc_forR (passes_of rfl) rfl (pid_list (pd_var (pv 5))) (pgd_name (i := 8) (vs := [8]) (pg_name (i := 8) sc_law.nd rfl (.inl rfl)) (by show ¬ (8 ∈ ([] : List Nat)); decide) (by decide))
      (pdsc_one (psc_app (i := 7) (fun ho h => pe_bm PySem.F.plainAttrs_list PySem.F.slot_list_append PySem.F.type_list_append mt_append ho h) (pv 7) (pec_ifExp (ptc_up (ptd_cmp op_eq op2_eq.op (pd_call D_law_draw.ok (hr.mono (by decide)) (by rfl) D_law_draw.mg D_law_draw.kp D_law_draw.b (takes_of rfl rfl rfl rfl) (pda_own (i := 2) (pv 2) (pda_cons (pd_const pe_int (fun _ => .int _)) pda_nil))) (pd_const pe_int (fun _ => .int _)) (nomark _))) (pec_cell (pd_builtB (fun h => pe_callTy call_list_of (by rfl) T.b_list (by decide +kernel) h) cn_list (pda_cons (pd_var (pv 8)) pda_nil))) (pec_up (pd_var (pv 8)))))))
      (pdsc_cons (psc_par2 (i := 9) (j := 10) (oi := false) (oj := false) (pec_cell (pd_builtB (fun h => pe_callTy call_list_of (by rfl) T.b_list (by decide +kernel) h) cn_list (pda_cons (pd_var (pv 3)) pda_nil))) (pec_viewA (fun F0 H0 => (pd_lc (own := [("row", 8)]) (by rfl) sc_law.nd (pid_list (pd_var (pv 7))) (blkOk_by (own := [("row", 8)]) (N := ["script", "place", "source", "goods", "names", "rows", "closed", "listed", "row", "given", "copy", "table", "one", "other", "told"]) (sc := defScope s_law) (by decide +kernel)) (fun _ _ _ _ _ => (pgd_name (i := 8) (vs := [8]) (pg_name (i := 8) sc_law.nd rfl (.inl rfl)) (by show ¬ (8 ∈ ([] : List Nat)); decide) (by decide))) (fun _ _ _ _ _ => ptsd_nil) (fun _ _ _ _ _ => (pd_builtB (fun h => pe_callTy call_tuple_of (by rfl) T.b_tuple (by decide +kernel) h) cn_tuple (pda_cons (pd_var (pv 8)) pda_nil))) (by show ∀ i ∈ ([8] : List Nat), ¬ (i ∈ ([] : List Nat)); decide)))) (by show ¬ (9 ∈ ([] : List Nat)); decide) (by show ¬ (10 ∈ ([] : List Nat)); decide) (fun h => ps_par (i := 9) (j := 10) (by rfl) sc_law.nd rfl rfl (by decide) rfl rfl h (by rfl)) (by decide))
      (pdsc_cons (psc_set (i := 11) (o := false) (pec_newV2 K_Table.mkc K_Table.ok (hr.mono (by decide)) (by rfl) T.c_Table K_Table.kb0 (fun _ => .cons (.int _) .nil) (fun _ _ _ => rfl) (takes_of rfl rfl rfl rfl) (pec_up (pd_var (pv 9))) (pec_up (pd_var (pv 7)))) (by show ¬ (11 ∈ ([] : List Nat)); decide) sc_law.nd rfl (.inl rfl))
      (pdsc_cons (psc_if (ptc_viewA (fun F0 H0 => (PW.pt (pwd_or (ptd_cmp (op_neD hr.units) op2_neD.op (pd_var (pv 9)) (pd_var (pv 3)) (nomark _)) (pwd_or (ptd_cmp (op_neD hr.units) op2_neD.op (pd_lc (own := [("row", 8)]) (by rfl) sc_law.nd (pid_list (pd_var (pv 7))) (blkOk_by (own := [("row", 8)]) (N := ["script", "place", "source", "goods", "names", "rows", "closed", "listed", "row", "given", "copy", "table", "one", "other", "told"]) (sc := defScope s_law) (by decide +kernel)) (fun _ _ _ _ _ => (pgd_name (i := 8) (vs := [8]) (pg_name (i := 8) sc_law.nd rfl (.inl rfl)) (by show ¬ (8 ∈ ([] : List Nat)); decide) (by decide))) (fun _ _ _ _ _ => ptsd_nil) (fun _ _ _ _ _ => (pd_builtB (fun h => pe_callTy call_tuple_of (by rfl) T.b_tuple (by decide +kernel) h) cn_tuple (pda_cons (pd_var (pv 8)) pda_nil))) (by show ∀ i ∈ ([8] : List Nat), ¬ (i ∈ ([] : List Nat)); decide)) (pd_var (pv 10)) (nomark _)) (pwd_or1 (ptd_not (ptd_val (pd_call D_law_entries_right.ok (hr.mono (by decide)) (by rfl) D_law_entries_right.mg D_law_entries_right.kp D_law_entries_right.b (takes_of rfl rfl rfl rfl) (pda_cons (pd_var (pv 11)) (pda_cons (pd_var (pv 4)) (pda_cons (pd_var (pv 6)) pda_nil)))) (fun h => pt_val h))))))))) (pdsc_one (psc_up (psd_ret (pd_const pe_bl (fun _ => .bl _))))) pdsc_nil)
      (pdsc_cons (psc_forA (i := 7) (passes_of rfl) rfl (pv 7) (pgd_name (i := 8) (vs := [8]) (pg_name (i := 8) sc_law.nd rfl (.inl rfl)) (by show ¬ (8 ∈ ([] : List Nat)); decide) (by decide)) (pdsc_one (psc_if (ptc_viewA (fun F0 H0 => (ptd_val (pd_builtB (fun h => pe_callB call_isi (by rfl) T.b_isinstance (by decide +kernel) h) (cn_isi (K := K)).op (pda_cons (pd_var (pv 8)) (pda_cons (pd_const (pe_bltn (v := .ty "list") (by rfl) T.b_list (by decide +kernel) rfl) (fun _ => .ty _)) pda_nil))) (fun h => pt_val h)))) (pdsc_one (psc_putLc (fun h g => ps_asg h g) (fun ho hi hs => pg_sub ho hi hs) (pec_up (pd_var (pv 8))) (pec_viewA (fun F0 H0 => (pd_op op_add (op2_I0 fun _ _ _ => .int _) (pd_ix ix_list op2_ixL (pd_var (pv 8)) (pd_const pe_int (fun _ => .int _)) (fun _ _ => rfl)) (pd_const pe_int (fun _ => .int _))))) (pd_const pe_int (fun _ => .int _)))) pdsc_nil)))
      (pdsc_cons (psc_with (i := 7) (fun _ => (psd_expr (pd_methO (j := 7) (fun ho h => pe_bm PySem.F.plainAttrs_list PySem.F.slot_list_append PySem.F.type_list_append mt_append ho h) mo_append (pv 7) (pda_cons (pd_tup (fun h => pe_tup h) (pda_cons (pd_const pe_str (fun _ => .str (by decide +kernel))) (pda_cons (pd_ix ix_list op2_ixL (pd_var (pv 3)) (pd_const pe_int (fun _ => .int _)) (fun _ _ => rfl)) (pda_cons (pd_const pe_int (fun _ => .int _)) pda_nil)))) pda_nil)))) (by show ¬ (7 ∈ ([] : List Nat)); decide))
      (pdsc_cons (psc_with (i := 9) (fun _ => (psd_expr (pd_methO (j := 9) (fun ho h => pe_bm PySem.F.plainAttrs_list PySem.F.slot_list_append PySem.F.type_list_append mt_append ho h) mo_append (pv 9) (pda_cons (pd_const pe_str (fun _ => .str (by decide +kernel))) pda_nil)))) (by show ¬ (9 ∈ ([] : List Nat)); decide))
      (pdsc_cons (psc_up (psd_if (PW.pt (pwd_or (ptd_cmp (op_neD hr.units) op2_neD.op (pd_fld (pd_var (pv 11)) T.cl_Table (T.na_Table _ (by decide)) rfl) (pd_builtB (fun h => pe_callTy call_tuple_of (by rfl) T.b_tuple (by decide +kernel) h) cn_tuple (pda_cons (pd_var (pv 3)) pda_nil)) (nomark _)) (pwd_or (ptd_cmp (op_neD hr.units) op2_neD.op (pd_fld (pd_var (pv 11)) T.cl_Table (T.na_Table _ (by decide)) rfl) (pd_builtB (fun h => pe_callTy call_tuple_of (by rfl) T.b_tuple (by decide +kernel) h) cn_tuple (pda_cons (pd_var (pv 5)) pda_nil)) (nomark _)) (pwd_or1 (ptd_not (ptd_val (pd_builtB (fun h => pe_callB call_isi (by rfl) T.b_isinstance (by decide +kernel) h) (cn_isi (K := K)).op (pda_cons (pd_fld (pd_var (pv 11)) T.cl_Table (T.na_Table _ (by decide)) rfl) (pda_cons (pd_const (pe_bltn (v := .ty "tuple") (by rfl) T.b_tuple (by decide +kernel) rfl) (fun _ => .ty _)) pda_nil))) (fun h => pt_val h))))))) (pds_one (psd_ret (pd_const pe_bl (fun _ => .bl _)))) pds_nil))
      (pdsc_cons (psc_up (psd_if (PW.pt (pwd_or (ptd_not (ptd_val (pd_builtB (fun h => pe_callB (cr_all rfl) (by rfl) T.b_all (by decide +kernel) h) cn_all.op (pda_cons (pd_lc (own := [("row", 8)]) (by rfl) sc_law.nd (pid_tup (pd_fld (pd_var (pv 11)) T.cl_Table (T.na_Table _ (by decide)) rfl)) (blkOk_by (own := [("row", 8)]) (N := ["script", "place", "source", "goods", "names", "rows", "closed", "listed", "row", "given", "copy", "table", "one", "other", "told"]) (sc := defScope s_law) (by decide +kernel)) (fun _ _ _ _ _ => (pgd_name (i := 8) (vs := [8]) (pg_name (i := 8) sc_law.nd rfl (.inl rfl)) (by show ¬ (8 ∈ ([] : List Nat)); decide) (by decide))) (fun _ _ _ _ _ => ptsd_nil) (fun _ _ _ _ _ => (pd_builtB (fun h => pe_callB call_isi (by rfl) T.b_isinstance (by decide +kernel) h) (cn_isi (K := K)).op (pda_cons (pd_var (pv 8)) (pda_cons (pd_const (pe_bltn (v := .ty "tuple") (by rfl) T.b_tuple (by decide +kernel) rfl) (fun _ => .ty _)) pda_nil)))) (by show ∀ i ∈ ([8] : List Nat), ¬ (i ∈ ([] : List Nat)); decide)) pda_nil)) (fun h => pt_val h))) (pwd_or1 (ptd_not (ptd_val (pd_builtB (fun h => pe_callB call_isi (by rfl) T.b_isinstance (by decide +kernel) h) (cn_isi (K := K)).op (pda_cons (pd_fld (pd_var (pv 11)) T.cl_Table (T.na_Table _ (by decide)) rfl) (pda_cons (pd_const (pe_bltn (v := .ty "tuple") (by rfl) T.b_tuple (by decide +kernel) rfl) (fun _ => .ty _)) pda_nil))) (fun h => pt_val h)))))) (pds_one (psd_ret (pd_const pe_bl (fun _ => .bl _)))) pds_nil))
      (pdsc_cons (psc_up (psd_if (PW.pt (pwd_or (ptd_cmp (op_neD hr.units) op2_neD.op (pd_lc (own := [("row", 8)]) (by rfl) sc_law.nd (pid_own (k := 1) I_Table T.b_iter (hr.mono (by decide)) (pd_var (pv 11))) (blkOk_by (own := [("row", 8)]) (N := ["script", "place", "source", "goods", "names", "rows", "closed", "listed", "row", "given", "copy", "table", "one", "other", "told"]) (sc := defScope s_law) (by decide +kernel)) (fun _ _ _ _ _ => (pgd_name (i := 8) (vs := [8]) (pg_name (i := 8) sc_law.nd rfl (.inl rfl)) (by show ¬ (8 ∈ ([] : List Nat)); decide) (by decide))) (fun _ _ _ _ _ => ptsd_nil) (fun _ _ _ _ _ => (pd_var (pv 8))) (by show ∀ i ∈ ([8] : List Nat), ¬ (i ∈ ([] : List Nat)); decide)) (pd_var (pv 5)) (nomark _)) (pwd_or1 (ptd_cmp (op_neD hr.units) op2_neD.op (pd_lc (own := [("row", 8)]) (by rfl) sc_law.nd (pid_own (k := 1) I_Table T.b_iter (hr.mono (by decide)) (pd_var (pv 11))) (blkOk_by (own := [("row", 8)]) (N := ["script", "place", "source", "goods", "names", "rows", "closed", "listed", "row", "given", "copy", "table", "one", "other", "told"]) (sc := defScope s_law) (by decide +kernel)) (fun _ _ _ _ _ => (pgd_name (i := 8) (vs := [8]) (pg_name (i := 8) sc_law.nd rfl (.inl rfl)) (by show ¬ (8 ∈ ([] : List Nat)); decide) (by decide))) (fun _ _ _ _ _ => ptsd_nil) (fun _ _ _ _ _ => (pd_var (pv 8))) (by show ∀ i ∈ ([8] : List Nat), ¬ (i ∈ ([] : List Nat)); decide)) (pd_var (pv 5)) (nomark _))))) (pds_one (psd_ret (pd_const pe_bl (fun _ => .bl _)))) pds_nil))
      (pdsc_cons (psc_up (psd_if (ptd_not (ptd_val (pd_call D_law_entries_right.ok (hr.mono (by decide)) (by rfl) D_law_entries_right.mg D_law_entries_right.kp D_law_entries_right.b (takes_of rfl rfl rfl rfl) (pda_cons (pd_var (pv 11)) (pda_cons (pd_var (pv 4)) (pda_cons (pd_var (pv 6)) pda_nil)))) (fun h => pt_val h))) (pds_one (psd_ret (pd_const pe_bl (fun _ => .bl _)))) pds_nil))
      (pdsc_cons (psc_up (psd_for (passes_of rfl) rfl (pid_list (pd_var (pv 4))) (pgd_name (i := 12) (vs := [12]) (pg_name (i := 12) sc_law.nd rfl (.inl rfl)) (by show ¬ (12 ∈ ([] : List Nat)); decide) (by decide))
      (pds_one (psd_for (passes_of rfl) rfl (pid_list (pd_var (pv 4))) (pgd_name (i := 13) (vs := [13]) (pg_name (i := 13) sc_law.nd rfl (.inl rfl)) (by show ¬ (13 ∈ ([] : List Nat)); decide) (by decide))
      (pds_cons (psd_set (i := 14) (pd_sub D_Table___getitem.gi D_Table___getitem.ok (hr.mono (by decide)) D_Table___getitem.b (takes_of rfl rfl rfl rfl) (pd_var (pv 11)) (pd_tup (fun h => pe_tup h) (pda_cons (pd_var (pv 12)) (pda_cons (pd_var (pv 13)) pda_nil))) (fun _ _ => rfl)) (by show ¬ (14 ∈ ([] : List Nat)); decide) sc_law.nd rfl (.inl rfl))
      (pds_cons (psd_if (PW.pt (pwd_or (ptd_not (ptd_val (pd_call D_law_is_whole.ok (hr.mono (by decide)) (by rfl) D_law_is_whole.mg D_law_is_whole.kp D_law_is_whole.b (takes_of rfl rfl rfl rfl) (pda_cons (pd_var (pv 14)) pda_nil)) (fun h => pt_val h))) (pwd_or1 (ptd_cmp op_ne op2_ne.op (pd_var (pv 14)) (pd_get (fun ho hi => pe_dget (hu_of hr) ho hi (fun _ _ => rfl)) (pd_var (pv 6)) (pd_tup (fun h => pe_tup h) (pda_cons (pd_var (pv 12)) (pda_cons (pd_var (pv 13)) pda_nil)))) (nomark _))))) (pds_one (psd_ret (pd_const pe_bl (fun _ => .bl _)))) pds_nil)
      (pds_one (psd_if (ptd_not (ptd_val (pd_call D_law_is_chain.ok (hr.mono (by decide)) (by rfl) D_law_is_chain.mg D_law_is_chain.kp D_law_is_chain.b (takes_of rfl rfl rfl rfl) (pda_cons (pd_meth (pd_var (pv 11)) T.cl_Table D_Table_chain.me D_Table_chain.ok (hr.mono (by decide)) D_Table_chain.b (takes_of rfl rfl rfl rfl) (pda_cons (pd_var (pv 12)) (pda_cons (pd_var (pv 13)) pda_nil))) (pda_cons (pd_var (pv 5)) (pda_cons (pd_var (pv 12)) (pda_cons (pd_var (pv 13)) (pda_cons (pd_var (pv 14)) pda_nil)))))) (fun h => pt_val h))) (pds_one (psd_ret (pd_const pe_bl (fun _ => .bl _)))) pds_nil))))))))
      (pdsc_cons (psc_up (psd_if (PW.pt (pwd_or (ptd_not (ptd_val (pd_call D_law_strangers.ok (hr.mono (by decide)) (by rfl) D_law_strangers.mg D_law_strangers.kp D_law_strangers.b (takes_of rfl rfl rfl rfl) (pda_cons (pd_var (pv 11)) (pda_own (i := 2) (pv 2) (pda_cons (pd_var (pv 4)) pda_nil)))) (fun h => pt_val h))) (pwd_or1 (ptd_not (ptd_val (pd_call D_law_equal_ones.ok (hr.mono (by decide)) (by rfl) D_law_equal_ones.mg D_law_equal_ones.kp D_law_equal_ones.b (takes_of rfl rfl rfl rfl) (pda_cons (pd_var (pv 11)) (pda_own (i := 2) (pv 2) (pda_cons (pd_var (pv 3)) (pda_cons (pd_var (pv 5)) pda_nil))))) (fun h => pt_val h)))))) (pds_one (psd_ret (pd_const pe_bl (fun _ => .bl _)))) pds_nil))
      (pdsc_one (psc_up (psd_if (ptd_not (ptd_val (pd_call D_law_sums_right.ok (hr.mono (by decide)) (by rfl) D_law_sums_right.mg D_law_sums_right.kp D_law_sums_right.b (takes_of rfl rfl rfl rfl) (pda_own (i := 2) (pv 2) (pda_cons (pd_var (pv 4)) (pda_cons (pd_var (pv 5)) pda_nil)))) (fun h => pt_val h))) (pds_one (psd_ret (pd_const pe_bl (fun _ => .bl _)))) pds_nil))))))))))))))))))))))
      (pdsc_one (psc_up (psd_ret (pd_const pe_bl (fun _ => .bl _))))))), ?_⟩
  rintro as Qd Ed ⟨zs, rfl, k⟩
  refine DR.exitC ?_
  show seqC _ _ _ (some (.d (.ro (zs.map .int))) :: List.replicate 14 none) _
  with_reducible refine DR.cutC (fun δ cs => True) (fun N kN => ?_) ?_
  · refine DR.forCR ?_
    walk_at "dd"
    generalize hq : ((fun i j : Int => if j > i then j else i) 1 ((fun i j : Int => if j < i then j else i) 6 ((zs.map D.int).length : Int))) = r
    have hr6 : 0 ≤ r ∧ r ≤ 6 := by
      subst hq
      dsimp only
      split <;> (try split) <;> omega
    refine ⟨by omega, by omega, ?_⟩
    refine DR.forR_inv (fun i δ cs => AllL cs ∧ ∃ p1 p2 p3 p4 p5 p6 p7 p8 p9 p10 p11 p12 p13 p14 : Option DV, δ = [some (.d (.ro (zs.map .int))), p1, p2, p3, p4, p5, p6, p7, p8, p9, p10, p11, p12, p13, p14]) ⟨(fun _ _ h => nomatch h), _, _, _, _, _, _, _, _, _, _, _, _, _, _, rfl⟩ ?stp ?fn
    case fn => exact fun δ cs _ => kN _ _ trivial
    case stp =>
    rintro i x δ cs N2 hx ⟨hal, p1, p2, p3, p4, p5, p6, p7, p8, p9, p10, p11, p12, p13, p14, rfl⟩ kN2
    obtain ⟨rfl, hi⟩ := upto_at hx
    have hi6 : i < 6 := by omega
    walk_at "dd"
    have kend : ∀ {ys gs rs fn cs} (q7 q8 q9 q10 q11 q12 q13 q14 : Option DV), AllL cs → N2 (stA zs i ys gs rs fn [q7, q8, q9, q10, q11, q12, q13, q14]) cs := fun {ys gs rs fn cs} q7 q8 q9 q10 q11 q12 q13 q14 h => kN2 _ _ ⟨h, _, _, _, _, _, _, _, _, _, _, _, _, _, _, rfl⟩
    with_reducible refine DR.cutC (fun δ cs' => cs = cs' ∧ ∃ ys, Src 0 ys ∧ δ = [some (.d (.ro (zs.map .int))), some (.d (.int i)), some (.own (.lst ys)), p3, p4, p5, p6, p7, p8, p9, p10, p11, p12, p13, p14]) (fun N kN => ?_) ?_
    · refine DR.upC ?_
      walk_at "dd"
      refine ⟨zs, i, rfl, by omega, fun ys hs => ?_⟩
      walk_at "dd"
      exact kN _ _ ⟨rfl, ys, hs, rfl⟩
    rintro δ cs' ⟨rfl, ys, hs, rfl⟩
    with_reducible refine DR.cutC (fun δ cs' => cs = cs' ∧ ∃ (ys : List D) (gs : List Str) (m : Nat), Goods gs ∧ Src m ys ∧ m ≤ 100 ∧ δ = [some (.d (.ro (zs.map .int))), some (.d (.int i)), some (.own (.lst ys)), some (.d (.lst (gs.map .str))), p4, p5, p6, p7, p8, p9, p10, p11, p12, p13, p14]) (fun N kN => ?_) ?_
    · refine DR.upC ?_
      walk_at "dd"
      refine ⟨ys, 0, rfl, hs, by decide, fun gs ys m hg hm hs => ?_⟩
      walk_at "dd"
      exact kN _ _ ⟨rfl, ys, gs, m, hg, hs, by omega, rfl⟩
    rintro δ cs' ⟨rfl, ys, gs, m, hg, hs, hm, rfl⟩
    with_reducible refine DR.cutC (fun δ cs' => cs = cs' ∧ ∃ (ys : List D) (rs : List Row) (m : Nat), GoodRows (cash :: gs) rs ∧ Src m ys ∧ m ≤ 500 ∧ δ = [some (.d (.ro (zs.map .int))), some (.d (.int i)), some (.own (.lst ys)), some (.d (.lst (gs.map .str))), some (.d (.lst ((cash :: gs).map .str))), some (.d (.lst (rs.map rowD))), p6, p7, p8, p9, p10, p11, p12, p13, p14]) (fun N kN => ?_) ?_
    · refine DR.upC ?_
      walk_at "dd"
      refine ⟨by rw [List.length_map]; exact Nat.le_trans (show 1 + gs.length ≤ 6 by have := hg.2.2.1; omega) (by decide), ?_⟩
      walk_at "dd"
      refine ⟨ys, m, gs, rfl, hs, by omega, hg, fun rs ys m2 hr hm2 hs => ?_⟩
      walk_at "dd"
      exact kN _ _ ⟨rfl, ys, rs, m2, hr, hs, by omega, rfl⟩
    rintro δ cs' ⟨rfl, ys, rs, m, hr, hs, hm, rfl⟩
    have hfr := hr.fine
    have hrl : rs.length ≤ 100 := gr_len hg hfr
    have h10 : (cash :: gs).length ≤ 10 := goods6 hg
    have hnd : (cash :: gs).Nodup := List.nodup_cons.mpr ⟨fun z => (hg.2.2.2 _ z).1 rfl, hg.1⟩
    with_reducible refine DR.cutC (fun δ cs' => cs = cs' ∧ ∃ fn : Fn, IsDist (cash :: gs) rs fn ∧ δ = stA zs i ys gs rs fn [p7, p8, p9, p10, p11, p12, p13, p14]) (fun N kN => ?_) ?_
    · refine DR.upC ?_
      walk_at "dd"
      refine ⟨cash :: gs, rs, rfl, hnd, h10, fun r h => ⟨(hfr.row r h).1, (hfr.row r h).2.1⟩, fun r h => (hfr.row r h).2.2.2, fun fn hf => ?_⟩
      exact kN _ _ ⟨rfl, fn, hf, rfl⟩
    rintro δ cs' ⟨rfl, fn, hf, rfl⟩
    with_reducible refine DR.cutC (fun δ cs' => AllL cs' ∧ ∃ a0 : Addr, (a0, OC.lst []) ∈ cs' ∧ δ = stA zs i ys gs rs fn [some (.d (.adr a0)), p8, p9, p10, p11, p12, p13, p14]) (fun N kN => ?_) ?_
    · refine DR.setC (DR.cellE ?_)
      walk_at "dd"
      intro a0 _
      exact kN _ _ ⟨hal.cons, a0, List.mem_cons_self, rfl⟩
    rintro δ cs ⟨hal, a0, hm0, rfl⟩
    with_reducible refine DR.cutC (fun δ cs => AllL cs ∧ ∃ (its : List D) (ys : List D) (m : Nat) (p8 : Option DV), Src m ys ∧ m ≤ 700 ∧ (a0, OC.lst its) ∈ cs ∧ Its a0 cs its rs ∧ δ = stA zs i ys gs rs fn [some (.d (.adr a0)), p8, p9, p10, p11, p12, p13, p14]) (fun N kN => ?_) ?_
    · refine DR.forCR ?_
      walk_at "dd"
      refine DR.forR_inv (fun j δ cs => AllL cs ∧ ∃ (its : List D) (ys : List D) (p8 : Option DV), Src (m + j) ys ∧ (a0, OC.lst its) ∈ cs ∧ Its a0 cs its (rs.take j) ∧ δ = stA zs i ys gs rs fn [some (.d (.adr a0)), p8, p9, p10, p11, p12, p13, p14]) ⟨hal, [], ys, p8, hs, hm0, by rw [List.take_zero]; exact .nil, rfl⟩ ?stp2 ?fn2
      case fn2 =>
        rintro δ cs ⟨hal, its, ys, p8, h1, h2, h3, rfl⟩
        rw [List.length_map] at h1 h3
        rw [List.take_length] at h3
        exact kN _ _ ⟨hal, its, ys, _, p8, h1, by omega, h2, h3, rfl⟩
      case stp2 =>
      rintro j x δ cs N3 hx ⟨hal, its, ys, p8, h1, h2, h3, rfl⟩ kN3
      obtain ⟨r, hrj, rfl⟩ := DR.map_at hx
      have hj := DR.at_lt hrj
      have hil : its.length < sizeLine := Nat.lt_of_le_of_lt (show _ ≤ 100 by rw [h3.len, List.length_take]; omega) (by decide)
      walk_at "dd"
      refine DR.appC rfl h2 (DR.ifExpC (DR.upT ?_))
      walk_at "dd"
      refine draw h1 (by omega) (by decide) (by decide) fun z ys z0 z1 h1 => ?_
      walk_at "dd"
      refine DR.split (fun c => ?_) (fun c => ?_)
      · refine DR.cellE ?_
        walk_at "dd"
        intro a hfr
        obtain ⟨n, hn⟩ := List.getElem?_of_mem (List.mem_cons_of_mem (a, OC.lst (rowL r)) h2)
        have ne : a ≠ a0 := fun e => hfr (by rw [e]; exact List.mem_map.mpr ⟨_, h2, rfl⟩)
        refine ⟨n, a0, its, rfl, hn, hil, ?_⟩
        refine kN3 _ _ ⟨allL_set hal.cons, its ++ [.adr a], ys, _, h1, mem_set_at hn, ?_, rfl⟩
        rw [List.take_succ, hrj]
        refine Its.app (.inl ⟨a, rfl, ne, mem_set_ne hn ne List.mem_cons_self⟩) (h3.imp fun b o nb hb => mem_set_ne hn nb (List.mem_cons_of_mem _ hb))
      · refine DR.upE2 ?_
        walk_at "dd"
        obtain ⟨n, hn⟩ := List.getElem?_of_mem h2
        refine ⟨n, a0, its, rfl, hn, hil, ?_⟩
        refine kN3 _ _ ⟨allL_set hal, its ++ [rowD r], ys, _, h1, mem_set_at hn, ?_, rfl⟩
        rw [List.take_succ, hrj]
        refine Its.app (.inr rfl) (h3.imp fun b o nb hb => mem_set_ne hn nb hb)
    rintro δ cs ⟨hal, its, ys, m, p8, hs, hm, hm0, hit, rfl⟩
    obtain ⟨ds, hfl, hds⟩ := hit.fill (K := K)
    have hil : its.length ≤ 100 := by rw [hit.len]; exact hrl
    with_reducible refine DR.cutC (fun δ cs' => AllL cs' ∧ (∀ z ∈ cs, z ∈ cs') ∧ ∃ (a1 : Addr), a1 ∉ cs.map (·.1) ∧ (a1, OC.lst (gs.map .str)) ∈ cs' ∧ δ = stA zs i ys gs rs fn [some (.d (.adr a0)), p8, some (.d (.adr a1)), some (.d (.lst (rs.map rowD))), p11, p12, p13, p14]) (fun N kN => ?_) ?_
    · refine DR.par2C (DR.cellE ?_)
      walk_at "dd"
      intro a1 hf1
      refine DR.viewEA hal.cons (FillS.set FillS.hid (i := 7) rfl (Fill.trans_ (Fill.adr (List.mem_cons_of_mem _ hm0)) (Fill.lst (fillL_mono hfl fun z hz => List.mem_cons_of_mem _ hz)))) ?_
      walk_at "dd"
      refine lc_fix (fun j => (rs.take j).map rowD) rfl (fun j x N hx kN => ?_) ?_
      · obtain ⟨r, hrj, hxr⟩ := hds.at_ hx
        have e2 : (rs.take (j + 1)).map rowD = (rs.take j).map rowD ++ [rowD r] := by rw [List.take_succ, hrj, List.map_append]; rfl
        have hz : ((rs.take j).map rowD).length < sizeLine := Nat.lt_of_le_of_lt (show _ ≤ 100 by rw [List.length_map, List.length_take]; omega) (by decide)
        rw [e2] at kN
        walk_at "dd"
        rcases hxr with rfl | rfl
        · refine ⟨_, _, rfl, .inr (.inr rfl), ?_⟩
          walk_at "dd"
          exact ⟨hz, kN⟩
        · refine ⟨_, _, rfl, .inl rfl, ?_⟩
          walk_at "dd"
          exact ⟨hz, kN⟩
      · dsimp only
        rw [hds.len, List.take_length]
        exact ⟨noL_rows, kN _ _ ⟨hal.cons, fun z hz => List.mem_cons_of_mem _ hz, a1, hf1, List.mem_cons_self, rfl⟩⟩
    rintro δ cs' ⟨hal, hsub, a1, hf1, hm1, rfl⟩
    have n01 : a0 ≠ a1 := fresh_ne hf1 hm0
    have hm0 := hsub _ hm0
    have hfl := fillL_mono hfl hsub
    have hit2 : ∀ x ∈ its, ItW a0 a1 cs' x := fun x hx => itW_imp (fun b o h => hsub _ h) (hit.weak hf1 x hx)
    with_reducible refine DR.cutC (fun δ cs2 => cs' = cs2 ∧ ∃ (kvs : List (List Key × D)) (f : Fn) (e : En), Tb C gs rs e (.obj C (tabFs gs rs kvs f)) ∧ δ = stA zs i ys gs rs fn [some (.d (.adr a0)), p8, some (.d (.adr a1)), some (.d (.lst (rs.map rowD))), some (.d (.obj C (tabFs gs rs kvs f))), p12, p13, p14]) (fun N kN => ?_) ?_
    · refine DR.setC (DR.newV2 (DR.upE2 ?_))
      walk_at "dd"
      refine DR.upE2 ?_
      walk_at "dd"
      refine ⟨_, .lst (gs.map .str), _, .lst ds, rfl, rfl, hal, Fill.adr hm1, Fill.trans_ (Fill.adr hm0) (Fill.lst hfl), gs, rs, ds, _, _, _, rfl, .inl rfl, .inl rfl, hds, hg, Nat.le_trans hrl (by decide), hfr, fun r h => (hr.row r h).2.2.2.2, fun kvs f hd hi => ⟨rfl, _, _, rfl, noL_tab hd, ?_⟩⟩
      obtain ⟨e, he, hfe⟩ := IsDist.ent hfr hi
      exact kN _ _ ⟨rfl, kvs, f, e, ⟨kvs, f, rfl, hg, hfr, Nat.le_trans hrl (by decide), hd, hi, he, hfe⟩, rfl⟩
    rintro δ cs ⟨rfl, kvs, f, e, ht, rfl⟩
    have hfn : ∀ a b, a ∈ cash :: gs → b ∈ cash :: gs → fn a b = some (e a b) := fun a b ha hb => by
      obtain ⟨_, _, q, _, _, _, _, hi, _, hfe⟩ := id ht
      obtain ⟨e2, he2, hfe2⟩ := IsDist.ent hfr hf
      obtain ⟨_, _, _, _, _, _, _, _, he, _⟩ := id ht
      rw [hfe2 a b ha hb, he2.unique he ha hb]
    with_reducible refine DR.cutC (fun δ cs2 => cs' = cs2 ∧ δ = stA zs i ys gs rs fn [some (.d (.adr a0)), p8, some (.d (.adr a1)), some (.d (.lst (rs.map rowD))), some (.d (.obj C (tabFs gs rs kvs f))), p12, p13, p14]) (fun N kN => ?_) ?_
    · refine DR.ifCC (DR.viewTA hal (FillS.set (FillS.set FillS.hid (i := 7) rfl (Fill.trans_ (Fill.adr hm0) (Fill.lst hfl))) (i := 9) rfl (Fill.adr hm1)) ?_)
      walk_at "dd"
      refine eqd_f (b := true) cmp_strs cmp_strs (eq_self cmp_strs) ?_
      walk_at "dd"
      refine lc_fix (fun j => (rs.take j).map rowD) rfl (fun j x N hx kN => ?_) ?_
      · obtain ⟨r, hrj, hxr⟩ := hds.at_ hx
        have e2 : (rs.take (j + 1)).map rowD = (rs.take j).map rowD ++ [rowD r] := by rw [List.take_succ, hrj, List.map_append]; rfl
        have hz : ((rs.take j).map rowD).length < sizeLine := Nat.lt_of_le_of_lt (show _ ≤ 100 by rw [List.length_map, List.length_take]; omega) (by decide)
        rw [e2] at kN
        walk_at "dd"
        rcases hxr with rfl | rfl
        · refine ⟨_, _, rfl, .inr (.inr rfl), ?_⟩
          walk_at "dd"
          exact ⟨hz, kN⟩
        · refine ⟨_, _, rfl, .inl rfl, ?_⟩
          walk_at "dd"
          exact ⟨hz, kN⟩
      dsimp only
      rw [hds.len, List.take_length]
      walk_at "dd"
      refine eqd_f (b := true) cmp_rows cmp_rows (eq_self cmp_rows) ?_
      walk_at "dd"
      refine ⟨gs, rs, e, _, fn, rfl, ht, hfn, ?_⟩
      walk_at "dd"
      exact kN _ _ ⟨rfl, rfl⟩
    rintro δ cs ⟨rfl, rfl⟩
    with_reducible refine DR.cutC (fun δ cs => AllL cs ∧ (a0, OC.lst its) ∈ cs ∧ (a1, OC.lst (gs.map .str)) ∈ cs ∧ ∃ p8 : Option DV, δ = stA zs i ys gs rs fn [some (.d (.adr a0)), p8, some (.d (.adr a1)), some (.d (.lst (rs.map rowD))), some (.d (.obj C (tabFs gs rs kvs f))), p12, p13, p14]) (fun N kN => ?_) ?_
    · refine DR.forCA rfl hm0 ?_
      refine DR.forA_inv (fun j δ cs => AllL cs ∧ (a0, OC.lst its) ∈ cs ∧ (a1, OC.lst (gs.map .str)) ∈ cs ∧ (∀ x ∈ its, ItW a0 a1 cs x) ∧ ∃ p8 : Option DV, δ = stA zs i ys gs rs fn [some (.d (.adr a0)), p8, some (.d (.adr a1)), some (.d (.lst (rs.map rowD))), some (.d (.obj C (tabFs gs rs kvs f))), p12, p13, p14]) ⟨hal, hm0, hm1, hit2, _, rfl⟩ ?stp3 ?fn3
      case fn3 =>
        rintro δ cs ⟨h1, h2, h3, _, p8, rfl⟩
        exact kN _ _ ⟨h1, h2, h3, _, rfl⟩
      case stp3 =>
      rintro j x δ cs N3 hx ⟨hal, hm0, hm1, hit2, p8, rfl⟩ kN3
      have hxm := List.mem_of_getElem? hx
      walk_at "dd"
      rcases hit2 x hxm with ⟨a, s, t, v, rfl, na0, na1, hma⟩ | ⟨r, rfl⟩
      · refine DR.ifCC (DR.viewTA hal (FillS.set FillS.hid (i := 8) rfl (Fill.adr hma)) ?_)
        walk_at "dd"
        refine ⟨_, _, _, _, true, rfl, .ty _, .lst _, rfl, ?_⟩
        walk_at "dd"
        refine DR.putLc (DR.viewEA hal (FillS.set FillS.hid (i := 8) rfl (Fill.adr hma)) ?_)
        walk_at "dd"
        refine ⟨_, _, .inl rfl, (show atI [D.str s, D.str t, D.int v] 2 = some (D.int v) from rfl), ?_⟩
        walk_at "dd"
        refine ⟨rfl, DR.upE2 ?_⟩
        walk_at "dd"
        obtain ⟨n, hn⟩ := List.getElem?_of_mem hma
        have h0' := mem_set_ne (o' := OC.lst [D.str s, D.str t, D.int (v + 7)]) hn (Ne.symm na0) hm0
        refine ⟨n, a, _, 2, 2, rfl, hn, rfl, rfl, ?_⟩
        exact kN3 _ _ h0' ⟨allL_set hal, h0', mem_set_ne hn (Ne.symm na1) hm1, fun x hx => itW_set hn (hit2 x hx), _, rfl⟩
      · refine DR.ifCC (DR.viewTA hal FillS.hid ?_)
        walk_at "dd"
        refine ⟨_, _, _, _, false, rfl, .ty _, .tup _, rfl, ?_⟩
        walk_at "dd"
        exact kN3 _ _ hm0 ⟨hal, hm0, hm1, hit2, _, rfl⟩
    rintro δ cs ⟨hal, hm0, hm1, p8, rfl⟩
    have hg1 : 0 < gs.length := hg.2.1
    with_reducible refine DR.cutC (fun δ cs => AllL cs ∧ (a1, OC.lst (gs.map .str)) ∈ cs ∧ δ = stA zs i ys gs rs fn [some (.d (.adr a0)), p8, some (.d (.adr a1)), some (.d (.lst (rs.map rowD))), some (.d (.obj C (tabFs gs rs kvs f))), p12, p13, p14]) (fun N kN => ?_) ?_
    · obtain ⟨n, hn⟩ := List.getElem?_of_mem hm0
      refine DR.withC rfl hn ?_
      walk_at "dd"
      refine ⟨_, _, .inl rfl, atI_map (i := 0) (List.getElem?_eq_getElem hg1), ?_⟩
      walk_at "dd"
      refine ⟨[_], _, rfl, rfl, _, rfl, Nat.lt_of_le_of_lt hil (by decide), ?_⟩
      refine ⟨_, rfl, kN _ _ ⟨allL_set hal, mem_set_ne hn (Ne.symm n01) hm1, rfl⟩⟩
    rintro δ cs ⟨hal, hm1, rfl⟩
    with_reducible refine DR.cutC (fun δ cs => AllL cs ∧ δ = stA zs i ys gs rs fn [some (.d (.adr a0)), p8, some (.d (.adr a1)), some (.d (.lst (rs.map rowD))), some (.d (.obj C (tabFs gs rs kvs f))), p12, p13, p14]) (fun N kN => ?_) ?_
    · obtain ⟨n, hn⟩ := List.getElem?_of_mem hm1
      refine DR.withC rfl hn ?_
      walk_at "dd"
      refine ⟨[_], _, rfl, rfl, _, rfl, Nat.lt_of_le_of_lt (show _ ≤ 5 by rw [List.length_map]; exact hg.2.2.1) (by decide), ?_⟩
      refine ⟨_, rfl, kN _ _ ⟨allL_set hal, rfl⟩⟩
    rintro δ cs ⟨hal, rfl⟩
    with_reducible refine DR.cutC (fun δ cs' => cs = cs' ∧ δ = stA zs i ys gs rs fn [some (.d (.adr a0)), p8, some (.d (.adr a1)), some (.d (.lst (rs.map rowD))), some (.d (.obj C (tabFs gs rs kvs f))), p12, p13, p14]) (fun N kN => ?_) ?_
    · refine DR.upC ?_
      walk_at "dd"
      refine ⟨_, _, rfl, .inl rfl, ?_⟩
      refine eqd_f (b := true) cmp_strsT cmp_strsT (eq_self cmp_strsT) ?_
      walk_at "dd"
      refine ⟨_, _, rfl, .inl rfl, ?_⟩
      refine eqd_f (b := true) cmp_rowsT cmp_rowsT (eq_self cmp_rowsT) ?_
      walk_at "dd"
      refine ⟨_, _, _, _, true, rfl, .ty _, .tup _, rfl, ?_⟩
      walk_at "dd"
      exact kN _ _ ⟨rfl, rfl⟩
    rintro δ _ ⟨rfl, rfl⟩
    with_reducible refine DR.cutC (fun δ cs' => cs = cs' ∧ δ = stA zs i ys gs rs fn [some (.d (.adr a0)), none, some (.d (.adr a1)), some (.d (.lst (rs.map rowD))), some (.d (.obj C (tabFs gs rs kvs f))), p12, p13, p14]) (fun N kN => ?_) ?_
    · refine DR.upC ?_
      walk_at "dd"
      refine DR.lc_mapM (l := rs) (r := rowD) (fun r => D.bl true) (fun r acc N hr hl2 kN => ?_) ?_
      · walk_at "dd"
        refine ⟨_, _, _, _, true, rfl, .ty _, .tup _, rfl, ?_⟩
        walk_at "dd"
        exact ⟨Nat.lt_of_lt_of_le hl2 (Nat.le_trans hrl (by decide)), kN⟩
      walk_at "dd"
      refine ⟨rs.map fun _ => true, .inl (by rw [List.map_map]; rfl), ?_⟩
      dsimp only
      rw [show (rs.map fun _ => true).all id = true by simp]
      walk_at "dd"
      refine ⟨_, _, _, _, true, rfl, .ty _, .tup _, rfl, ?_⟩
      walk_at "dd"
      exact kN _ _ ⟨rfl, rfl⟩
    rintro δ _ ⟨rfl, rfl⟩
    with_reducible refine DR.cutC (fun δ cs' => cs = cs' ∧ δ = stA zs i ys gs rs fn [some (.d (.adr a0)), none, some (.d (.adr a1)), some (.d (.lst (rs.map rowD))), some (.d (.obj C (tabFs gs rs kvs f))), p12, p13, p14]) (fun N kN => ?_) ?_
    · refine DR.upC ?_
      walk_at "dd"
      refine DR.lc_mapM (l := rs) (r := rowD) rowD (fun r acc N hr hl2 kN => ?_) ?_
      · walk_at "dd"
        exact ⟨Nat.lt_of_lt_of_le hl2 (Nat.le_trans hrl (by decide)), kN⟩
      walk_at "dd"
      refine eqd_f (b := true) cmp_rows cmp_rows (eq_self cmp_rows) ?_
      walk_at "dd"
      refine DR.lc_mapM (l := rs) (r := rowD) rowD (fun r acc N hr hl2 kN => ?_) ?_
      · walk_at "dd"
        exact ⟨Nat.lt_of_lt_of_le hl2 (Nat.le_trans hrl (by decide)), kN⟩
      walk_at "dd"
      refine eqd_f (b := true) cmp_rows cmp_rows (eq_self cmp_rows) ?_
      walk_at "dd"
      exact kN _ _ ⟨rfl, rfl⟩
    rintro δ _ ⟨rfl, rfl⟩
    with_reducible refine DR.cutC (fun δ cs' => cs = cs' ∧ δ = stA zs i ys gs rs fn [some (.d (.adr a0)), none, some (.d (.adr a1)), some (.d (.lst (rs.map rowD))), some (.d (.obj C (tabFs gs rs kvs f))), p12, p13, p14]) (fun N kN => ?_) ?_
    · refine DR.upC ?_
      walk_at "dd"
      refine ⟨gs, rs, e, _, fn, rfl, ht, hfn, ?_⟩
      walk_at "dd"
      exact kN _ _ ⟨rfl, rfl⟩
    rintro δ _ ⟨rfl, rfl⟩
    have hent : Ent (cash :: gs) rs e := by
      obtain ⟨_, _, _, _, _, _, _, _, he, _⟩ := id ht
      exact he
    with_reducible refine DR.cutC (fun δ cs' => cs = cs' ∧ ∃ p12 p13 p14 : Option DV, δ = stA zs i ys gs rs fn [some (.d (.adr a0)), none, some (.d (.adr a1)), some (.d (.lst (rs.map rowD))), some (.d (.obj C (tabFs gs rs kvs f))), p12, p13, p14]) (fun N kN => ?_) ?_
    · refine DR.upC ?_
      walk_at "dd"
      refine DR.for_inv (fun j δ => ∃ p12 p13 p14 : Option DV, δ = stA zs i ys gs rs fn [some (.d (.adr a0)), none, some (.d (.adr a1)), some (.d (.lst (rs.map rowD))), some (.d (.obj C (tabFs gs rs kvs f))), p12, p13, p14]) ⟨_, _, _, rfl⟩ ?stp4 ?fn4
      case fn4 =>
        rintro δ ⟨p12, p13, p14, rfl⟩
        exact kN _ _ ⟨rfl, _, _, _, rfl⟩
      case stp4 =>
      rintro j x δ N4 hx ⟨p12, p13, p14, rfl⟩ kN4
      obtain ⟨a, haj, rfl⟩ := DR.map_at hx
      have ha := List.mem_of_getElem? haj
      walk_at "dd"
      refine DR.for_inv (fun j δ => ∃ p13 p14 : Option DV, δ = stA zs i ys gs rs fn [some (.d (.adr a0)), none, some (.d (.adr a1)), some (.d (.lst (rs.map rowD))), some (.d (.obj C (tabFs gs rs kvs f))), some (.d (.str a)), p13, p14]) ⟨_, _, rfl⟩ ?stp5 ?fn5
      case fn5 =>
        rintro δ ⟨p13, p14, rfl⟩
        exact kN4 _ ⟨_, _, _, rfl⟩
      case stp5 =>
      rintro j2 x δ N5 hx ⟨p13, p14, rfl⟩ kN5
      obtain ⟨b, hbj, rfl⟩ := DR.map_at hx
      have hb := List.mem_of_getElem? hbj
      walk_at "dd"
      refine ⟨gs, rs, e, _, a, b, rfl, ht, ha, hb, ?_⟩
      walk_at "dd"
      refine ⟨e a b, rfl, ?_⟩
      walk_at "dd"
      refine ⟨_, k2 a b, .int (e a b), rfl, rfl, by rw [val_es (mem_sq.mpr ⟨ha, hb⟩), hfn a b ha hb]; rfl, ?_⟩
      walk_at "dd"
      rw [decide_eq_true rfl]
      walk_at "dd"
      refine ⟨gs, rs, e, _, a, b, rfl, ht, ha, hb, fun p h1 h2 h3 h4 => ?_⟩
      walk_at "dd"
      have hpl : p.length ≤ 100 := by
        obtain ⟨q, hq⟩ : ∃ q, p = a :: q := by
          cases p with
          | nil => cases h2
          | cons c q => cases h2; exact ⟨q, rfl⟩
        have := Dst.nodup_len h4 (k := cash :: gs) fun c hc => h1.mem (ns := cash :: gs) (fun r hr => ⟨(hfr.row r hr).1, (hfr.row r hr).2.1⟩) hq ha c hc
        omega
      refine ⟨cash :: gs, rs, p, a, b, e a b, rfl, hfr, Nat.le_trans hrl (by decide), hpl, h1, h2, h3, h4, ?_⟩
      walk_at "dd"
      exact kN5 _ ⟨_, _, rfl⟩
    rintro δ _ ⟨rfl, p12, p13, p14, rfl⟩
    with_reducible refine DR.cutC (fun δ cs' => cs = cs' ∧ ∃ (ys : List D) (m : Nat), Src m ys ∧ m ≤ 1500 ∧ δ = stA zs i ys gs rs fn [some (.d (.adr a0)), none, some (.d (.adr a1)), some (.d (.lst (rs.map rowD))), some (.d (.obj C (tabFs gs rs kvs f))), p12, p13, p14]) (fun N kN => ?_) ?_
    · refine DR.upC ?_
      walk_at "dd"
      refine ⟨gs, rs, e, _, ys, m, rfl, ht, hs, by omega, fun ys hs => ?_⟩
      walk_at "dd"
      refine ⟨gs, rs, e, _, ys, m + 9, rfl, ht, hr, hs, by omega, fun ys m2 hm2 hs => ?_⟩
      walk_at "dd"
      exact kN _ _ ⟨rfl, ys, m2, hs, by omega, rfl⟩
    rintro δ _ ⟨rfl, ys, m, hs, hm, rfl⟩
    refine DR.upC ?_
    walk_at "dd"
    refine ⟨gs, rs, ys, m, rfl, hg, hfr, Nat.le_trans hrl (by decide), hs, by omega, fun ys m2 hm2 hs => ?_⟩
    walk_at "dd"
    exact kend _ _ _ _ _ _ _ _ hal
  rintro δ cs _
  refine DR.upC ?_
  walk_at "dd"
  exact ⟨_, _, rfl, .refl, [], rfl, k⟩
end
end KT

set_option Elab.async false
set_option linter.all false
set_option maxRecDepth 100000
set_option maxHeartbeats 0
set_option pp.deepTerms false
set_option pp.deepTerms.threshold 8

namespace KT
open PySem PySem.Spec PyProof.Rows L2 DL
theorem vals_app {vs ws : List V} {us xs : List Value} (h : Vals vs us) (g : Vals ws xs) : Vals (vs ++ ws) (us ++ xs) := by
  induction h with
  | nil => exact g
  | cons r _ ih => exact .cons r ih
abbrev capV : List (Str × V) := [("cap", .int 1000000000000)]
theorem kbI0 {K : PySem.W.Frag} {f : Addr} {fd : FuncData} (F : FunD K "__init__" "Table.__init__" (defArgs s_Table___init) (defBody s_Table___init) (defScope s_Table___init) [] capV f fd) :
    ∃ mv : List Value, KBn K fd ["self", "goods", "rows", "cap"] 3 [] (fun us ws => us ++ ws ++ mv) (fun vs zs => vs ++ zs ++ [.int 1000000000000]) :=
  F.kbinds0 3 [] capV (fun a m z => a ++ z ++ m) (by simp) (fun q h => h) (fun r1 r2 r3 => vals_app (vals_app r1 r3) r2) (fun D doc pm an cdv ct us mv ws l1 l2 l3 => match us, mv, ws, l1, l2, l3 with
    | [_, _, _], [_], [], _, _, _ => ⟨_, _, _, _, _, _, rfl, rfl, rfl⟩)
theorem kbI1 {K : PySem.W.Frag} {f : Addr} {fd : FuncData} (F : FunD K "__init__" "Table.__init__" (defArgs s_Table___init) (defBody s_Table___init) (defScope s_Table___init) [] capV f fd) :
    ∃ mv : List Value, KBn K fd ["self", "goods", "rows", "cap"] 3 ["cap"] (fun us ws => us ++ ws ++ mv) (fun vs zs => vs ++ zs ++ []) :=
  F.kbinds0 3 ["cap"] [] (fun a m z => a ++ z ++ m) (by simp) (fun q h => nomatch h) (fun r1 r2 r3 => vals_app (vals_app r1 r3) r2) (fun D doc pm an cdv ct us mv ws l1 l2 l3 => match us, mv, ws, l1, l2, l3 with
    | [_, _, _], [], [_], _, _, _ => rfl)
theorem fund_mk {K : PySem.W.Frag} {x qual : Str} {st : Stmt} {f D : Addr} {oc : Value} {od an : Option Addr} {osl : Array (Option Value)} {doc pm cdv ct : Value} {t : Nat} (l : K.lookup f = some ⟨oc, od, .func (PySem.W.fnOf x qual (defArgs st) (defBody st) (defScope st) .none (.ref D) doc pm an cdv ct), osl⟩)
    (c : PySem.W.codeIn K cdv qual = true) (k : PySem.W.keepIn K (.ref f) = true) (d : PySem.W.nsIn K D "cap" = some (some (.int 1000000000000 t))) : FunD K x qual (defArgs st) (defBody st) (defScope st) [] capV f (PySem.W.fnOf x qual (defArgs st) (defBody st) (defScope st) .none (.ref D) doc pm an cdv ct) :=
  ⟨⟨oc, od, _, _, doc, pm, an, cdv, ct, osl, rfl, l, c, .inl ⟨rfl, rfl⟩, .inr ⟨D, rfl, fun q hq => by
    rw [List.mem_singleton.mp hq]
    exact ⟨_, d, ⟨_, rfl⟩⟩⟩⟩, k⟩
theorem reps_ints {K : PySem.W.Frag} {F : Hp} : ∀ {ns : List Int}, RepL K F (ns.map V.int) (ns.map D.int)
  | [] => .nil
  | _ :: _ => .cons (.int _) reps_ints
theorem law_in {K : PySem.W.Frag} {H : Hp} {a : Addr} {ns : List Int} (h : SqL K H a (ns.map V.int)) : spOf K sdLaw [.ref a] H (fun v _ => v = .bl true) fun _ _ _ => False := by
  refine ⟨H, [.d (.ro (ns.map .int))], [], fun x _ => x = .d (.bl true), fun _ _ => False, fun p u e => e, .d (.ro h reps_ints) .nil, ⟨ns, rfl, rfl⟩, fun v x os F' H' q P r => ?_, fun _ _ _ _ _ _ z => z.elim⟩
  subst q
  replace r : Rep K F' v (.bl true) := r
  cases r
  rfl
theorem cx_none {P : Program} {w : World} {H : Hp} {s s' : Shared} {e : Value} (h : L2.CX P w [] H s (fun _ _ _ => False) e s') : False := by
  obtain ⟨_, _, _, _, _, _, _, _, _, _, _, _, z⟩ := h
  exact z
theorem exm_ref {K : PySem.W.Frag} {B M : Addr} {r : Bool} (ex : PySem.W.subIn K (.ref M) (.type "BaseException") = some true) (ic : PySem.W.isClsIn K M = true) (ty : PySem.W.typeIn K (.ref M) = some (.type "type")) (s : PySem.W.subIn K (.ref B) (.ref M) = some r) : PySem.W.exmOne K (.ref B) (.ref M) = some r := by
  have ic' : (PySem.W.clsIn K M).isSome = true := ic
  unfold PySem.W.exmOne
  rw [if_pos (by rw [ex]; rfl)]
  show (if ((PySem.W.clsIn K M).isSome && PySem.W.typeIn K (.ref M) == some (.type "type")) = true then PySem.W.subIn K (.ref B) (.ref M) else none) = _
  rw [if_pos (by rw [ic', ty]; simp)]
  exact s
theorem nf_self {K : PySem.W.Frag} {C : Addr} : PySem.W.notFirst K C (.ref C) = true := by
  unfold PySem.W.notFirst
  simp
theorem iter_of {K : PySem.W.Frag} {C f : Addr} {fd : FuncData} (c : Cls K C) (na : NoAttr K C "rows") (at_ : PySem.W.findIn K (.ref C) "__iter__" = some (some (.ref f))) (fn : PySem.W.isFn K (.ref f) = true) (fu : Fun K "__iter__" "Table.__iter__" s_Table___iter f fd) (bd : Binds K fd ["self"] []) : IterOf K C f "Table.__iter__" "rows" s_Table___iter fd where
  at_ := at_
  fn := fn
  fu := fu
  sc := sc_Table___iter
  bd := bd
  body := fun P w mg base A outer s G E cdv hm => ⟨_, pss_one (ps_ret (pe_callB call_iterT (by rfl) hm (by decide +kernel) (pa_cons (pe_fld (pv 0) (by rfl)) pa_nil))), fun a dx q us xs Q ha hf hq k => by
    exact ⟨_, rfl, a, C, dx, us, .ref q, rfl, ha, c, na, hf, q, xs, rfl, hq, k⟩⟩
theorem kit_cl {K : PySem.W.Frag} {n : String} {M : Addr} {r : Bool} (ic : PySem.W.isClsIn K M = true) (ty : PySem.W.typeIn K (.ref M) = some (.type "type")) (s : PySem.W.subIn K (.type n) (.ref M) = some r) : PySem.W.kitOne K (.type n) (.ref M) = some r := by
  have ic' : (PySem.W.clsIn K M).isSome = true := ic
  unfold PySem.W.kitOne
  rw [if_neg (by simp)]
  show (if ((PySem.W.clsIn K M).isSome && PySem.W.typeIn K (.ref M) == some (.type "type")) = true then PySem.W.subIn K (.type n) (.ref M) else none) = _
  rw [if_pos (by rw [ic', ty]; simp)]
  exact s
theorem nf_ty {K : PySem.W.Frag} {n : String} {C : Addr} (s : PySem.W.subIn K (.type n) (.ref C) = some false) : PySem.W.notFirst K C (.type n) = true := by
  unfold PySem.W.notFirst
  rw [s]
  simp
end KT

set_option Elab.async false
set_option linter.all false
set_option maxRecDepth 100000
set_option maxHeartbeats 0
set_option pp.deepTerms false
set_option pp.deepTerms.threshold 8

namespace KT
open PySem PySem.Spec PyProof.Rows L2 DL
theorem ns_ok {K : PySem.W.Frag} {N : Addr} {c : Value} {d : Option Addr} {es : Array DictEntry} {n : Nat} {sl : Array (Option Value)} (l : K.lookup N = some ⟨c, d, .dict es n, sl⟩) (q : (es.toList.all fun e => match e.key with | .str _ _ => true | _ => false) = true) : PySem.W.nsOkIn K N = true := by
  unfold PySem.W.nsOkIn
  rw [l]
  show (es.all fun e => match e.key with | .str _ _ => true | _ => false) = true
  rw [← Array.all_toList]
  exact q
theorem fn_of_ty {K : PySem.W.Frag} {f : Addr} (t : PySem.W.typeIn K (.ref f) = some (.type "function")) : ∃ of, K.lookup f = some of ∧ of.cls = .type "function" := by
  obtain ⟨o, ho, e⟩ := Option.map_eq_some_iff.mp (show (K.lookup f).map (·.cls) = some (.type "function") from t)
  exact ⟨o, ho, e⟩
theorem all_mk {l : PySem.W.OpenLaw} {w : World} {K : PySem.W.Frag} {h : Heap} {mg : Str → Option Value} {fa : Addr} (X : K.In h) (G : h.Ns mainGlobals mg) (hfa : mg "law" = some (.ref fa))
    {C f_init d0_init f_check_pair p_entries f_entries f_getitem f_chain f_eq f_iter OG NC NA NNA f_xiNA f_is_name f_is_sequence f_is_integer f_is_whole f_is_row f_checked_goods f_assets f_pairs_of f_check_asset f_closed_sums f_row_fault f_checked_rows f_law_source f_law_draw f_law_goods f_law_size f_law_pairs f_law_closed f_law_rows f_law_is_whole f_law_missing f_law_missing_chain f_law_is_chain f_law_entries_right f_law_sums_right f_law_strangers f_law_equal_ones f_law : Addr} {r_entries : List Value} {oc_init : Value} {od_init : Option Addr} {an_init : Option Addr} {sl_init : Array (Option Value)} {dc_init : Value} {pm_init : Value} {cd_init : Value} {ct_init : Value} {td_init : Nat} {oc_check_pair : Value} {od_check_pair : Option Addr} {an_check_pair : Option Addr} {sl_check_pair : Array (Option Value)} {kV_check_pair : Value} {dc_check_pair : Value} {pm_check_pair : Value} {cd_check_pair : Value} {ct_check_pair : Value} {oc_entries : Value} {od_entries : Option Addr} {an_entries : Option Addr} {sl_entries : Array (Option Value)} {kV_entries : Value} {dc_entries : Value} {pm_entries : Value} {cd_entries : Value} {ct_entries : Value} {oc_getitem : Value} {od_getitem : Option Addr} {an_getitem : Option Addr} {sl_getitem : Array (Option Value)} {kV_getitem : Value} {dc_getitem : Value} {pm_getitem : Value} {cd_getitem : Value} {ct_getitem : Value} {oc_chain : Value} {od_chain : Option Addr} {an_chain : Option Addr} {sl_chain : Array (Option Value)} {kV_chain : Value} {dc_chain : Value} {pm_chain : Value} {cd_chain : Value} {ct_chain : Value} {oc_eq : Value} {od_eq : Option Addr} {an_eq : Option Addr} {sl_eq : Array (Option Value)} {kV_eq : Value} {dc_eq : Value} {pm_eq : Value} {cd_eq : Value} {ct_eq : Value} {oc_iter : Value} {od_iter : Option Addr} {an_iter : Option Addr} {sl_iter : Array (Option Value)} {kV_iter : Value} {dc_iter : Value} {pm_iter : Value} {cd_iter : Value} {ct_iter : Value} {nmC : Str} {qnC : Str} {bsC : List Value} {snC : List Str} {subC : List Value} {abC : Bool} {colC : Option Bool} {ddC : Option Addr} {i0C : Option Value} {i1C : Option Value} {i2C : Option Value} {i3C : Option Value} {i5C : Option Value} {hdC : Bool} {newC : String} {clN : Value} {ddN : Option Addr} {esN : Array DictEntry} {nN : Nat} {slN : Array (Option Value)} {nmNA : Str} {qnNA : Str} {bsNA : List Value} {bmNA : List Value} {snNA : List Str} {subNA : List Value} {abNA : Bool} {colNA : Option Bool} {ddNA : Option Addr} {i0NA : Option Value} {i1NA : Option Value} {i2NA : Option Value} {i3NA : Option Value} {i5NA : Option Value} {oc_xiNA : Value} {od_xiNA : Option Addr} {an_xiNA : Option Addr} {sl_xiNA : Array (Option Value)} {kV_xiNA : Value} {dc_xiNA : Value} {pm_xiNA : Value} {cd_xiNA : Value} {ct_xiNA : Value} {oc_is_name : Value} {od_is_name : Option Addr} {an_is_name : Option Addr} {sl_is_name : Array (Option Value)} {kV_is_name : Value} {dc_is_name : Value} {pm_is_name : Value} {cd_is_name : Value} {ct_is_name : Value} {oc_is_sequence : Value} {od_is_sequence : Option Addr} {an_is_sequence : Option Addr} {sl_is_sequence : Array (Option Value)} {kV_is_sequence : Value} {dc_is_sequence : Value} {pm_is_sequence : Value} {cd_is_sequence : Value} {ct_is_sequence : Value} {oc_is_integer : Value} {od_is_integer : Option Addr} {an_is_integer : Option Addr} {sl_is_integer : Array (Option Value)} {kV_is_integer : Value} {dc_is_integer : Value} {pm_is_integer : Value} {cd_is_integer : Value} {ct_is_integer : Value} {oc_is_whole : Value} {od_is_whole : Option Addr} {an_is_whole : Option Addr} {sl_is_whole : Array (Option Value)} {kV_is_whole : Value} {dc_is_whole : Value} {pm_is_whole : Value} {cd_is_whole : Value} {ct_is_whole : Value} {oc_is_row : Value} {od_is_row : Option Addr} {an_is_row : Option Addr} {sl_is_row : Array (Option Value)} {kV_is_row : Value} {dc_is_row : Value} {pm_is_row : Value} {cd_is_row : Value} {ct_is_row : Value} {oc_checked_goods : Value} {od_checked_goods : Option Addr} {an_checked_goods : Option Addr} {sl_checked_goods : Array (Option Value)} {kV_checked_goods : Value} {dc_checked_goods : Value} {pm_checked_goods : Value} {cd_checked_goods : Value} {ct_checked_goods : Value} {oc_assets : Value} {od_assets : Option Addr} {an_assets : Option Addr} {sl_assets : Array (Option Value)} {kV_assets : Value} {dc_assets : Value} {pm_assets : Value} {cd_assets : Value} {ct_assets : Value} {oc_pairs_of : Value} {od_pairs_of : Option Addr} {an_pairs_of : Option Addr} {sl_pairs_of : Array (Option Value)} {kV_pairs_of : Value} {dc_pairs_of : Value} {pm_pairs_of : Value} {cd_pairs_of : Value} {ct_pairs_of : Value} {oc_check_asset : Value} {od_check_asset : Option Addr} {an_check_asset : Option Addr} {sl_check_asset : Array (Option Value)} {kV_check_asset : Value} {dc_check_asset : Value} {pm_check_asset : Value} {cd_check_asset : Value} {ct_check_asset : Value} {oc_closed_sums : Value} {od_closed_sums : Option Addr} {an_closed_sums : Option Addr} {sl_closed_sums : Array (Option Value)} {kV_closed_sums : Value} {dc_closed_sums : Value} {pm_closed_sums : Value} {cd_closed_sums : Value} {ct_closed_sums : Value} {oc_row_fault : Value} {od_row_fault : Option Addr} {an_row_fault : Option Addr} {sl_row_fault : Array (Option Value)} {kV_row_fault : Value} {dc_row_fault : Value} {pm_row_fault : Value} {cd_row_fault : Value} {ct_row_fault : Value} {oc_checked_rows : Value} {od_checked_rows : Option Addr} {an_checked_rows : Option Addr} {sl_checked_rows : Array (Option Value)} {kV_checked_rows : Value} {dc_checked_rows : Value} {pm_checked_rows : Value} {cd_checked_rows : Value} {ct_checked_rows : Value} {oc_law_source : Value} {od_law_source : Option Addr} {an_law_source : Option Addr} {sl_law_source : Array (Option Value)} {kV_law_source : Value} {dc_law_source : Value} {pm_law_source : Value} {cd_law_source : Value} {ct_law_source : Value} {oc_law_draw : Value} {od_law_draw : Option Addr} {an_law_draw : Option Addr} {sl_law_draw : Array (Option Value)} {kV_law_draw : Value} {dc_law_draw : Value} {pm_law_draw : Value} {cd_law_draw : Value} {ct_law_draw : Value} {oc_law_goods : Value} {od_law_goods : Option Addr} {an_law_goods : Option Addr} {sl_law_goods : Array (Option Value)} {kV_law_goods : Value} {dc_law_goods : Value} {pm_law_goods : Value} {cd_law_goods : Value} {ct_law_goods : Value} {oc_law_size : Value} {od_law_size : Option Addr} {an_law_size : Option Addr} {sl_law_size : Array (Option Value)} {kV_law_size : Value} {dc_law_size : Value} {pm_law_size : Value} {cd_law_size : Value} {ct_law_size : Value} {oc_law_pairs : Value} {od_law_pairs : Option Addr} {an_law_pairs : Option Addr} {sl_law_pairs : Array (Option Value)} {kV_law_pairs : Value} {dc_law_pairs : Value} {pm_law_pairs : Value} {cd_law_pairs : Value} {ct_law_pairs : Value} {oc_law_closed : Value} {od_law_closed : Option Addr} {an_law_closed : Option Addr} {sl_law_closed : Array (Option Value)} {kV_law_closed : Value} {dc_law_closed : Value} {pm_law_closed : Value} {cd_law_closed : Value} {ct_law_closed : Value} {oc_law_rows : Value} {od_law_rows : Option Addr} {an_law_rows : Option Addr} {sl_law_rows : Array (Option Value)} {kV_law_rows : Value} {dc_law_rows : Value} {pm_law_rows : Value} {cd_law_rows : Value} {ct_law_rows : Value} {oc_law_is_whole : Value} {od_law_is_whole : Option Addr} {an_law_is_whole : Option Addr} {sl_law_is_whole : Array (Option Value)} {kV_law_is_whole : Value} {dc_law_is_whole : Value} {pm_law_is_whole : Value} {cd_law_is_whole : Value} {ct_law_is_whole : Value} {oc_law_missing : Value} {od_law_missing : Option Addr} {an_law_missing : Option Addr} {sl_law_missing : Array (Option Value)} {kV_law_missing : Value} {dc_law_missing : Value} {pm_law_missing : Value} {cd_law_missing : Value} {ct_law_missing : Value} {oc_law_missing_chain : Value} {od_law_missing_chain : Option Addr} {an_law_missing_chain : Option Addr} {sl_law_missing_chain : Array (Option Value)} {kV_law_missing_chain : Value} {dc_law_missing_chain : Value} {pm_law_missing_chain : Value} {cd_law_missing_chain : Value} {ct_law_missing_chain : Value} {oc_law_is_chain : Value} {od_law_is_chain : Option Addr} {an_law_is_chain : Option Addr} {sl_law_is_chain : Array (Option Value)} {kV_law_is_chain : Value} {dc_law_is_chain : Value} {pm_law_is_chain : Value} {cd_law_is_chain : Value} {ct_law_is_chain : Value} {oc_law_entries_right : Value} {od_law_entries_right : Option Addr} {an_law_entries_right : Option Addr} {sl_law_entries_right : Array (Option Value)} {kV_law_entries_right : Value} {dc_law_entries_right : Value} {pm_law_entries_right : Value} {cd_law_entries_right : Value} {ct_law_entries_right : Value} {oc_law_sums_right : Value} {od_law_sums_right : Option Addr} {an_law_sums_right : Option Addr} {sl_law_sums_right : Array (Option Value)} {kV_law_sums_right : Value} {dc_law_sums_right : Value} {pm_law_sums_right : Value} {cd_law_sums_right : Value} {ct_law_sums_right : Value} {oc_law_strangers : Value} {od_law_strangers : Option Addr} {an_law_strangers : Option Addr} {sl_law_strangers : Array (Option Value)} {kV_law_strangers : Value} {dc_law_strangers : Value} {pm_law_strangers : Value} {cd_law_strangers : Value} {ct_law_strangers : Value} {oc_law_equal_ones : Value} {od_law_equal_ones : Option Addr} {an_law_equal_ones : Option Addr} {sl_law_equal_ones : Array (Option Value)} {kV_law_equal_ones : Value} {dc_law_equal_ones : Value} {pm_law_equal_ones : Value} {cd_law_equal_ones : Value} {ct_law_equal_ones : Value} {oc_law : Value} {od_law : Option Addr} {an_law : Option Addr} {sl_law : Array (Option Value)} {kV_law : Value} {dc_law : Value} {pm_law : Value} {cd_law : Value} {ct_law : Value} {t_MOST : Nat} {t__CASH : Nat} {t__LETTERS : Nat} {t__LONGEST_NAME : Nat} {t__MOST_GOODS : Nat}
    (c_Table : PySem.W.nsIn K mainGlobals "Table" = some (some (.ref C)))
    (pg_Table : PySem.W.plainGet K C Str.empty = true)
    (hd_Table : PySem.W.hasDictIn K C = true)
    (po_Table : PySem.W.plainOver K C = true)
    (sa_Table : PySem.W.findIn K (.ref C) "__setattr__" = some (some (.builtin "object.__setattr__")))
    (mk_Table : PySem.W.makesIn K C = true)
    (kp_Table : PySem.W.keepIn K (.ref C) = true)
    (n_Table_goods : PySem.W.findIn K (.ref C) "goods" = some none)
    (n_Table__assets : PySem.W.findIn K (.ref C) "_assets" = some none)
    (n_Table_rows : PySem.W.findIn K (.ref C) "rows" = some none)
    (n_Table__sums : PySem.W.findIn K (.ref C) "_sums" = some none)
    (n_Table__entries : PySem.W.findIn K (.ref C) "_entries" = some none)
    (a_init : PySem.W.findIn K (.ref C) "__init__" = some (some (.ref f_init)))
    (l_init : K.lookup f_init = some ⟨oc_init, od_init, .func (PySem.W.fnOf "__init__" "Table.__init__" (defArgs s_Table___init) (defBody s_Table___init) (defScope s_Table___init) .none (.ref d0_init) dc_init pm_init an_init cd_init ct_init), sl_init⟩)
    (c_init : PySem.W.codeIn K cd_init "Table.__init__" = true)
    (k_init : PySem.W.keepIn K (.ref f_init) = true)
    (d_init : PySem.W.nsIn K d0_init "cap" = some (some (.int 1000000000000 td_init)))
    (i_init : PySem.W.isFn K (.ref f_init) = true)
    (a_check_pair : PySem.W.findIn K (.ref C) "_check_pair" = some (some (.ref f_check_pair)))
    (l_check_pair : K.lookup f_check_pair = some ⟨oc_check_pair, od_check_pair, .func (PySem.W.fnOf "_check_pair" "Table._check_pair" (defArgs s_Table__check_pair) (defBody s_Table__check_pair) (defScope s_Table__check_pair) .none kV_check_pair dc_check_pair pm_check_pair an_check_pair cd_check_pair ct_check_pair), sl_check_pair⟩)
    (c_check_pair : PySem.W.codeIn K cd_check_pair "Table._check_pair" = true)
    (k_check_pair : PySem.W.keepIn K (.ref f_check_pair) = true)
    (i_check_pair : PySem.W.isFn K (.ref f_check_pair) = true)
    (pa_entries : PySem.W.findIn K (.ref C) "entries" = some (some (.ref p_entries)))
    (pt_entries : PySem.W.specialIn K (.ref p_entries) "__get__" = some (some (.builtin "property.__get__")))
    (pk_entries : PySem.W.takesIn K (.ref p_entries) = some true)
    (a_entries : PySem.W.recIn K p_entries "property" = some (.ref f_entries :: r_entries))
    (l_entries : K.lookup f_entries = some ⟨oc_entries, od_entries, .func (PySem.W.fnOf "entries" "Table.entries" (defArgs s_Table_entries) (defBody s_Table_entries) (defScope s_Table_entries) .none kV_entries dc_entries pm_entries an_entries cd_entries ct_entries), sl_entries⟩)
    (c_entries : PySem.W.codeIn K cd_entries "Table.entries" = true)
    (k_entries : PySem.W.keepIn K (.ref f_entries) = true)
    (a_getitem : PySem.W.findIn K (.ref C) "__getitem__" = some (some (.ref f_getitem)))
    (l_getitem : K.lookup f_getitem = some ⟨oc_getitem, od_getitem, .func (PySem.W.fnOf "__getitem__" "Table.__getitem__" (defArgs s_Table___getitem) (defBody s_Table___getitem) (defScope s_Table___getitem) .none kV_getitem dc_getitem pm_getitem an_getitem cd_getitem ct_getitem), sl_getitem⟩)
    (c_getitem : PySem.W.codeIn K cd_getitem "Table.__getitem__" = true)
    (k_getitem : PySem.W.keepIn K (.ref f_getitem) = true)
    (i_getitem : PySem.W.isFn K (.ref f_getitem) = true)
    (a_chain : PySem.W.findIn K (.ref C) "chain" = some (some (.ref f_chain)))
    (l_chain : K.lookup f_chain = some ⟨oc_chain, od_chain, .func (PySem.W.fnOf "chain" "Table.chain" (defArgs s_Table_chain) (defBody s_Table_chain) (defScope s_Table_chain) .none kV_chain dc_chain pm_chain an_chain cd_chain ct_chain), sl_chain⟩)
    (c_chain : PySem.W.codeIn K cd_chain "Table.chain" = true)
    (k_chain : PySem.W.keepIn K (.ref f_chain) = true)
    (i_chain : PySem.W.isFn K (.ref f_chain) = true)
    (a_eq : PySem.W.findIn K (.ref C) "__eq__" = some (some (.ref f_eq)))
    (l_eq : K.lookup f_eq = some ⟨oc_eq, od_eq, .func (PySem.W.fnOf "__eq__" "Table.__eq__" (defArgs s_Table___eq) (defBody s_Table___eq) (defScope s_Table___eq) .none kV_eq dc_eq pm_eq an_eq cd_eq ct_eq), sl_eq⟩)
    (c_eq : PySem.W.codeIn K cd_eq "Table.__eq__" = true)
    (k_eq : PySem.W.keepIn K (.ref f_eq) = true)
    (i_eq : PySem.W.isFn K (.ref f_eq) = true)
    (a_iter : PySem.W.findIn K (.ref C) "__iter__" = some (some (.ref f_iter)))
    (l_iter : K.lookup f_iter = some ⟨oc_iter, od_iter, .func (PySem.W.fnOf "__iter__" "Table.__iter__" (defArgs s_Table___iter) (defBody s_Table___iter) (defScope s_Table___iter) .none kV_iter dc_iter pm_iter an_iter cd_iter ct_iter), sl_iter⟩)
    (c_iter : PySem.W.codeIn K cd_iter "Table.__iter__" = true)
    (k_iter : PySem.W.keepIn K (.ref f_iter) = true)
    (i_iter : PySem.W.isFn K (.ref f_iter) = true)
    (rd_C : PySem.W.readsIn K C (.type "type") = true)
    (gb_C : PySem.W.specialIn K (.ref C) "__getattribute__" = some (some (.builtin "type.__getattribute__")))
    (ca_C : PySem.W.findIn K (.ref C) "__class__" = some (some (.builtin "object.__class__")))
    (cn_C : PySem.W.specialIn K (.builtin "object.__class__") "__get__" = some (some (.builtin "getset_descriptor.__get__")))
    (ct_C : PySem.W.takesIn K (.builtin "object.__class__") = some true)
    (cm_C : PySem.W.mroIn K C (.type "object") = some true)
    (l_C : K.lookup C = some (excClassObj nmC qnC C NC bsC [.type "object"] hdC snC subC abC colC ddC i0C i1C i2C i3C i5C newC))
    (l_NC : K.lookup NC = some ⟨clN, ddN, .dict esN nN, slN⟩)
    (q_NC : (esN.toList.all fun e => match e.key with | .str _ _ => true | _ => false) = true)
    (e_NC : PySem.W.nsIn K NC "__eq__" = some (some (.ref f_eq)))
    (m_NC : PySem.W.nsIn K NC "__ne__" = some none)
    (ty_eq : PySem.W.typeIn K (.ref f_eq) = some (.type "function"))
    (fi_get : PySem.W.fnIn K f_getitem = true)
    (c_OtherGoods : PySem.W.nsIn K mainGlobals "OtherGoods" = some (some (.ref OG)))
    (xn_B : PySem.W.excIn K OG [.type "ValueError", .type "Exception", .type "BaseException", .type "object"] "ValueError.__new__" = true)
    (ex_B : PySem.W.subIn K (.ref OG) (.type "BaseException") = some true)
    (ty_B : PySem.W.typeIn K (.ref OG) = some (.type "type"))
    (kp_B : PySem.W.keepIn K (.ref OG) = true)
    (ic_B : PySem.W.isClsIn K OG = true)
    (sb_B : PySem.W.subIn K (.ref OG) (.ref OG) = some true)
    (ic_C : PySem.W.isClsIn K C = true)
    (ty_C : PySem.W.typeIn K (.ref C) = some (.type "type"))
    (st_C : PySem.W.subIn K (.type "tuple") (.ref C) = some false)
    (sl_C : PySem.W.subIn K (.type "list") (.ref C) = some false)
    (c_NoAsset : PySem.W.nsIn K mainGlobals "NoAsset" = some (some (.ref NA)))
    (l_NA : K.lookup NA = some (excClassObj nmNA qnNA NA NNA bsNA bmNA true snNA subNA abNA colNA ddNA i0NA i1NA i2NA i3NA i5NA "ValueError.__new__"))
    (h_NA : PySem.HandSPX.refsVE bmNA = true)
    (sa_NA : PySem.W.findIn K (.ref NA) "__setattr__" = some (some (.builtin "object.__setattr__")))
    (ex_NA : PySem.W.subIn K (.ref NA) (.type "BaseException") = some true)
    (ty_NA : PySem.W.typeIn K (.ref NA) = some (.type "type"))
    (kp_NA : PySem.W.keepIn K (.ref NA) = true)
    (ga_NA : PySem.W.findIn K (.ref NA) "__getattribute__" = some (some (.builtin "BaseException.__getattribute__")))
    (gg_NA : PySem.W.findIn K (.ref NA) "__getattr__" = some none)
    (hd_NA : PySem.W.hasDictIn K NA = true)
    (ic_NA : PySem.W.isClsIn K NA = true)
    (sb_NA : PySem.W.subIn K (.ref NA) (.ref NA) = some true)
    (nw_NA_name : PySem.W.findIn K (.ref NA) "name" = some none)
    (a_xiNA : PySem.W.findIn K (.ref NA) "__init__" = some (some (.ref f_xiNA)))
    (l_xiNA : K.lookup f_xiNA = some ⟨oc_xiNA, od_xiNA, .func (PySem.W.fnOf "__init__" "NoAsset.__init__" (defArgs s_NoAsset___init) (defBody s_NoAsset___init) (defScope s_NoAsset___init) .none kV_xiNA dc_xiNA pm_xiNA an_xiNA cd_xiNA ct_xiNA), sl_xiNA⟩)
    (c_xiNA : PySem.W.codeIn K cd_xiNA "NoAsset.__init__" = true)
    (k_xiNA : PySem.W.keepIn K (.ref f_xiNA) = true)
    (ty_xiNA : PySem.W.typeIn K (.ref f_xiNA) = some (.type "function"))
    (a_is_name : PySem.W.nsIn K mainGlobals "is_name" = some (some (.ref f_is_name)))
    (l_is_name : K.lookup f_is_name = some ⟨oc_is_name, od_is_name, .func (PySem.W.fnOf "is_name" "is_name" (defArgs s_is_name) (defBody s_is_name) (defScope s_is_name) .none kV_is_name dc_is_name pm_is_name an_is_name cd_is_name ct_is_name), sl_is_name⟩)
    (c_is_name : PySem.W.codeIn K cd_is_name "is_name" = true)
    (k_is_name : PySem.W.keepIn K (.ref f_is_name) = true)
    (a_is_sequence : PySem.W.nsIn K mainGlobals "is_sequence" = some (some (.ref f_is_sequence)))
    (l_is_sequence : K.lookup f_is_sequence = some ⟨oc_is_sequence, od_is_sequence, .func (PySem.W.fnOf "is_sequence" "is_sequence" (defArgs s_is_sequence) (defBody s_is_sequence) (defScope s_is_sequence) .none kV_is_sequence dc_is_sequence pm_is_sequence an_is_sequence cd_is_sequence ct_is_sequence), sl_is_sequence⟩)
    (c_is_sequence : PySem.W.codeIn K cd_is_sequence "is_sequence" = true)
    (k_is_sequence : PySem.W.keepIn K (.ref f_is_sequence) = true)
    (a_is_integer : PySem.W.nsIn K mainGlobals "is_integer" = some (some (.ref f_is_integer)))
    (l_is_integer : K.lookup f_is_integer = some ⟨oc_is_integer, od_is_integer, .func (PySem.W.fnOf "is_integer" "is_integer" (defArgs s_is_integer) (defBody s_is_integer) (defScope s_is_integer) .none kV_is_integer dc_is_integer pm_is_integer an_is_integer cd_is_integer ct_is_integer), sl_is_integer⟩)
    (c_is_integer : PySem.W.codeIn K cd_is_integer "is_integer" = true)
    (k_is_integer : PySem.W.keepIn K (.ref f_is_integer) = true)
    (a_is_whole : PySem.W.nsIn K mainGlobals "is_whole" = some (some (.ref f_is_whole)))
    (l_is_whole : K.lookup f_is_whole = some ⟨oc_is_whole, od_is_whole, .func (PySem.W.fnOf "is_whole" "is_whole" (defArgs s_is_whole) (defBody s_is_whole) (defScope s_is_whole) .none kV_is_whole dc_is_whole pm_is_whole an_is_whole cd_is_whole ct_is_whole), sl_is_whole⟩)
    (c_is_whole : PySem.W.codeIn K cd_is_whole "is_whole" = true)
    (k_is_whole : PySem.W.keepIn K (.ref f_is_whole) = true)
    (a_is_row : PySem.W.nsIn K mainGlobals "is_row" = some (some (.ref f_is_row)))
    (l_is_row : K.lookup f_is_row = some ⟨oc_is_row, od_is_row, .func (PySem.W.fnOf "is_row" "is_row" (defArgs s_is_row) (defBody s_is_row) (defScope s_is_row) .none kV_is_row dc_is_row pm_is_row an_is_row cd_is_row ct_is_row), sl_is_row⟩)
    (c_is_row : PySem.W.codeIn K cd_is_row "is_row" = true)
    (k_is_row : PySem.W.keepIn K (.ref f_is_row) = true)
    (a_checked_goods : PySem.W.nsIn K mainGlobals "checked_goods" = some (some (.ref f_checked_goods)))
    (l_checked_goods : K.lookup f_checked_goods = some ⟨oc_checked_goods, od_checked_goods, .func (PySem.W.fnOf "checked_goods" "checked_goods" (defArgs s_checked_goods) (defBody s_checked_goods) (defScope s_checked_goods) .none kV_checked_goods dc_checked_goods pm_checked_goods an_checked_goods cd_checked_goods ct_checked_goods), sl_checked_goods⟩)
    (c_checked_goods : PySem.W.codeIn K cd_checked_goods "checked_goods" = true)
    (k_checked_goods : PySem.W.keepIn K (.ref f_checked_goods) = true)
    (a_assets : PySem.W.nsIn K mainGlobals "assets" = some (some (.ref f_assets)))
    (l_assets : K.lookup f_assets = some ⟨oc_assets, od_assets, .func (PySem.W.fnOf "assets" "assets" (defArgs s_assets) (defBody s_assets) (defScope s_assets) .none kV_assets dc_assets pm_assets an_assets cd_assets ct_assets), sl_assets⟩)
    (c_assets : PySem.W.codeIn K cd_assets "assets" = true)
    (k_assets : PySem.W.keepIn K (.ref f_assets) = true)
    (a_pairs_of : PySem.W.nsIn K mainGlobals "pairs_of" = some (some (.ref f_pairs_of)))
    (l_pairs_of : K.lookup f_pairs_of = some ⟨oc_pairs_of, od_pairs_of, .func (PySem.W.fnOf "pairs_of" "pairs_of" (defArgs s_pairs_of) (defBody s_pairs_of) (defScope s_pairs_of) .none kV_pairs_of dc_pairs_of pm_pairs_of an_pairs_of cd_pairs_of ct_pairs_of), sl_pairs_of⟩)
    (c_pairs_of : PySem.W.codeIn K cd_pairs_of "pairs_of" = true)
    (k_pairs_of : PySem.W.keepIn K (.ref f_pairs_of) = true)
    (a_check_asset : PySem.W.nsIn K mainGlobals "check_asset" = some (some (.ref f_check_asset)))
    (l_check_asset : K.lookup f_check_asset = some ⟨oc_check_asset, od_check_asset, .func (PySem.W.fnOf "check_asset" "check_asset" (defArgs s_check_asset) (defBody s_check_asset) (defScope s_check_asset) .none kV_check_asset dc_check_asset pm_check_asset an_check_asset cd_check_asset ct_check_asset), sl_check_asset⟩)
    (c_check_asset : PySem.W.codeIn K cd_check_asset "check_asset" = true)
    (k_check_asset : PySem.W.keepIn K (.ref f_check_asset) = true)
    (a_closed_sums : PySem.W.nsIn K mainGlobals "closed_sums" = some (some (.ref f_closed_sums)))
    (l_closed_sums : K.lookup f_closed_sums = some ⟨oc_closed_sums, od_closed_sums, .func (PySem.W.fnOf "closed_sums" "closed_sums" (defArgs s_closed_sums) (defBody s_closed_sums) (defScope s_closed_sums) .none kV_closed_sums dc_closed_sums pm_closed_sums an_closed_sums cd_closed_sums ct_closed_sums), sl_closed_sums⟩)
    (c_closed_sums : PySem.W.codeIn K cd_closed_sums "closed_sums" = true)
    (k_closed_sums : PySem.W.keepIn K (.ref f_closed_sums) = true)
    (a_row_fault : PySem.W.nsIn K mainGlobals "_row_fault" = some (some (.ref f_row_fault)))
    (l_row_fault : K.lookup f_row_fault = some ⟨oc_row_fault, od_row_fault, .func (PySem.W.fnOf "_row_fault" "_row_fault" (defArgs s_row_fault) (defBody s_row_fault) (defScope s_row_fault) .none kV_row_fault dc_row_fault pm_row_fault an_row_fault cd_row_fault ct_row_fault), sl_row_fault⟩)
    (c_row_fault : PySem.W.codeIn K cd_row_fault "_row_fault" = true)
    (k_row_fault : PySem.W.keepIn K (.ref f_row_fault) = true)
    (a_checked_rows : PySem.W.nsIn K mainGlobals "_checked_rows" = some (some (.ref f_checked_rows)))
    (l_checked_rows : K.lookup f_checked_rows = some ⟨oc_checked_rows, od_checked_rows, .func (PySem.W.fnOf "_checked_rows" "_checked_rows" (defArgs s_checked_rows) (defBody s_checked_rows) (defScope s_checked_rows) .none kV_checked_rows dc_checked_rows pm_checked_rows an_checked_rows cd_checked_rows ct_checked_rows), sl_checked_rows⟩)
    (c_checked_rows : PySem.W.codeIn K cd_checked_rows "_checked_rows" = true)
    (k_checked_rows : PySem.W.keepIn K (.ref f_checked_rows) = true)
    (a_law_source : PySem.W.nsIn K mainGlobals "_law_source" = some (some (.ref f_law_source)))
    (l_law_source : K.lookup f_law_source = some ⟨oc_law_source, od_law_source, .func (PySem.W.fnOf "_law_source" "_law_source" (defArgs s_law_source) (defBody s_law_source) (defScope s_law_source) .none kV_law_source dc_law_source pm_law_source an_law_source cd_law_source ct_law_source), sl_law_source⟩)
    (c_law_source : PySem.W.codeIn K cd_law_source "_law_source" = true)
    (k_law_source : PySem.W.keepIn K (.ref f_law_source) = true)
    (a_law_draw : PySem.W.nsIn K mainGlobals "_law_draw" = some (some (.ref f_law_draw)))
    (l_law_draw : K.lookup f_law_draw = some ⟨oc_law_draw, od_law_draw, .func (PySem.W.fnOf "_law_draw" "_law_draw" (defArgs s_law_draw) (defBody s_law_draw) (defScope s_law_draw) .none kV_law_draw dc_law_draw pm_law_draw an_law_draw cd_law_draw ct_law_draw), sl_law_draw⟩)
    (c_law_draw : PySem.W.codeIn K cd_law_draw "_law_draw" = true)
    (k_law_draw : PySem.W.keepIn K (.ref f_law_draw) = true)
    (a_law_goods : PySem.W.nsIn K mainGlobals "_law_goods" = some (some (.ref f_law_goods)))
    (l_law_goods : K.lookup f_law_goods = some ⟨oc_law_goods, od_law_goods, .func (PySem.W.fnOf "_law_goods" "_law_goods" (defArgs s_law_goods) (defBody s_law_goods) (defScope s_law_goods) .none kV_law_goods dc_law_goods pm_law_goods an_law_goods cd_law_goods ct_law_goods), sl_law_goods⟩)
    (c_law_goods : PySem.W.codeIn K cd_law_goods "_law_goods" = true)
    (k_law_goods : PySem.W.keepIn K (.ref f_law_goods) = true)
    (a_law_size : PySem.W.nsIn K mainGlobals "_law_size" = some (some (.ref f_law_size)))
    (l_law_size : K.lookup f_law_size = some ⟨oc_law_size, od_law_size, .func (PySem.W.fnOf "_law_size" "_law_size" (defArgs s_law_size) (defBody s_law_size) (defScope s_law_size) .none kV_law_size dc_law_size pm_law_size an_law_size cd_law_size ct_law_size), sl_law_size⟩)
    (c_law_size : PySem.W.codeIn K cd_law_size "_law_size" = true)
    (k_law_size : PySem.W.keepIn K (.ref f_law_size) = true)
    (a_law_pairs : PySem.W.nsIn K mainGlobals "_law_pairs" = some (some (.ref f_law_pairs)))
    (l_law_pairs : K.lookup f_law_pairs = some ⟨oc_law_pairs, od_law_pairs, .func (PySem.W.fnOf "_law_pairs" "_law_pairs" (defArgs s_law_pairs) (defBody s_law_pairs) (defScope s_law_pairs) .none kV_law_pairs dc_law_pairs pm_law_pairs an_law_pairs cd_law_pairs ct_law_pairs), sl_law_pairs⟩)
    (c_law_pairs : PySem.W.codeIn K cd_law_pairs "_law_pairs" = true)
    (k_law_pairs : PySem.W.keepIn K (.ref f_law_pairs) = true)
    (a_law_closed : PySem.W.nsIn K mainGlobals "_law_closed" = some (some (.ref f_law_closed)))
    (l_law_closed : K.lookup f_law_closed = some ⟨oc_law_closed, od_law_closed, .func (PySem.W.fnOf "_law_closed" "_law_closed" (defArgs s_law_closed) (defBody s_law_closed) (defScope s_law_closed) .none kV_law_closed dc_law_closed pm_law_closed an_law_closed cd_law_closed ct_law_closed), sl_law_closed⟩)
    (c_law_closed : PySem.W.codeIn K cd_law_closed "_law_closed" = true)
    (k_law_closed : PySem.W.keepIn K (.ref f_law_closed) = true)
    (a_law_rows : PySem.W.nsIn K mainGlobals "_law_rows" = some (some (.ref f_law_rows)))
    (l_law_rows : K.lookup f_law_rows = some ⟨oc_law_rows, od_law_rows, .func (PySem.W.fnOf "_law_rows" "_law_rows" (defArgs s_law_rows) (defBody s_law_rows) (defScope s_law_rows) .none kV_law_rows dc_law_rows pm_law_rows an_law_rows cd_law_rows ct_law_rows), sl_law_rows⟩)
    (c_law_rows : PySem.W.codeIn K cd_law_rows "_law_rows" = true)
    (k_law_rows : PySem.W.keepIn K (.ref f_law_rows) = true)
    (a_law_is_whole : PySem.W.nsIn K mainGlobals "_law_is_whole" = some (some (.ref f_law_is_whole)))
    (l_law_is_whole : K.lookup f_law_is_whole = some ⟨oc_law_is_whole, od_law_is_whole, .func (PySem.W.fnOf "_law_is_whole" "_law_is_whole" (defArgs s_law_is_whole) (defBody s_law_is_whole) (defScope s_law_is_whole) .none kV_law_is_whole dc_law_is_whole pm_law_is_whole an_law_is_whole cd_law_is_whole ct_law_is_whole), sl_law_is_whole⟩)
    (c_law_is_whole : PySem.W.codeIn K cd_law_is_whole "_law_is_whole" = true)
    (k_law_is_whole : PySem.W.keepIn K (.ref f_law_is_whole) = true)
    (a_law_missing : PySem.W.nsIn K mainGlobals "_law_missing" = some (some (.ref f_law_missing)))
    (l_law_missing : K.lookup f_law_missing = some ⟨oc_law_missing, od_law_missing, .func (PySem.W.fnOf "_law_missing" "_law_missing" (defArgs s_law_missing) (defBody s_law_missing) (defScope s_law_missing) .none kV_law_missing dc_law_missing pm_law_missing an_law_missing cd_law_missing ct_law_missing), sl_law_missing⟩)
    (c_law_missing : PySem.W.codeIn K cd_law_missing "_law_missing" = true)
    (k_law_missing : PySem.W.keepIn K (.ref f_law_missing) = true)
    (a_law_missing_chain : PySem.W.nsIn K mainGlobals "_law_missing_chain" = some (some (.ref f_law_missing_chain)))
    (l_law_missing_chain : K.lookup f_law_missing_chain = some ⟨oc_law_missing_chain, od_law_missing_chain, .func (PySem.W.fnOf "_law_missing_chain" "_law_missing_chain" (defArgs s_law_missing_chain) (defBody s_law_missing_chain) (defScope s_law_missing_chain) .none kV_law_missing_chain dc_law_missing_chain pm_law_missing_chain an_law_missing_chain cd_law_missing_chain ct_law_missing_chain), sl_law_missing_chain⟩)
    (c_law_missing_chain : PySem.W.codeIn K cd_law_missing_chain "_law_missing_chain" = true)
    (k_law_missing_chain : PySem.W.keepIn K (.ref f_law_missing_chain) = true)
    (a_law_is_chain : PySem.W.nsIn K mainGlobals "_law_is_chain" = some (some (.ref f_law_is_chain)))
    (l_law_is_chain : K.lookup f_law_is_chain = some ⟨oc_law_is_chain, od_law_is_chain, .func (PySem.W.fnOf "_law_is_chain" "_law_is_chain" (defArgs s_law_is_chain) (defBody s_law_is_chain) (defScope s_law_is_chain) .none kV_law_is_chain dc_law_is_chain pm_law_is_chain an_law_is_chain cd_law_is_chain ct_law_is_chain), sl_law_is_chain⟩)
    (c_law_is_chain : PySem.W.codeIn K cd_law_is_chain "_law_is_chain" = true)
    (k_law_is_chain : PySem.W.keepIn K (.ref f_law_is_chain) = true)
    (a_law_entries_right : PySem.W.nsIn K mainGlobals "_law_entries_right" = some (some (.ref f_law_entries_right)))
    (l_law_entries_right : K.lookup f_law_entries_right = some ⟨oc_law_entries_right, od_law_entries_right, .func (PySem.W.fnOf "_law_entries_right" "_law_entries_right" (defArgs s_law_entries_right) (defBody s_law_entries_right) (defScope s_law_entries_right) .none kV_law_entries_right dc_law_entries_right pm_law_entries_right an_law_entries_right cd_law_entries_right ct_law_entries_right), sl_law_entries_right⟩)
    (c_law_entries_right : PySem.W.codeIn K cd_law_entries_right "_law_entries_right" = true)
    (k_law_entries_right : PySem.W.keepIn K (.ref f_law_entries_right) = true)
    (a_law_sums_right : PySem.W.nsIn K mainGlobals "_law_sums_right" = some (some (.ref f_law_sums_right)))
    (l_law_sums_right : K.lookup f_law_sums_right = some ⟨oc_law_sums_right, od_law_sums_right, .func (PySem.W.fnOf "_law_sums_right" "_law_sums_right" (defArgs s_law_sums_right) (defBody s_law_sums_right) (defScope s_law_sums_right) .none kV_law_sums_right dc_law_sums_right pm_law_sums_right an_law_sums_right cd_law_sums_right ct_law_sums_right), sl_law_sums_right⟩)
    (c_law_sums_right : PySem.W.codeIn K cd_law_sums_right "_law_sums_right" = true)
    (k_law_sums_right : PySem.W.keepIn K (.ref f_law_sums_right) = true)
    (a_law_strangers : PySem.W.nsIn K mainGlobals "_law_strangers" = some (some (.ref f_law_strangers)))
    (l_law_strangers : K.lookup f_law_strangers = some ⟨oc_law_strangers, od_law_strangers, .func (PySem.W.fnOf "_law_strangers" "_law_strangers" (defArgs s_law_strangers) (defBody s_law_strangers) (defScope s_law_strangers) .none kV_law_strangers dc_law_strangers pm_law_strangers an_law_strangers cd_law_strangers ct_law_strangers), sl_law_strangers⟩)
    (c_law_strangers : PySem.W.codeIn K cd_law_strangers "_law_strangers" = true)
    (k_law_strangers : PySem.W.keepIn K (.ref f_law_strangers) = true)
    (a_law_equal_ones : PySem.W.nsIn K mainGlobals "_law_equal_ones" = some (some (.ref f_law_equal_ones)))
    (l_law_equal_ones : K.lookup f_law_equal_ones = some ⟨oc_law_equal_ones, od_law_equal_ones, .func (PySem.W.fnOf "_law_equal_ones" "_law_equal_ones" (defArgs s_law_equal_ones) (defBody s_law_equal_ones) (defScope s_law_equal_ones) .none kV_law_equal_ones dc_law_equal_ones pm_law_equal_ones an_law_equal_ones cd_law_equal_ones ct_law_equal_ones), sl_law_equal_ones⟩)
    (c_law_equal_ones : PySem.W.codeIn K cd_law_equal_ones "_law_equal_ones" = true)
    (k_law_equal_ones : PySem.W.keepIn K (.ref f_law_equal_ones) = true)
    (a_law : PySem.W.nsIn K mainGlobals "law" = some (some (.ref f_law)))
    (l_law : K.lookup f_law = some ⟨oc_law, od_law, .func (PySem.W.fnOf "law" "law" (defArgs s_law) (defBody s_law) (defScope s_law) .none kV_law dc_law pm_law an_law cd_law ct_law), sl_law⟩)
    (c_law : PySem.W.codeIn K cd_law "law" = true)
    (k_law : PySem.W.keepIn K (.ref f_law) = true)
    (g_MOST : PySem.W.nsIn K mainGlobals "MOST" = some (some (.int 1000000000000 t_MOST)))
    (g__CASH : PySem.W.nsIn K mainGlobals "_CASH" = some (some (.str "cash" t__CASH)))
    (g__LETTERS : PySem.W.nsIn K mainGlobals "_LETTERS" = some (some (.str "abcdefghijklmnopqrstuvwxyz" t__LETTERS)))
    (g__LONGEST_NAME : PySem.W.nsIn K mainGlobals "_LONGEST_NAME" = some (some (.int 12 t__LONGEST_NAME)))
    (g__MOST_GOODS : PySem.W.nsIn K mainGlobals "_MOST_GOODS" = some (some (.int 5 t__MOST_GOODS)))
    (z_int : PySem.W.nsIn K mainGlobals "int" = some none)
    (z_abs : PySem.W.nsIn K mainGlobals "abs" = some none)
    (z_len : PySem.W.nsIn K mainGlobals "len" = some none)
    (z_range : PySem.W.nsIn K mainGlobals "range" = some none)
    (z_min : PySem.W.nsIn K mainGlobals "min" = some none)
    (z_isinstance : PySem.W.nsIn K mainGlobals "isinstance" = some none)
    (z_all : PySem.W.nsIn K mainGlobals "all" = some none)
    (z_str : PySem.W.nsIn K mainGlobals "str" = some none)
    (z_bool : PySem.W.nsIn K mainGlobals "bool" = some none)
    (z_list : PySem.W.nsIn K mainGlobals "list" = some none)
    (z_tuple : PySem.W.nsIn K mainGlobals "tuple" = some none)
    (z_set : PySem.W.nsIn K mainGlobals "set" = some none)
    (z_enumerate : PySem.W.nsIn K mainGlobals "enumerate" = some none)
    (z_iter : PySem.W.nsIn K mainGlobals "iter" = some none)
    (z_zip : PySem.W.nsIn K mainGlobals "zip" = some none)
    (z_max : PySem.W.nsIn K mainGlobals "max" = some none)
    : ∃ fd : FuncData, (∀ (s : Shared) (v : Value), BindsTo s fd ⟨[v], []⟩ [("script", v)]) ∧ ∀ base : Heap, K.In base → base.Ns mainGlobals mg → FnOk l.prog w K mg base (L2.CX l.prog w) 13 fa fd ["script"] (spOf K sdLaw) := by
  have e := hfa.symm.trans (PySem.W.mg_of X G a_law)
  cases e
  have F_init := fun_mk (st := s_Table___init) l_init c_init k_init
  have F_check_pair := fun_mk (st := s_Table__check_pair) l_check_pair c_check_pair k_check_pair
  have F_entries := fun_mk (st := s_Table_entries) l_entries c_entries k_entries
  have F_getitem := fun_mk (st := s_Table___getitem) l_getitem c_getitem k_getitem
  have F_chain := fun_mk (st := s_Table_chain) l_chain c_chain k_chain
  have F_eq := fun_mk (st := s_Table___eq) l_eq c_eq k_eq
  have F_iter := fun_mk (st := s_Table___iter) l_iter c_iter k_iter
  have F_xiNA := fun_mk (st := s_NoAsset___init) l_xiNA c_xiNA k_xiNA
  have F_is_name := fun_mk (st := s_is_name) l_is_name c_is_name k_is_name
  have F_is_sequence := fun_mk (st := s_is_sequence) l_is_sequence c_is_sequence k_is_sequence
  have F_is_integer := fun_mk (st := s_is_integer) l_is_integer c_is_integer k_is_integer
  have F_is_whole := fun_mk (st := s_is_whole) l_is_whole c_is_whole k_is_whole
  have F_is_row := fun_mk (st := s_is_row) l_is_row c_is_row k_is_row
  have F_checked_goods := fun_mk (st := s_checked_goods) l_checked_goods c_checked_goods k_checked_goods
  have F_assets := fun_mk (st := s_assets) l_assets c_assets k_assets
  have F_pairs_of := fun_mk (st := s_pairs_of) l_pairs_of c_pairs_of k_pairs_of
  have F_check_asset := fun_mk (st := s_check_asset) l_check_asset c_check_asset k_check_asset
  have F_closed_sums := fun_mk (st := s_closed_sums) l_closed_sums c_closed_sums k_closed_sums
  have F_row_fault := fun_mk (st := s_row_fault) l_row_fault c_row_fault k_row_fault
  have F_checked_rows := fun_mk (st := s_checked_rows) l_checked_rows c_checked_rows k_checked_rows
  have F_law_source := fun_mk (st := s_law_source) l_law_source c_law_source k_law_source
  have F_law_draw := fun_mk (st := s_law_draw) l_law_draw c_law_draw k_law_draw
  have F_law_goods := fun_mk (st := s_law_goods) l_law_goods c_law_goods k_law_goods
  have F_law_size := fun_mk (st := s_law_size) l_law_size c_law_size k_law_size
  have F_law_pairs := fun_mk (st := s_law_pairs) l_law_pairs c_law_pairs k_law_pairs
  have F_law_closed := fun_mk (st := s_law_closed) l_law_closed c_law_closed k_law_closed
  have F_law_rows := fun_mk (st := s_law_rows) l_law_rows c_law_rows k_law_rows
  have F_law_is_whole := fun_mk (st := s_law_is_whole) l_law_is_whole c_law_is_whole k_law_is_whole
  have F_law_missing := fun_mk (st := s_law_missing) l_law_missing c_law_missing k_law_missing
  have F_law_missing_chain := fun_mk (st := s_law_missing_chain) l_law_missing_chain c_law_missing_chain k_law_missing_chain
  have F_law_is_chain := fun_mk (st := s_law_is_chain) l_law_is_chain c_law_is_chain k_law_is_chain
  have F_law_entries_right := fun_mk (st := s_law_entries_right) l_law_entries_right c_law_entries_right k_law_entries_right
  have F_law_sums_right := fun_mk (st := s_law_sums_right) l_law_sums_right c_law_sums_right k_law_sums_right
  have F_law_strangers := fun_mk (st := s_law_strangers) l_law_strangers c_law_strangers k_law_strangers
  have F_law_equal_ones := fun_mk (st := s_law_equal_ones) l_law_equal_ones c_law_equal_ones k_law_equal_ones
  have F_law := fun_mk (st := s_law) l_law c_law k_law
  have b_is_name := F_is_name.binds (ps := ["thing"]) fun _ _ _ _ _ _ us hl => match us, hl with | [_], _ => rfl
  have b_is_sequence := F_is_sequence.binds (ps := ["thing"]) fun _ _ _ _ _ _ us hl => match us, hl with | [_], _ => rfl
  have b_is_integer := F_is_integer.binds (ps := ["thing"]) fun _ _ _ _ _ _ us hl => match us, hl with | [_], _ => rfl
  have b_is_whole := F_is_whole.binds (ps := ["thing", "low", "high"]) fun _ _ _ _ _ _ us hl => match us, hl with | [_, _, _], _ => rfl
  have b_is_row := F_is_row.binds (ps := ["thing", "length"]) fun _ _ _ _ _ _ us hl => match us, hl with | [_, _], _ => rfl
  have b_checked_goods := F_checked_goods.binds (ps := ["goods"]) fun _ _ _ _ _ _ us hl => match us, hl with | [_], _ => rfl
  have b_assets := F_assets.binds (ps := ["goods"]) fun _ _ _ _ _ _ us hl => match us, hl with | [_], _ => rfl
  have b_pairs_of := F_pairs_of.binds (ps := ["known"]) fun _ _ _ _ _ _ us hl => match us, hl with | [_], _ => rfl
  have b_check_asset := F_check_asset.binds (ps := ["known", "thing"]) fun _ _ _ _ _ _ us hl => match us, hl with | [_, _], _ => rfl
  have b_closed_sums := F_closed_sums.binds (ps := ["assets", "rows"]) fun _ _ _ _ _ _ us hl => match us, hl with | [_, _], _ => rfl
  have b_row_fault := F_row_fault.binds (ps := ["known", "row", "cap"]) fun _ _ _ _ _ _ us hl => match us, hl with | [_, _, _], _ => rfl
  have b_checked_rows := F_checked_rows.binds (ps := ["known", "rows", "cap"]) fun _ _ _ _ _ _ us hl => match us, hl with | [_, _, _], _ => rfl
  have b_check_pair := F_check_pair.binds (ps := ["self", "up", "down"]) fun _ _ _ _ _ _ us hl => match us, hl with | [_, _, _], _ => rfl
  have b_entries := F_entries.binds (ps := ["self"]) fun _ _ _ _ _ _ us hl => match us, hl with | [_], _ => rfl
  have b_getitem := F_getitem.binds (ps := ["self", "at"]) fun _ _ _ _ _ _ us hl => match us, hl with | [_, _], _ => rfl
  have b_eq := F_eq.binds (ps := ["self", "other"]) fun _ _ _ _ _ _ us hl => match us, hl with | [_, _], _ => rfl
  have b_iter := F_iter.binds (ps := ["self"]) fun _ _ _ _ _ _ us hl => match us, hl with | [_], _ => rfl
  have b_law_source := F_law_source.binds (ps := ["script", "place"]) fun _ _ _ _ _ _ us hl => match us, hl with | [_, _], _ => rfl
  have b_law_draw := F_law_draw.binds (ps := ["source", "many"]) fun _ _ _ _ _ _ us hl => match us, hl with | [_, _], _ => rfl
  have b_law_goods := F_law_goods.binds (ps := ["source", "most"]) fun _ _ _ _ _ _ us hl => match us, hl with | [_, _], _ => rfl
  have b_law_size := F_law_size.binds (ps := ["source"]) fun _ _ _ _ _ _ us hl => match us, hl with | [_], _ => rfl
  have b_law_pairs := F_law_pairs.binds (ps := ["names"]) fun _ _ _ _ _ _ us hl => match us, hl with | [_], _ => rfl
  have b_law_closed := F_law_closed.binds (ps := ["names", "rows"]) fun _ _ _ _ _ _ us hl => match us, hl with | [_, _], _ => rfl
  have b_law_rows := F_law_rows.binds (ps := ["source", "goods"]) fun _ _ _ _ _ _ us hl => match us, hl with | [_, _], _ => rfl
  have b_law := F_law.binds (ps := ["script"]) fun _ _ _ _ _ _ us hl => match us, hl with | [_], _ => rfl
  have b_chain := F_chain.binds (ps := ["self", "up", "down"]) fun _ _ _ _ _ _ us hl => match us, hl with | [_, _, _], _ => rfl
  have b_law_is_whole := F_law_is_whole.binds (ps := ["thing"]) fun _ _ _ _ _ _ us hl => match us, hl with | [_], _ => rfl
  have b_law_missing := F_law_missing.binds (ps := ["table", "up", "down"]) fun _ _ _ _ _ _ us hl => match us, hl with | [_, _, _], _ => rfl
  have b_law_missing_chain := F_law_missing_chain.binds (ps := ["table", "up", "down"]) fun _ _ _ _ _ _ us hl => match us, hl with | [_, _, _], _ => rfl
  have b_law_is_chain := F_law_is_chain.binds (ps := ["told", "rows", "up", "down", "due"]) fun _ _ _ _ _ _ us hl => match us, hl with | [_, _, _, _, _], _ => rfl
  have b_law_entries_right := F_law_entries_right.binds (ps := ["table", "names", "closed"]) fun _ _ _ _ _ _ us hl => match us, hl with | [_, _, _], _ => rfl
  have b_law_sums_right := F_law_sums_right.binds (ps := ["source", "names", "rows"]) fun _ _ _ _ _ _ us hl => match us, hl with | [_, _, _], _ => rfl
  have b_law_strangers := F_law_strangers.binds (ps := ["table", "source", "names"]) fun _ _ _ _ _ _ us hl => match us, hl with | [_, _, _], _ => rfl
  have b_law_equal_ones := F_law_equal_ones.binds (ps := ["table", "source", "goods", "rows"]) fun _ _ _ _ _ _ us hl => match us, hl with | [_, _, _, _], _ => rfl
  have b_xiNA := F_xiNA.binds (ps := ["self", "name"]) fun _ _ _ _ _ _ us hl => match us, hl with | [_, _], _ => rfl
  have g : ∀ {x : Str} {v : Value}, PySem.W.nsIn K mainGlobals x = some (some v) → mg x = some v := fun a => PySem.W.mg_of X G a
  have z : ∀ {x : Str}, PySem.W.nsIn K mainGlobals x = some none → mg x = none := fun a => PySem.W.mg_none_of X G a
  have TB : TxtB mg := ⟨z z_int, z z_abs, z z_len, z z_range, z z_min⟩
  have TN : TxtN mg := { TB with b_isinstance := z z_isinstance, b_all := z z_all, b_str := z z_str, b_bool := z z_bool, b_list := z z_list, b_tuple := z z_tuple, b_set := z z_set, b_enumerate := z z_enumerate, b_iter := z z_iter, b_zip := z z_zip, b_max := z z_max, k_MOST := ⟨_, g g_MOST⟩, k__CASH := ⟨_, g g__CASH⟩, k__LETTERS := ⟨_, g g__LETTERS⟩, k__LONGEST_NAME := ⟨_, g g__LONGEST_NAME⟩, k__MOST_GOODS := ⟨_, g g__MOST_GOODS⟩ }
  have na : ∀ n : Str, (["goods", "_assets", "rows", "_sums", "_entries"] : List Str).contains n = true → NoAttr K C n := fun n hn => by
    have hn' : n ∈ (["goods", "_assets", "rows", "_sums", "_entries"] : List Str) := List.contains_iff_mem.mp hn
    simp only [List.mem_cons, List.not_mem_nil, or_false] at hn'
    rcases hn' with rfl | rfl | rfl | rfl | rfl
    · exact n_Table_goods
    · exact n_Table__assets
    · exact n_Table_rows
    · exact n_Table__sums
    · exact n_Table__entries
  have cl : Cls K C := ⟨pg_Table, hd_Table, po_Table, sa_Table⟩
  have TT : TxtT K mg C := { TN with cl_Table := cl, na_Table := na }
  have TO : TxtO K mg C OG OG := { TT with c_Table := g c_Table, si_Table := ⟨ca_C, cn_C, ct_C, cm_C⟩, c_OtherGoods := g c_OtherGoods, oe_OtherGoods := ⟨xn_B, kp_B, ex_B, ty_B⟩ }
  have ne : NeOf K C f_eq := ⟨⟨_, _, _, _, _, _, _, _, _, _, _, _, _, _, _, _, l_C, ns_ok l_NC q_NC, e_NC, m_NC⟩, fn_of_ty ty_eq⟩
  obtain ⟨mi0, kbi0⟩ := kbI0 (fund_mk l_init c_init k_init d_init)
  obtain ⟨mi1, kbi1⟩ := kbI1 (fund_mk l_init c_init k_init d_init)
  have oex_NA : OexC K NA := ⟨⟨_, _, _, _, _, _, _, _, _, _, _, _, _, _, _, l_NA, h_NA⟩, sa_NA, ex_NA, ty_NA, kp_NA⟩
  have xf_NA : XfC K NA := ⟨ga_NA, gg_NA, ex_NA, hd_NA⟩
  have exm_NA := exm_ref ex_NA ic_NA ty_NA sb_NA
  have TL : TxtL K mg C OG OG NA := { TO with c_NoAsset := g c_NoAsset, xf_NoAsset := xf_NA, n_NoAsset_name := nw_NA_name, exm_NN := exm_NA }
  have TM : TxtM K mg C OG OG NA := { TL with nf_Table := nf_self, nf_Ttup := nf_ty st_C, nf_Tlst := nf_ty sl_C, no_tup := kit_cl ic_C ty_C st_C, no_lst := kit_cl ic_C ty_C sl_C }
  refine ⟨PySem.W.fnOf "law" "law" (defArgs s_law) (defBody s_law) (defScope s_law) .none kV_law dc_law pm_law an_law cd_law ct_law, fun s v => .of_eq rfl, fun base Kb Gb => ?_⟩
  let X_NoAsset : DefX l.prog w K mg base "NoAsset" NA ["name"] := ⟨_, _, _, oex_NA, a_xiNA, ty_xiNA, ok_NoAsset F_xiNA oex_NA nw_NA_name, b_xiNA, g c_NoAsset⟩
  let D_is_name : DefD l.prog w K mg base "is_name" 1 ["thing"] sdName := ⟨_, _, ok_name F_is_name TN, g a_is_name, k_is_name, b_is_name⟩
  let D_is_sequence : DefD l.prog w K mg base "is_sequence" 1 ["thing"] sdSeq := ⟨_, _, ok_seq F_is_sequence TN, g a_is_sequence, k_is_sequence, b_is_sequence⟩
  let D_is_integer : DefD l.prog w K mg base "is_integer" 1 ["thing"] sdIsInt := ⟨_, _, ok_integer F_is_integer TN, g a_is_integer, k_is_integer, b_is_integer⟩
  let D_is_whole : DefD l.prog w K mg base "is_whole" 3 ["thing", "low", "high"] sdWhole := ⟨_, _, ok_whole D_is_integer F_is_whole TN, g a_is_whole, k_is_whole, b_is_whole⟩
  let D_is_row : DefD l.prog w K mg base "is_row" 3 ["thing", "length"] sdIsRow := ⟨_, _, ok_row D_is_sequence F_is_row TN, g a_is_row, k_is_row, b_is_row⟩
  let D_checked_goods : DefD l.prog w K mg base "checked_goods" 3 ["goods"] sdChecked := ⟨_, _, ok_checked trivial D_is_sequence D_is_name F_checked_goods TN, g a_checked_goods, k_checked_goods, b_checked_goods⟩
  let D_assets : DefD l.prog w K mg base "assets" 5 ["goods"] sdAssets := ⟨_, _, ok_assets D_checked_goods F_assets TN, g a_assets, k_assets, b_assets⟩
  let D_pairs_of : DefD l.prog w K mg base "pairs_of" 1 ["known"] sdPairsOf := ⟨_, _, ok_pairs_of F_pairs_of TN, g a_pairs_of, k_pairs_of, b_pairs_of⟩
  let D_check_asset : DefD l.prog w K mg base "check_asset" 1 ["known", "thing"] sdCheckA := ⟨_, _, ok_checkA F_check_asset TN, g a_check_asset, k_check_asset, b_check_asset⟩
  let D_check_assetX : DefD l.prog w K mg base "check_asset" 3 ["known", "thing"] (sdCheckX NA) := ⟨_, _, ok_checkX X_NoAsset F_check_asset TN, g a_check_asset, k_check_asset, b_check_asset⟩
  let D_closed_sums : DefD l.prog w K mg base "closed_sums" 1 ["assets", "rows"] sdSums := ⟨_, _, ok_sums F_closed_sums TB, g a_closed_sums, k_closed_sums, b_closed_sums⟩
  let D_row_fault : DefD l.prog w K mg base "_row_fault" 5 ["known", "row", "cap"] sdRowFault := ⟨_, _, ok_fault D_is_row D_is_whole F_row_fault TN, g a_row_fault, k_row_fault, b_row_fault⟩
  let D_checked_rows : DefD l.prog w K mg base "_checked_rows" 7 ["known", "rows", "cap"] sdRowsOk := ⟨_, _, ok_rowsOk D_is_sequence D_row_fault F_checked_rows TN, g a_checked_rows, k_checked_rows, b_checked_rows⟩
  let K_Table : DefK l.prog w K mg base C 9 3 ["self", "goods", "rows", "cap"] ["cap"] [.int 1000000000000] (sdInit C) := ⟨_, _, _, _, ⟨mk_Table, a_init, i_init, kp_Table⟩, ok_init D_checked_goods D_assets D_checked_rows D_closed_sums D_pairs_of F_init TT, kbi0, kbi1⟩
  let D_Table__check_pair : DefM l.prog w K mg base C "_check_pair" 3 ["self", "up", "down"] (sdCheckP C) := ⟨_, _, ok_checkP D_check_asset F_check_pair TT, b_check_pair, ⟨a_check_pair, i_check_pair, k_check_pair⟩⟩
  let D_Table__check_pairX : DefM l.prog w K mg base C "_check_pair" 5 ["self", "up", "down"] (sdCheckPX C NA) := ⟨_, _, ok_checkPX D_check_assetX F_check_pair TT, b_check_pair, ⟨a_check_pair, i_check_pair, k_check_pair⟩⟩
  let D_Table___getitem : DefG l.prog w K mg base C 5 ["self", "at"] (sdGet C) := ⟨_, _, ok_get D_Table__check_pair F_getitem TT, b_getitem, ⟨a_getitem, fi_get, i_getitem⟩⟩
  let D_Table___getitemX : DefG l.prog w K mg base C 7 ["self", "at"] (sdGetX C NA) := ⟨_, _, ok_getX D_Table__check_pairX F_getitem TT, b_getitem, ⟨a_getitem, fi_get, i_getitem⟩⟩
  let D_Table_entries : DefP l.prog w K mg base C "entries" 1 ["self"] (sdEntries C) := ⟨_, _, _, ok_entries F_entries TT, b_entries, ⟨pa_entries, pt_entries, pk_entries, ⟨_, a_entries⟩⟩⟩
  let D_Table_chain : DefM l.prog w K mg base C "chain" 7 ["self", "up", "down"] (sdChain C) := ⟨_, _, ok_chain D_Table__check_pair D_Table___getitem F_chain TT, b_chain, ⟨a_chain, i_chain, k_chain⟩⟩
  let D_Table_chainX : DefM l.prog w K mg base C "chain" 7 ["self", "up", "down"] (sdChainX C NA) := ⟨_, _, ok_chainX D_Table__check_pairX D_Table___getitem F_chain TT, b_chain, ⟨a_chain, i_chain, k_chain⟩⟩
  let D_Table___eq : DefE l.prog w K mg base C 1 ["self", "other"] (sdEqA C) := ⟨_, _, ok_eqA F_eq TM, b_eq, a_eq, i_eq, ne⟩
  have I_Table := iter_of cl n_Table_rows a_iter i_iter F_iter b_iter
  let D_law_source : DefD l.prog w K mg base "_law_source" 1 ["script", "place"] KS.sdSourceR := ⟨_, _, KS.ok_sourceR F_law_source TB, g a_law_source, k_law_source, b_law_source⟩
  let D_law_draw : DefD l.prog w K mg base "_law_draw" 1 ["source", "many"] sdDraw := ⟨_, _, ok_draw F_law_draw TB, g a_law_draw, k_law_draw, b_law_draw⟩
  let D_law_goods : DefD l.prog w K mg base "_law_goods" 3 ["source", "most"] sdGoods := ⟨_, _, ok_goods D_law_draw F_law_goods TB, g a_law_goods, k_law_goods, b_law_goods⟩
  let D_law_size : DefD l.prog w K mg base "_law_size" 3 ["source"] sdSize := ⟨_, _, ok_size D_law_draw F_law_size TB, g a_law_size, k_law_size, b_law_size⟩
  let D_law_pairs : DefD l.prog w K mg base "_law_pairs" 1 ["names"] sdPairs := ⟨_, _, ok_pairs F_law_pairs TB, g a_law_pairs, k_law_pairs, b_law_pairs⟩
  let D_law_closed : DefD l.prog w K mg base "_law_closed" 1 ["names", "rows"] sdClosed := ⟨_, _, ok_closed F_law_closed TB, g a_law_closed, k_law_closed, b_law_closed⟩
  let D_law_closed_L : DefD l.prog w K mg base "_law_closed" 1 ["names", "rows"] (lent sdClosed) := ⟨_, _, FnOk.lent (ok_closed F_law_closed TB), g a_law_closed, k_law_closed, b_law_closed⟩
  let D_law_rows : DefD l.prog w K mg base "_law_rows" 5 ["source", "goods"] sdRows := ⟨_, _, ok_rows D_law_draw D_law_size D_law_pairs D_law_closed_L F_law_rows TB, g a_law_rows, k_law_rows, b_law_rows⟩
  let D_law_is_whole : DefD l.prog w K mg base "_law_is_whole" 1 ["thing"] sdWholeL := ⟨_, _, ok_lwhole F_law_is_whole TN, g a_law_is_whole, k_law_is_whole, b_law_is_whole⟩
  let D_law_missing : DefD l.prog w K mg base "_law_missing" 9 ["table", "up", "down"] (sdMiss C) := ⟨_, _, ok_lmiss D_Table___getitemX F_law_missing TL, g a_law_missing, k_law_missing, b_law_missing⟩
  let D_law_missing_chain : DefD l.prog w K mg base "_law_missing_chain" 9 ["table", "up", "down"] (sdMiss C) := ⟨_, _, ok_lmissc D_Table_chainX F_law_missing_chain TL, g a_law_missing_chain, k_law_missing_chain, b_law_missing_chain⟩
  let D_law_is_chain : DefD l.prog w K mg base "_law_is_chain" 1 ["told", "rows", "up", "down", "due"] sdIsChain := ⟨_, _, ok_lchain F_law_is_chain TN, g a_law_is_chain, k_law_is_chain, b_law_is_chain⟩
  let D_law_entries_right : DefD l.prog w K mg base "_law_entries_right" 3 ["table", "names", "closed"] (sdEntR C) := ⟨_, _, ok_lentr D_law_pairs D_law_is_whole D_Table_entries F_law_entries_right TL, g a_law_entries_right, k_law_entries_right, b_law_entries_right⟩
  let D_law_strangers : DefD l.prog w K mg base "_law_strangers" 11 ["table", "source", "names"] (sdStrg C) := ⟨_, _, ok_lstr D_law_draw D_law_missing D_law_missing_chain F_law_strangers TL, g a_law_strangers, k_law_strangers, b_law_strangers⟩
  let D_law_equal_ones : DefD l.prog w K mg base "_law_equal_ones" 11 ["table", "source", "goods", "rows"] (sdEqOnes C) := ⟨_, _, ok_leq D_law_draw D_law_pairs D_law_closed K_Table D_Table_entries D_Table___eq F_law_equal_ones TM, g a_law_equal_ones, k_law_equal_ones, b_law_equal_ones⟩
  let D_law_sums_right : DefD l.prog w K mg base "_law_sums_right" 3 ["source", "names", "rows"] sdSumsR := ⟨_, _, ok_lsums D_law_draw D_law_closed D_closed_sums D_law_is_whole F_law_sums_right TL, g a_law_sums_right, k_law_sums_right, b_law_sums_right⟩
  exact ok_law I_Table D_law_source D_law_draw D_law_goods D_law_rows D_law_closed K_Table D_Table___getitem D_Table_chain D_law_entries_right D_law_is_whole D_law_is_chain D_law_strangers D_law_equal_ones D_law_sums_right F_law TM
theorem walk {l : PySem.W.OpenLaw} {q : Program} {loose : List Str} {XP : (Str → Option Value) → Heap → Prop} {YP : World → Heap → Prop} {d : DefRec} {K : Params → PySem.W.Frag} (hn : l.most = some 63) (hdf : d.params.defaults = [])
    (hY : ∀ (w : World) (h : Heap), YP w h → (K w.params).In h)
    (F : ∀ (w : World) (mg : Str → Option Value) (fa : Addr) (h : Heap), (K w.params).In h → h.Ns mainGlobals mg → mg d.name = some (.ref fa) →
      ∃ fd : FuncData, (∀ (s : Shared) (u : Value), BindsTo s fd ⟨[u], []⟩ [("script", u)]) ∧ ∀ base : Heap, (K w.params).In base → base.Ns mainGlobals mg → FnOk l.prog w (K w.params) mg base (L2.CX l.prog w) 13 fa fd ["script"] (spOf (K w.params) sdLaw)) :
    PySem.W.WalkO q loose XP YP l.row.toRowW d [] (fun f vs => PySem.call f vs) :=
  L2.walk_of (n := 63) (k := 13) (x := "script") (CX := fun w => L2.CX l.prog w) (sp := fun w => spOf (K w.params) sdLaw) hn (by decide) hdf ⟨rfl, by decide, by decide⟩ hY F (fun _ _ a ns hl _ hS => law_in hS) fun _ _ _ _ _ z => cx_none z
end KT
open PySem PySem.W PyProof.Rows
set_option maxRecDepth 100000 in
set_option maxHeartbeats 0 in
theorem PySem.Challenge.cw_coveredday_k13_closed_entries_and_chains_holds : PySem.Challenge.rw_coveredday_k13_closed_entries_and_chains.Holds := by
  w_on; o_law; k_head; (case hw => w_witness2)
  k_fill
  refine KT.walk (l := PySem.Challenge.rw_coveredday_k13_closed_entries_and_chains) rfl rfl (fun w h Y => PySem.W.kIn_of Y) ?F
  case F =>
    intro w mg fa h KX G hmg
    refine' KT.all_mk KX G hmg ?c_Table ?pg_Table ?hd_Table ?po_Table ?sa_Table ?mk_Table ?kp_Table ?n_Table_goods ?n_Table__assets ?n_Table_rows ?n_Table__sums ?n_Table__entries ?a_init ?l_init ?c_init ?k_init ?d_init ?i_init ?a_check_pair ?l_check_pair ?c_check_pair ?k_check_pair ?i_check_pair ?pa_entries ?pt_entries ?pk_entries ?a_entries ?l_entries ?c_entries ?k_entries ?a_getitem ?l_getitem ?c_getitem ?k_getitem ?i_getitem ?a_chain ?l_chain ?c_chain ?k_chain ?i_chain ?a_eq ?l_eq ?c_eq ?k_eq ?i_eq ?a_iter ?l_iter ?c_iter ?k_iter ?i_iter ?rd_C ?gb_C ?ca_C ?cn_C ?ct_C ?cm_C ?l_C ?l_NC ?q_NC ?e_NC ?m_NC ?ty_eq ?fi_get ?c_OtherGoods ?xn_B ?ex_B ?ty_B ?kp_B ?ic_B ?sb_B ?ic_C ?ty_C ?st_C ?sl_C ?c_NoAsset ?l_NA ?h_NA ?sa_NA ?ex_NA ?ty_NA ?kp_NA ?ga_NA ?gg_NA ?hd_NA ?ic_NA ?sb_NA ?nw_NA_name ?a_xiNA ?l_xiNA ?c_xiNA ?k_xiNA ?ty_xiNA ?a_is_name ?l_is_name ?c_is_name ?k_is_name ?a_is_sequence ?l_is_sequence ?c_is_sequence ?k_is_sequence ?a_is_integer ?l_is_integer ?c_is_integer ?k_is_integer ?a_is_whole ?l_is_whole ?c_is_whole ?k_is_whole ?a_is_row ?l_is_row ?c_is_row ?k_is_row ?a_checked_goods ?l_checked_goods ?c_checked_goods ?k_checked_goods ?a_assets ?l_assets ?c_assets ?k_assets ?a_pairs_of ?l_pairs_of ?c_pairs_of ?k_pairs_of ?a_check_asset ?l_check_asset ?c_check_asset ?k_check_asset ?a_closed_sums ?l_closed_sums ?c_closed_sums ?k_closed_sums ?a_row_fault ?l_row_fault ?c_row_fault ?k_row_fault ?a_checked_rows ?l_checked_rows ?c_checked_rows ?k_checked_rows ?a_law_source ?l_law_source ?c_law_source ?k_law_source ?a_law_draw ?l_law_draw ?c_law_draw ?k_law_draw ?a_law_goods ?l_law_goods ?c_law_goods ?k_law_goods ?a_law_size ?l_law_size ?c_law_size ?k_law_size ?a_law_pairs ?l_law_pairs ?c_law_pairs ?k_law_pairs ?a_law_closed ?l_law_closed ?c_law_closed ?k_law_closed ?a_law_rows ?l_law_rows ?c_law_rows ?k_law_rows ?a_law_is_whole ?l_law_is_whole ?c_law_is_whole ?k_law_is_whole ?a_law_missing ?l_law_missing ?c_law_missing ?k_law_missing ?a_law_missing_chain ?l_law_missing_chain ?c_law_missing_chain ?k_law_missing_chain ?a_law_is_chain ?l_law_is_chain ?c_law_is_chain ?k_law_is_chain ?a_law_entries_right ?l_law_entries_right ?c_law_entries_right ?k_law_entries_right ?a_law_sums_right ?l_law_sums_right ?c_law_sums_right ?k_law_sums_right ?a_law_strangers ?l_law_strangers ?c_law_strangers ?k_law_strangers ?a_law_equal_ones ?l_law_equal_ones ?c_law_equal_ones ?k_law_equal_ones ?a_law ?l_law ?c_law ?k_law ?g_MOST ?g__CASH ?g__LETTERS ?g__LONGEST_NAME ?g__MOST_GOODS ?z_int ?z_abs ?z_len ?z_range ?z_min ?z_isinstance ?z_all ?z_str ?z_bool ?z_list ?z_tuple ?z_set ?z_enumerate ?z_iter ?z_zip ?z_max
    (case c_Table => k_is)
    (case pg_Table => k_is)
    (case hd_Table => k_is)
    (case po_Table => k_is)
    (case sa_Table => k_is)
    (case mk_Table => k_is)
    (case kp_Table => k_is)
    (case n_Table_goods => k_is)
    (case n_Table__assets => k_is)
    (case n_Table_rows => k_is)
    (case n_Table__sums => k_is)
    (case n_Table__entries => k_is)
    (case a_init => k_is)
    (case l_init => k_is)
    (case c_init => k_is)
    (case k_init => k_is)
    (case d_init => k_is)
    (case i_init => k_is)
    (case a_check_pair => k_is)
    (case l_check_pair => k_is)
    (case c_check_pair => k_is)
    (case k_check_pair => k_is)
    (case i_check_pair => k_is)
    (case pa_entries => k_is)
    (case pt_entries => k_is)
    (case pk_entries => k_is)
    (case a_entries => k_is)
    (case l_entries => k_is)
    (case c_entries => k_is)
    (case k_entries => k_is)
    (case a_getitem => k_is)
    (case l_getitem => k_is)
    (case c_getitem => k_is)
    (case k_getitem => k_is)
    (case i_getitem => k_is)
    (case a_chain => k_is)
    (case l_chain => k_is)
    (case c_chain => k_is)
    (case k_chain => k_is)
    (case i_chain => k_is)
    (case a_eq => k_is)
    (case l_eq => k_is)
    (case c_eq => k_is)
    (case k_eq => k_is)
    (case i_eq => k_is)
    (case a_iter => k_is)
    (case l_iter => k_is)
    (case c_iter => k_is)
    (case k_iter => k_is)
    (case i_iter => k_is)
    (case rd_C => k_is)
    (case gb_C => k_is)
    (case ca_C => k_is)
    (case cn_C => k_is)
    (case ct_C => k_is)
    (case cm_C => k_is)
    (case l_C => k_is)
    (case l_NC => k_is)
    (case q_NC => first | rfl | decide +kernel)
    (case e_NC => k_is)
    (case m_NC => k_is)
    (case ty_eq => k_is)
    (case fi_get => k_is)
    (case c_OtherGoods => k_is)
    (case xn_B => k_exc)
    (case ex_B => k_is)
    (case ty_B => k_is)
    (case kp_B => k_is)
    (case ic_B => k_is)
    (case sb_B => k_is)
    (case ic_C => k_is)
    (case ty_C => k_is)
    (case st_C => k_is)
    (case sl_C => k_is)
    (case c_NoAsset => k_is)
    (case l_NA => k_is)
    (case h_NA => first | rfl | decide +kernel)
    (case sa_NA => k_is)
    (case ex_NA => k_is)
    (case ty_NA => k_is)
    (case kp_NA => k_is)
    (case ga_NA => k_is)
    (case gg_NA => k_is)
    (case hd_NA => k_is)
    (case ic_NA => k_is)
    (case sb_NA => k_is)
    (case nw_NA_name => k_is)
    (case a_xiNA => k_is)
    (case l_xiNA => k_is)
    (case c_xiNA => k_is)
    (case k_xiNA => k_is)
    (case ty_xiNA => k_is)
    (case a_is_name => k_is)
    (case l_is_name => k_is)
    (case c_is_name => k_is)
    (case k_is_name => k_is)
    (case a_is_sequence => k_is)
    (case l_is_sequence => k_is)
    (case c_is_sequence => k_is)
    (case k_is_sequence => k_is)
    (case a_is_integer => k_is)
    (case l_is_integer => k_is)
    (case c_is_integer => k_is)
    (case k_is_integer => k_is)
    (case a_is_whole => k_is)
    (case l_is_whole => k_is)
    (case c_is_whole => k_is)
    (case k_is_whole => k_is)
    (case a_is_row => k_is)
    (case l_is_row => k_is)
    (case c_is_row => k_is)
    (case k_is_row => k_is)
    (case a_checked_goods => k_is)
    (case l_checked_goods => k_is)
    (case c_checked_goods => k_is)
    (case k_checked_goods => k_is)
    (case a_assets => k_is)
    (case l_assets => k_is)
    (case c_assets => k_is)
    (case k_assets => k_is)
    (case a_pairs_of => k_is)
    (case l_pairs_of => k_is)
    (case c_pairs_of => k_is)
    (case k_pairs_of => k_is)
    (case a_check_asset => k_is)
    (case l_check_asset => k_is)
    (case c_check_asset => k_is)
    (case k_check_asset => k_is)
    (case a_closed_sums => k_is)
    (case l_closed_sums => k_is)
    (case c_closed_sums => k_is)
    (case k_closed_sums => k_is)
    (case a_row_fault => k_is)
    (case l_row_fault => k_is)
    (case c_row_fault => k_is)
    (case k_row_fault => k_is)
    (case a_checked_rows => k_is)
    (case l_checked_rows => k_is)
    (case c_checked_rows => k_is)
    (case k_checked_rows => k_is)
    (case a_law_source => k_is)
    (case l_law_source => k_is)
    (case c_law_source => k_is)
    (case k_law_source => k_is)
    (case a_law_draw => k_is)
    (case l_law_draw => k_is)
    (case c_law_draw => k_is)
    (case k_law_draw => k_is)
    (case a_law_goods => k_is)
    (case l_law_goods => k_is)
    (case c_law_goods => k_is)
    (case k_law_goods => k_is)
    (case a_law_size => k_is)
    (case l_law_size => k_is)
    (case c_law_size => k_is)
    (case k_law_size => k_is)
    (case a_law_pairs => k_is)
    (case l_law_pairs => k_is)
    (case c_law_pairs => k_is)
    (case k_law_pairs => k_is)
    (case a_law_closed => k_is)
    (case l_law_closed => k_is)
    (case c_law_closed => k_is)
    (case k_law_closed => k_is)
    (case a_law_rows => k_is)
    (case l_law_rows => k_is)
    (case c_law_rows => k_is)
    (case k_law_rows => k_is)
    (case a_law_is_whole => k_is)
    (case l_law_is_whole => k_is)
    (case c_law_is_whole => k_is)
    (case k_law_is_whole => k_is)
    (case a_law_missing => k_is)
    (case l_law_missing => k_is)
    (case c_law_missing => k_is)
    (case k_law_missing => k_is)
    (case a_law_missing_chain => k_is)
    (case l_law_missing_chain => k_is)
    (case c_law_missing_chain => k_is)
    (case k_law_missing_chain => k_is)
    (case a_law_is_chain => k_is)
    (case l_law_is_chain => k_is)
    (case c_law_is_chain => k_is)
    (case k_law_is_chain => k_is)
    (case a_law_entries_right => k_is)
    (case l_law_entries_right => k_is)
    (case c_law_entries_right => k_is)
    (case k_law_entries_right => k_is)
    (case a_law_sums_right => k_is)
    (case l_law_sums_right => k_is)
    (case c_law_sums_right => k_is)
    (case k_law_sums_right => k_is)
    (case a_law_strangers => k_is)
    (case l_law_strangers => k_is)
    (case c_law_strangers => k_is)
    (case k_law_strangers => k_is)
    (case a_law_equal_ones => k_is)
    (case l_law_equal_ones => k_is)
    (case c_law_equal_ones => k_is)
    (case k_law_equal_ones => k_is)
    (case a_law => k_is)
    (case l_law => k_is)
    (case c_law => k_is)
    (case k_law => k_is)
    (case g_MOST => k_is)
    (case g__CASH => k_is)
    (case g__LETTERS => k_is)
    (case g__LONGEST_NAME => k_is)
    (case g__MOST_GOODS => k_is)
    (case z_int => k_is)
    (case z_abs => k_is)
    (case z_len => k_is)
    (case z_range => k_is)
    (case z_min => k_is)
    (case z_isinstance => k_is)
    (case z_all => k_is)
    (case z_str => k_is)
    (case z_bool => k_is)
    (case z_list => k_is)
    (case z_tuple => k_is)
    (case z_set => k_is)
    (case z_enumerate => k_is)
    (case z_iter => k_is)
    (case z_zip => k_is)
    (case z_max => k_is)
