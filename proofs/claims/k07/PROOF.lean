import PyProof.Rows.All
import Wide.All
import OpenK.AllK
import Wide.FinOn
import HandS.ForMost
import HandS.Walk
import HandS.Style
import HandS.Strs
import HandS.Conv
import HandS.Base
import HandS.Call
import HandS.Words
import HandS.List
import HandS.Exc
import HandS.ExcOwn
import HandS.WordsExc
import HandS.CallSlots
import HandS.Property
import HandS.ExcInit
import HandS.ExcField
import HandS.TryOnly
import HandS.IsInst
import HandS.TupAny
import HandS.TupMul
import HandS.Text
import HandS.SlotsOwn
import HandS.Iter
import HandS.Comp
import HandS.More
import HandS.Dict
import HandS.Zip
import HandS.ExcIs
import HandS.Deep
import HandS.MakeKwOnly
import HandS.ClsMeth
import HandS.Star
import HandS.IterVal
import HandS.CallLocal
import KE.KOwnIter
import HandS.Wide
import HandS.Zip0
import HandS.Small
import HandS.RaiseMore
import PyProof.ExcBaseAll.ValueError
import KE.KExcIs
import HandS.Defaults
import KE.KDictZip
import PyProof.NeKinds
import PyProof.EqKinds
import PyProof.CollectIter
import PyProof.TupleOfGen
import HandS.ExcValue
import PyProof.WalksMore
import PyProof.Rows.SumAny
import KE.KOpsOwn
import HandS.Codes
import PyProof.ListStr
import HandS.DictComp
import HandS.Ends
import PyProof.ReprRoads
import PyProof.CallFns
import PyProof.StrLawsRepr
import HandS.OwnIter
import PySem.Challenge.RW_coveredday_k07_positions_refused
import HandS.MakeKw
set_option Elab.async false
set_option linter.all false
set_option maxRecDepth 100000
set_option maxHeartbeats 0
namespace RS
open PySem PySem.Spec PyProof.Rows L2
/-! ### the unlike texts among some -/
def put (a : List Str) (x : Str) : List Str := if x ∈ a then a else a ++ [x]
def uniq (xs : List Str) : List Str := xs.foldl put []
theorem uniq_snoc (xs : List Str) (x : Str) : uniq (xs ++ [x]) = put (uniq xs) x := by
  unfold uniq
  rw [List.foldl_append]
  rfl
theorem mem_put {a : List Str} {x y : Str} : y ∈ put a x ↔ y ∈ a ∨ y = x := by
  unfold put
  by_cases h : x ∈ a
  · rw [if_pos h]
    refine ⟨.inl, fun z => ?_⟩
    rcases z with z | z
    · exact z
    · rwa [z]
  · rw [if_neg h, List.mem_append, List.mem_singleton]
theorem mem_fold {y : Str} : ∀ (xs a : List Str), y ∈ xs.foldl put a ↔ y ∈ a ∨ y ∈ xs
  | [], a => by simp
  | x :: r, a => by
    rw [List.foldl_cons, mem_fold r, mem_put, List.mem_cons]
    constructor
    · rintro ((h | h) | h)
      · exact .inl h
      · exact .inr (.inl h)
      · exact .inr (.inr h)
    · rintro (h | h | h)
      · exact .inl (.inl h)
      · exact .inl (.inr h)
      · exact .inr h
theorem mem_uniq {xs : List Str} {y : Str} : y ∈ uniq xs ↔ y ∈ xs := by
  unfold uniq
  rw [mem_fold]
  simp
theorem len_fold : ∀ (xs a : List Str), (xs.foldl put a).length ≤ a.length + xs.length ∧ (xs.Nodup → (∀ x ∈ xs, x ∉ a) → (xs.foldl put a).length = a.length + xs.length) ∧ ((xs.foldl put a).length = a.length + xs.length → xs.Nodup ∧ ∀ x ∈ xs, x ∉ a)
  | [], a => ⟨by simp, fun _ _ => by simp, fun _ => ⟨List.nodup_nil, fun _ h => (nomatch h)⟩⟩
  | x :: r, a => by
    obtain ⟨h1, h2, h3⟩ := len_fold r (put a x)
    rw [List.foldl_cons, List.length_cons]
    by_cases h : x ∈ a
    · have e : put a x = a := if_pos h
      rw [e] at h1 h2 h3 ⊢
      exact ⟨by omega, fun _ n => absurd h (n x List.mem_cons_self), fun q => by omega⟩
    · have e : put a x = a ++ [x] := if_neg h
      have l : (put a x).length = a.length + 1 := by rw [e, List.length_append]; rfl
      rw [l] at h1 h2 h3
      refine ⟨by omega, fun nd n => ?_, fun q => ?_⟩
      · obtain ⟨nx, nr⟩ := List.nodup_cons.mp nd
        have := h2 nr fun y hy => by
          rw [mem_put]
          rintro (z | z)
          · exact n y (List.mem_cons_of_mem _ hy) z
          · exact nx (z ▸ hy)
        omega
      · obtain ⟨nr, nn⟩ := h3 (by omega)
        refine ⟨List.nodup_cons.mpr ⟨fun hx => nn x hx (mem_put.mpr (.inr rfl)), nr⟩, fun y hy => ?_⟩
        rcases List.mem_cons.mp hy with rfl | hy
        · exact h
        · exact fun z => nn y hy (mem_put.mpr (.inl z))
theorem uniq_len (xs : List Str) : (uniq xs).length ≤ xs.length := by
  have := (len_fold xs []).1
  simpa [uniq] using this
theorem uniq_lt (xs : List Str) : (uniq xs).length < xs.length ↔ ¬ xs.Nodup := by
  obtain ⟨h1, h2, h3⟩ := len_fold xs []
  unfold uniq
  simp only [List.length_nil, Nat.zero_add] at h1 h2 h3
  constructor
  · intro h nd
    have := h2 nd (fun _ _ z => (nomatch z))
    omega
  · intro h
    have : (xs.foldl put []).length ≠ xs.length := fun e => h (h3 e).1
    omega
section
variable {prog : Program} {w : World} {A : Around} {R : Result → Shared → Prop} {I S : Addr} {fp wr : List Addr} {G : Array GenState → Array GenState → Prop} {n : Nat} {P : Nat → Value → Prop} {St : Nat → Shared → Prop}
/-- the set at S holds the texts ys -/
def Holds (prog : Program) (w : World) (h : Heap) (S : Addr) (ys : List Str) : Prop := h.SetOf (PySem.strKind prog w) S (fun k => decide (k ∈ ys)) ys.length
theorem Holds.keep {h h' : Heap} {ys : List Str} (q : Holds prog w h S ys) (k : ∀ o, h.get? S = some o → h'.get? S = some o) : Holds prog w h' S ys := by
  obtain ⟨o, es, ep, tb, ho, rest⟩ := q
  exact ⟨o, es, ep, tb, k o ho, rest⟩
theorem Holds.put {h : Heap} {ys : List Str} {x : Str} (q : h.SetOf (PySem.strKind prog w) S (fun k => decide (k ∈ ys) || decide (k = x)) (if decide (x ∈ ys) = true then ys.length else ys.length + 1)) : Holds prog w h S (RS.put ys x) := by
  refine SetOf_congr q (fun k => ?_) ?_
  · rw [Bool.eq_iff_iff]
    simp [mem_put]
  · unfold RS.put
    by_cases hx : x ∈ ys
    · rw [if_pos (decide_eq_true hx), if_pos hx]
    · rw [if_neg (by simpa using hx), if_neg hx, List.length_append]
      rfl
theorem fill (W : WalksS prog w A.in1 I fp wr G n P St) (nS : S ∉ fp) (xs : List Str) (hn : xs.length = n) (few : n + 1 < scanBound) (hv : ∀ i v, P i v → ∃ t, v = .str (xs.getD i Str.empty) t) :
    ∀ (k i : Nat) (s : Shared), i + k = n → St i s → Holds prog w s.heap S (uniq (xs.take i)) → (∀ s', Moved (S :: wr) G s s' → Holds prog w s'.heap S (uniq xs) → R (.ok (.ret .none)) s') →
      codeAny (model prog w) A (.builtin "set.update.loop" ⟨[.ref S, .ref I], []⟩) R s := by
  have nW : S ∉ wr := fun h => nS (W.sub _ h)
  have up : ∀ b ∈ wr, b ∈ S :: wr := fun _ hb => List.mem_cons_of_mem _ hb
  intro k
  induction k with
  | zero =>
    intro i s e st q done
    have ei : i = n := e
    subst ei
    rw [← hn, List.take_length] at q
    refine codeAny_builtin PyProof.Rows.F.entry_set_update_loop (?_ : wpAny _ _ (pyNext (.ref I) >>= _) _ _ s)
    rw [Around.under_plainId PyProof.Rows.F.plain_set_update_loop _]
    exact wpAny_bind (W.done s _ _ st fun s1 m => (wpAny_pure (done s1 (m.mono up) (q.keep fun o ho => m.heap S o nW ho)) : wpAny _ A.in1 (ret Value.none) _ _ s1))
  | succ k ih =>
    intro i s e st q done
    have lt : i < n := by omega
    have lx : i < xs.length := by omega
    refine codeAny_builtin PyProof.Rows.F.entry_set_update_loop (?_ : wpAny _ _ (pyNext (.ref I) >>= _) _ _ s)
    rw [Around.under_plainId PyProof.Rows.F.plain_set_update_loop _]
    refine wpAny_bind (W.item i s _ _ lt st fun v s1 hP st1 m => ?_)
    obtain ⟨t, rfl⟩ := hv i v hP
    have ex : xs.getD i Str.empty = xs[i] := by simp [List.getD, lx]
    rw [ex]
    have q1 : Holds prog w s1.heap S (uniq (xs.take i)) := q.keep fun o ho => m.heap S o nW ho
    refine (?_ : wpAny _ A.in1 (holding [Value.str xs[i] t] (setAdd S (.str xs[i] t)) >>= _) _ _ s1)
    refine wpAny_bind (wpAny_holding ?_)
    unfold setAdd
    refine wpAny_holding (wpAny_bind ((PySem.strKind prog w).pyHash (k := xs[i]) (strKind_is _ _ _ _) ?_))
    have room : (uniq (xs.take i)).length + 1 < scanBound := by
      have := uniq_len (xs.take i)
      rw [List.length_take] at this
      omega
    refine wpAny_setAddHashed_of (knd := PySem.strKind prog w) (s := { s1 with toks := s1.toks + 1 }) (strKind_is _ _ _ _) rfl q1 room fun h2 sb q2 => ?_
    have q3 : Holds prog w h2 S (uniq (xs.take (i + 1))) := by
      rw [List.take_add_one, List.getElem?_eq_getElem lx]
      show Holds prog w h2 S (uniq (xs.take i ++ [xs[i]]))
      rw [uniq_snoc]
      exact Holds.put q2
    refine wpAny_pure ⟨plainId_quiet PyProof.Rows.F.plain_set_update_loop _, ih (i + 1) _ (by omega) (W.frame _ s1 _ _ st1 (Nat.le_succ _) fun b hb o ho => (sb.2 b fun z => nS (z ▸ hb)).trans ho) q3 fun s3 m3 q4 => ?_⟩
    exact done s3 (Moved.trans W.gtrans ((m.mono up).then_heap (Nat.le_succ _) fun b o hb ho => (sb.2 b fun z => hb (z ▸ List.mem_cons_self)).trans ho) m3) q4
end
section
variable {prog : Program} {w : World} {A : Around} {E : Value → Shared → Prop} {s : Shared}
/-- an empty set, just made -/
abbrev newSet (led : Bool) : Obj := { cls := .type "set", dict := none, data := .set #[] 0 (.fresh 0 0 led) }
/-- what set(l) leaves -/
def Left (prog : Program) (w : World) (s : Shared) (xs : List Str) (h : Heap) : Prop := Holds prog w h s.heap.objs.size (uniq xs) ∧ ∀ b o, s.heap.get? b = some o → h.get? b = some o
theorem set_texts {l : Addr} {items : Array Value} {xs : List Str} {Q : Value → Shared → Prop} (calm : A.handled = none) (hl : s.heap.IsTuple l items) (hi : StrsAre items.toList xs) (few : xs.length + 1 < scanBound)
    (done : ∀ (h : Heap) (tk : Nat), Left prog w s xs h → Q (.ref s.heap.objs.size) { s with heap := h, toks := tk }) : wpAny (model prog w) A (call (.type "set") [.ref l]) Q E s := by
  have size : xs.length = items.size := by rw [← StrsAre.len_eq hi, Array.length_toList]
  have lS : l < s.heap.objs.size := by
    obtain ⟨ol, hol, _⟩ := hl
    exact Heap.lt_size hol
  obtain ⟨cm, tm, mroIs⟩ := PySem.F.called_set.mro
  have madeIs := PySem.F.called_set.made
  have subIs := PySem.F.called_set.sub
  refine wpAny_call (codeAny_of_tree (?_ : wpAny _ _ (callAny (.type "set") _) _ _ _))
  refine wpAny_pure ⟨Code.quiet_builtin _ (by decide +kernel), codeAny_builtin PySem.F.entry_type_call ?_⟩
  rw [Around.under_plain (weight_type_call_type "set" [.ref l] []) rfl]
  have noType := PySem.F.called_set.notType
  have may := PySem.F.called_set.canCreate
  have callIs := PySem.F.typeCall_set_1 (.ref l)
  repeat (any_goals (first | assumption | wp_step))
  refine codeAny_mono (code_set_new_1 (.ref l) (E := E) (Q₁ := fun v s1 => ∃ led, v = .ref s.heap.objs.size ∧ s1 = { s with heap := s.heap.push (newSet led) }) fun led => ⟨led, rfl, rfl⟩) fun r s1 hr => ?_
  cases r with
  | error e => exact hr
  | ok fl =>
    cases fl with
    | next => exact hr.elim
    | brk => exact hr.elim
    | cont => exact hr.elim
    | ret v =>
      obtain ⟨led, rfl, rfl⟩ := hr
      have atS : (s.heap.push (newSet led)).get? s.heap.objs.size = some (newSet led) := Heap.get?_push_size _ rfl
      have isS : Shared.TypeIs { s with heap := s.heap.push (newSet led) } (.ref s.heap.objs.size) "set" := ⟨_, atS, rfl⟩
      have lookIs := PySem.F.called_set.init.lookup
      have bindIs := PySem.F.called_set.init.bind (.ref s.heap.objs.size)
      repeat (any_goals (first | assumption | wp_step))
      refine codeAny_mono (codeAny_call_builtin (R := wants (fun r s2 => r = .none ∧ ∃ h tk, s2 = { s with heap := h, toks := tk } ∧ Left prog w s xs h) E) PySem.F.called_set.init.plain PySem.F.entry_set_init (check_set_init_1 isS ?_)) fun r2 s2 hr2 => ?_
      · obtain ⟨⟨oc, od, dt, sl⟩, ho, hc, nl, hd⟩ := hl
        simp only at hc hd
        subst hc
        subst hd
        have atL := Heap.get?_push_of_some (newSet led) ho
        have notS := PySem.F.sub_tuple_set
        have notF := PySem.F.sub_tuple_frozenset
        have notD : (Value.type "tuple" == Value.type "dict") = false := by decide
        have tupL : (s.heap.push (newSet led)).IsTuple l items := ⟨_, atL, rfl, nl, rfl⟩
        have sz : (s.heap.push (newSet led)).objs.size = s.heap.objs.size + 1 := Heap.size_push ..
        unfold Builtin.«set.__init__» noKeywords Builtin.Frozenset.updateFrom
        generalize keep : pyIter = it
        wp_walk
        subst keep
        refine wpAny_pyIter_tuple tupL (wpAny_bind (wpAny_runValue ?_))
        have calm3 : A.in1.in1.in1.handled = none := by simp [calm]
        have neL : l ≠ (s.heap.push (newSet led)).objs.size := by
          rw [sz]
          exact Nat.ne_of_lt (Nat.lt_succ_of_lt lS)
        have neS : s.heap.objs.size ∉ [(s.heap.push (newSet led)).objs.size, l] := by
          rw [sz]
          simp only [List.mem_cons, List.not_mem_nil, or_false, not_or]
          exact ⟨Nat.ne_of_lt (Nat.lt_succ_self _), Nat.ne_of_gt lS⟩
        refine fill ((Walks.tuple calm3 _ l neL items).toS) neS xs size (by omega) (fun i v hv => SS.strs_at hi i v (by rw [Array.getElem?_toList]; exact hv)) items.size 0 _ (Nat.zero_add _) ⟨⟨_, Heap.get?_push_size _ rfl, rfl, rfl⟩, tupL.push _⟩ ?_ ?_
        · have at2 := Heap.get?_push_of_some ({ cls := .type "tuple_iterator", data := .fields #[.ref l, .int 0 0] } : Obj) atS
          exact SetOf_congr ((setObjOf_fresh (knd := PySem.strKind prog w) led).setOf at2 (by unfold scanBound; omega)) (fun k => by rw [List.take_zero]; rfl) (by rw [List.take_zero]; rfl)
        · intro s3 m q
          obtain ⟨h3, g3, d3, tk3, os3⟩ := s3
          obtain rfl : g3 = s.gens := m.gens
          obtain rfl : d3 = s.drawn := m.drawn
          obtain rfl : os3 = s.os := m.os
          show wpAny _ _ _ _ _ _
          refine wpAny_pure ?_
          show wpAny _ _ (ret Value.none) _ _ _
          refine wpAny_pure ⟨rfl, h3, tk3, rfl, q, fun b o e => ?_⟩
          have lb := Heap.lt_size e
          refine m.heap b o ?_ (Heap.get?_push_of_some _ (Heap.get?_push_of_some _ e))
          rw [sz]
          simp only [List.mem_cons, List.not_mem_nil, or_false, not_or]
          exact ⟨Nat.ne_of_lt lb, Nat.ne_of_lt (Nat.lt_succ_of_lt lb)⟩
      · cases r2 with
        | error e => exact hr2
        | ok fl2 =>
          cases fl2 with
          | next => exact hr2.elim
          | brk => exact hr2.elim
          | cont => exact hr2.elim
          | ret r =>
            obtain ⟨rfl, h, tk, rfl, q⟩ := hr2
            repeat (any_goals (first | assumption | wp_step))
            exact done h tk q
end
section
variable {X : Cx} {a : Expr} {ta : TE} {p p2 q pos : Pos}
/-- len(set(t)), t a tuple of texts -/
def tLenSetT (K : PySem.W.Frag) (ta : TE) : TE := fun σ H Q => ta σ H fun x H1 => ∃ (l : Addr) (xs : List Str), x = .ref l ∧ SqT K H1 l (xs.map V.str) ∧ xs.length ≤ 1000 ∧ Q (.int ((uniq xs).length : Nat)) H1
theorem pe_lenSetT (hc : X.calm = true) (hg : Gl X "len") (hm : X.mg "len" = none) (hg2 : Gl X "set") (hm2 : X.mg "set" = none) (ha : PE X a ta)
    (na : starEach [a] X.env = (false, eval a X.env) :: starEach [] X.env := by rfl) : PE X (.Call (.Name "len" p) [.Call (.Name "set" p2) [a] [] q] [] pos) (tLenSetT X.K ta) := by
  refine ⟨fun pins s σ H Q I h => Call_ (ld_blt I hg hm boot_len ?_)⟩
  refine PyProof.Rows.callWith_builtin1 (PyProof.Rows.args_cons (Call_ (ld_blt I hg2 hm2 boot_set ?_)) rfl) rfl rfl
  refine PyProof.Rows.callWith_type1 (PyProof.Rows.args_cons (thn (ha.run pins s σ H _ I h) fun v s1 ⟨x, H1, I1, r1, l, xs, ex, sq, few, q1⟩ => PyProof.Rows.args_nil ?_) na) na rfl
  subst ex
  cases r1
  obtain ⟨its, r, pl, hz⟩ := I1.tuple sq
  refine set_texts (I1.ok.hd hc) pl (by simpa using strsAre_of r) (Nat.lt_of_le_of_lt (Nat.succ_le_succ few) (by decide)) fun h1 tk left => PyProof.Rows.args_nil ?_
  obtain ⟨⟨o, es, ep, t, ho, exact', hd, _, _, _, fits, hn⟩, k⟩ := left
  have I2 : Inv X pins σ H1 { s1 with heap := h1, toks := tk } := I1.kept k
  have small : (uniq xs).length ≤ 1000 := Nat.le_trans (uniq_len xs) few
  exact call_len_set ho exact' hd fits (by rw [hn]; omega) ⟨.int ((uniq xs).length : Nat), H1, I2.tok _, ⟨_, by rw [hn]⟩, q1⟩
end
end RS

set_option Elab.async false
set_option linter.all false
set_option maxRecDepth 100000
/-! data in place of heaps: what a value stands for, and the state of a def's body by data alone -/
namespace DL
open PySem PySem.Spec PyProof.Rows L2
inductive D where
  | non | bl (b : Bool) | int (i : Int) | str (x : Str) | ty (n : String) | adr (a : Addr)
  | lst (xs : List D) | ro (xs : List D) | tup (xs : List D) | rot (xs : List D) | obj (C : Addr) (fs : List (Str × D)) | dT (kvs : List (List Key × D)) | dK (kvs : List (Key × D))
  | exc (a : Addr) (cls : Value) (dd : Option Addr) (C : Addr) (fs : Option (List (Str × D))) | gho (vs : List V) (ds : List D)
mutual
/-- the value v stands for the data d, in the part F of the heap that never changes -/
inductive Rep (K : PySem.W.Frag) (F : Hp) : V → D → Prop
  | non : Rep K F .non .non
  | bl (b : Bool) : Rep K F (.bl b) (.bl b)
  | int (i : Int) : Rep K F (.int i) (.int i)
  | str {x : Str} (k : PyData.strOk x = true) : Rep K F (.str x) (.str x)
  | ty (n : String) : Rep K F (.ty n) (.ty n)
  | adr (a : Addr) : Rep K F (.ref a) (.adr a)
  | lst {p : Addr} {vs : List V} {ds : List D} (s : F p = some (.lst vs)) (h : RepL K F vs ds) : Rep K F (.ref p) (.lst ds)
  | ro {p : Addr} {vs : List V} {ds : List D} (s : SqL K F p vs) (h : RepL K F vs ds) : Rep K F (.ref p) (.ro ds)
  | tup {p : Addr} {vs : List V} {ds : List D} (s : F p = some (.tup vs)) (h : RepL K F vs ds) : Rep K F (.ref p) (.tup ds)
  | rot {p : Addr} {vs : List V} {ds : List D} (s : SqT K F p vs) (h : RepL K F vs ds) : Rep K F (.ref p) (.rot ds)
  | obj {p C dx : Addr} {vs : List (Str × V)} {fs : List (Str × D)} (s : F p = some (.ins C dx vs)) (h : RepF K F vs fs) : Rep K F (.ref p) (.obj C fs)
  | dT {p : Addr} {vs : List (List Key × V)} {ds : List (List Key × D)} (s : Rd F p (.dT vs)) (h : RepT K F vs ds) : Rep K F (.ref p) (.dT ds)
  | dK {p : Addr} {vs : List (Key × V)} {ds : List (Key × D)} (s : Rd F p (.dK vs)) (h : RepK K F vs ds) : Rep K F (.ref p) (.dK ds)
  | exc0 {a C : Addr} : Rep K F (.ref a) (.exc a (.ref C) none C none)
  | exc {a C dd : Addr} {vs : List (Str × V)} {fs : List (Str × D)} (s : F dd = some (.xd vs)) (h : RepF K F vs fs) : Rep K F (.ref a) (.exc a (.ref C) (some dd) C (some fs))
  /-- several values that are walked together -/
  | gho {vs : List V} {ds : List D} (h : RepL K F vs ds) : Rep K F (.int 0) (.gho vs ds)
inductive RepL (K : PySem.W.Frag) (F : Hp) : List V → List D → Prop
  | nil : RepL K F [] []
  | cons {v : V} {d : D} {vs : List V} {ds : List D} (h : Rep K F v d) (t : RepL K F vs ds) : RepL K F (v :: vs) (d :: ds)
inductive RepF (K : PySem.W.Frag) (F : Hp) : List (Str × V) → List (Str × D) → Prop
  | nil : RepF K F [] []
  | cons {n : Str} {v : V} {d : D} {vs : List (Str × V)} {ds : List (Str × D)} (h : Rep K F v d) (t : RepF K F vs ds) : RepF K F ((n, v) :: vs) ((n, d) :: ds)
inductive RepT (K : PySem.W.Frag) (F : Hp) : List (List Key × V) → List (List Key × D) → Prop
  | nil : RepT K F [] []
  | cons {n : List Key} {v : V} {d : D} {vs : List (List Key × V)} {ds : List (List Key × D)} (h : Rep K F v d) (t : RepT K F vs ds) : RepT K F ((n, v) :: vs) ((n, d) :: ds)
inductive RepK (K : PySem.W.Frag) (F : Hp) : List (Key × V) → List (Key × D) → Prop
  | nil : RepK K F [] []
  | cons {n : Key} {v : V} {d : D} {vs : List (Key × V)} {ds : List (Key × D)} (h : Rep K F v d) (t : RepK K F vs ds) : RepK K F ((n, v) :: vs) ((n, d) :: ds)
end
theorem sqt_mono {K : PySem.W.Frag} {F F' : Hp} {a : Addr} {xs : List V} (e : Same F F') (h : SqT K F a xs) : SqT K F' a xs := by
  rcases h with (h | ⟨o, h⟩) | h
  · exact .inl (.inl (e _ _ h))
  · exact .inl (.inr ⟨o, e _ _ h⟩)
  · exact .inr h
theorem rd_mono {F F' : Hp} {a : Addr} {u : HO} (e : Same F F') (h : Rd F a u) : Rd F' a u := by
  rcases h with h | ⟨o, h⟩
  · exact .inl (e _ _ h)
  · exact .inr ⟨o, e _ _ h⟩
section
variable {K : PySem.W.Frag} {F F' : Hp}
mutual
theorem Rep.mono (e : Same F F') : ∀ {v : V} {d : D}, Rep K F v d → Rep K F' v d
  | _, _, .non => .non
  | _, _, .bl b => .bl b
  | _, _, .int i => .int i
  | _, _, .str k => .str k
  | _, _, .ty n => .ty n
  | _, _, .adr a => .adr a
  | _, _, .lst s h => .lst (e _ _ s) (h.mono e)
  | _, _, .ro s h => .ro (e.seq s) (h.mono e)
  | _, _, .tup s h => .tup (e _ _ s) (h.mono e)
  | _, _, .rot s h => .rot (sqt_mono e s) (h.mono e)
  | _, _, .obj s h => .obj (e _ _ s) (h.mono e)
  | _, _, .dT s h => .dT (rd_mono e s) (h.mono e)
  | _, _, .dK s h => .dK (rd_mono e s) (h.mono e)
  | _, _, .exc0 => .exc0
  | _, _, .exc s h => .exc (e _ _ s) (h.mono e)
  | _, _, .gho h => .gho (h.mono e)
theorem RepL.mono (e : Same F F') : ∀ {vs : List V} {ds : List D}, RepL K F vs ds → RepL K F' vs ds
  | _, _, .nil => .nil
  | _, _, .cons h t => .cons (h.mono e) (t.mono e)
theorem RepF.mono (e : Same F F') : ∀ {vs : List (Str × V)} {ds : List (Str × D)}, RepF K F vs ds → RepF K F' vs ds
  | _, _, .nil => .nil
  | _, _, .cons h t => .cons (h.mono e) (t.mono e)
theorem RepT.mono (e : Same F F') : ∀ {vs : List (List Key × V)} {ds : List (List Key × D)}, RepT K F vs ds → RepT K F' vs ds
  | _, _, .nil => .nil
  | _, _, .cons h t => .cons (h.mono e) (t.mono e)
theorem RepK.mono (e : Same F F') : ∀ {vs : List (Key × V)} {ds : List (Key × D)}, RepK K F vs ds → RepK K F' vs ds
  | _, _, .nil => .nil
  | _, _, .cons h t => .cons (h.mono e) (t.mono e)
end
end
end DL

set_option Elab.async false
set_option linter.all false
set_option maxRecDepth 100000
namespace DL
open PySem PySem.Spec PyProof.Rows L2
/-- what a changing object holds -/
inductive OC where
  | lst (ds : List D) | ins (C : Addr) (fs : List (Str × D)) | dT (kvs : List (List Key × D)) | dK (kvs : List (Key × D))
def OC.toD : OC → D
  | .lst ds => .lst ds
  | .ins C fs => .obj C fs
  | .dT kvs => .dT kvs
  | .dK kvs => .dK kvs
/-- a value: data that never changes, or an object of the body's own that may change -/
inductive DV where
  | d (x : D) | own (o : OC)
def DV.toD : DV → D
  | .d x => x
  | .own o => o.toD
abbrev DSt := List (Option DV)
inductive Hold where
  | s (i : Nat) | t (n : Nat)
  deriving DecidableEq
/-- the frame: the slots of the arguments that may change, their addresses, the heaps at the entry -/
structure Fc where
  sl : List Nat
  ad : List Addr
  F0 : Hp
  H0 : Hp
def OwnRep (K : PySem.W.Frag) (F H : Hp) (p : Addr) : OC → Prop
  | .lst ds => ∃ vs, H p = some (.lst vs) ∧ RepL K F vs ds
  | .ins C fs => ∃ dx vs, H p = some (.ins C dx vs) ∧ RepF K F vs fs
  | .dT kvs => ∃ vs, H p = some (.dT vs) ∧ RepT K F vs kvs
  | .dK kvs => ∃ vs, H p = some (.dK vs) ∧ RepK K F vs kvs
/-- an address of the body's own: made since the entry, or an argument's -/
def NewAt (c : Fc) (h : Hold) (p : Addr) : Prop := c.H0 p = none ∨ (p ∈ c.ad ∧ ∃ i, h = .s i ∧ i ∈ c.sl)
def RepV (K : PySem.W.Frag) (c : Fc) (F H : Hp) (ow : Addr → Option Hold) (h : Hold) (v : V) : DV → Prop
  | .d x => Rep K F v x
  | .own o => ∃ p, v = .ref p ∧ ow p = some h ∧ F p = none ∧ NewAt c h p ∧ OwnRep K F H p o
def RepTmp (K : PySem.W.Frag) (c : Fc) (F H : Hp) (ow : Addr → Option Hold) : List (V × DV) → Prop
  | [] => True
  | (v, x) :: r => RepV K c F H ow (.t r.length) v x ∧ RepTmp K c F H ow r
structure SttF (K : PySem.W.Frag) (c : Fc) (F : Hp) (ow : Addr → Option Hold) (δ : DSt) (tmp : List (V × DV)) (σ : L2.St) (H : Hp) : Prop where
  fh : Same F H
  f0 : Same c.F0 F
  fn : ∀ a, F a ≠ none → c.F0 a ≠ none ∨ c.H0 a = none
  fr : ∀ a o, c.H0 a = some o → a ∉ c.ad → H a = some o
  up : ∀ a, H a = none → c.H0 a = none
  len : σ.length = δ.length
  sl : ∀ (i : Nat) (x : DV), δ[i]? = some (some x) → ∃ v, σ[i]? = some (some v) ∧ RepV K c F H ow (.s i) v x
  tm : RepTmp K c F H ow tmp
  ps : ∀ (k i : Nat) (p : Addr), c.sl[k]? = some i → c.ad[k]? = some p → σ[i]? = some (some (.ref p))
def Stt (K : PySem.W.Frag) (c : Fc) (δ : DSt) (tmp : List (V × DV)) (σ : L2.St) (H : Hp) : Prop := ∃ F ow, SttF K c F ow δ tmp σ H
/-- an operation that makes new objects alone -/
structure Ext (F H F' H' : Hp) : Prop where
  f : Same F F'
  h : Same H H'
  fh : Same F' H'
  nw : ∀ a, F' a ≠ none → F a ≠ none ∨ H a = none
theorem Ext.refl {F H : Hp} (s : Same F H) : Ext F H F H := ⟨Same.refl _, Same.refl _, s, fun _ h => .inl h⟩
theorem Ext.trans {F H F1 H1 F2 H2 : Hp} (a : Ext F H F1 H1) (b : Ext F1 H1 F2 H2) : Ext F H F2 H2 :=
  ⟨a.f.trans b.f, a.h.trans b.h, b.fh, fun x q => (b.nw x q).elim (a.nw x) fun z => .inr (a.h.free z)⟩
theorem same_upd {H H' : Hp} {p : Addr} {o : HO} (s : Same H H') (n : H' p = none) : Same H (upd H' p o) := fun b u e => by
  rw [upd_ne (ne_of_none (s _ _ e) n)]
  exact s _ _ e
theorem same_upd2 {F H : Hp} {p : Addr} {o : HO} (s : Same F H) : Same (upd F p o) (upd H p o) := fun b u e => by
  by_cases q : b = p
  · subst q
    rw [upd_same] at e ⊢
    exact e
  · rw [upd_ne q] at e ⊢
    exact s _ _ e
theorem same_upd1 {F H : Hp} {p : Addr} {o : HO} (s : Same F H) (e : H p = some o) : Same (upd F p o) H := fun b u q => by
  by_cases z : b = p
  · subst z
    rw [upd_same] at q
    rw [e]
    exact q
  · rw [upd_ne z] at q
    exact s _ _ q
/-- a new object, frozen at once -/
theorem Ext.new {F H : Hp} {p : Addr} {o : HO} (s : Same F H) (n : H p = none) : Ext F H (upd F p o) (upd H p o) :=
  ⟨same_upd (Same.refl F) (s.free n), same_upd (Same.refl H) n, same_upd2 s, fun a q => by
    by_cases z : a = p
    · subst z
      exact .inr n
    · rw [upd_ne z] at q
      exact .inl q⟩
/-- a new object, not frozen -/
theorem Ext.newH {F H : Hp} {p : Addr} {o : HO} (s : Same F H) (n : H p = none) : Ext F H F (upd H p o) :=
  ⟨Same.refl F, same_upd (Same.refl H) n, same_upd s n, fun _ q => .inl q⟩
section
variable {K : PySem.W.Frag} {c : Fc} {F F' H H' : Hp} {ow ow' : Addr → Option Hold} {δ : DSt} {tmp : List (V × DV)} {σ : L2.St} {v : V} {x : DV} {d : D} {o : OC} {h : Hold} {p : Addr} {i : Nat}
theorem OwnRep.has (q : OwnRep K F H p o) : H p ≠ none := by
  cases o with
  | lst ds => obtain ⟨vs, e, _⟩ := q; rw [e]; exact fun z => nomatch z
  | ins C fs => obtain ⟨dx, vs, e, _⟩ := q; rw [e]; exact fun z => nomatch z
  | dT kvs => obtain ⟨vs, e, _⟩ := q; rw [e]; exact fun z => nomatch z
  | dK kvs => obtain ⟨vs, e, _⟩ := q; rw [e]; exact fun z => nomatch z
theorem OwnRep.mono (q : OwnRep K F H p o) (f : Same F F') (e : H' p = H p) : OwnRep K F' H' p o := by
  cases o with
  | lst ds => obtain ⟨vs, z, r⟩ := q; exact ⟨vs, e.trans z, r.mono f⟩
  | ins C fs => obtain ⟨dx, vs, z, r⟩ := q; exact ⟨dx, vs, e.trans z, r.mono f⟩
  | dT kvs => obtain ⟨vs, z, r⟩ := q; exact ⟨vs, e.trans z, r.mono f⟩
  | dK kvs => obtain ⟨vs, z, r⟩ := q; exact ⟨vs, e.trans z, r.mono f⟩
theorem Same.at {p : Addr} (s : Same H H') (n : H p ≠ none) : H' p = H p := by
  cases q : H p with
  | none => exact absurd q n
  | some u => exact s _ _ q
theorem RepV.ext (q : RepV K c F H ow h v x) (e : Ext F H F' H') : RepV K c F' H' ow h v x := by
  cases x with
  | d y => exact Rep.mono e.f q
  | own o =>
    obtain ⟨p, rfl, a, n, w, r⟩ := q
    refine ⟨p, rfl, a, ?_, w, r.mono e.f (Same.at e.h r.has)⟩
    cases z : F' p with
    | none => rfl
    | some u =>
      rcases e.nw p (by rw [z]; exact fun q => nomatch q) with y | y
      · exact absurd n y
      · exact absurd y r.has
theorem RepTmp.ext (e : Ext F H F' H') : ∀ {tmp : List (V × DV)}, RepTmp K c F H ow tmp → RepTmp K c F' H' ow tmp
  | [], _ => True.intro
  | (_, _) :: _, q => ⟨q.1.ext e, RepTmp.ext e q.2⟩
theorem SttF.ext (S : SttF K c F ow δ tmp σ H) (e : Ext F H F' H') : SttF K c F' ow δ tmp σ H' :=
  ⟨e.fh, S.f0.trans e.f, fun a q => (e.nw a q).elim (S.fn a) fun z => .inr (S.up a z), fun a o q n => e.h _ _ (S.fr a o q n), fun a q => S.up a (e.h.free q), S.len,
    fun i x q => let ⟨v, e1, e2⟩ := S.sl i x q; ⟨v, e1, e2.ext e⟩, RepTmp.ext e S.tm, S.ps⟩
theorem SttF.push (S : SttF K c F ow δ tmp σ H) (r : Rep K F v d) : SttF K c F ow δ ((v, .d d) :: tmp) σ H := { S with tm := ⟨r, S.tm⟩ }
theorem SttF.pop (S : SttF K c F ow δ ((v, x) :: tmp) σ H) : SttF K c F ow δ tmp σ H := { S with tm := S.tm.2 }
theorem SttF.top (S : SttF K c F ow δ ((v, .d d) :: tmp) σ H) : Rep K F v d := S.tm.1
/-- the holder of one address changes -/
def owSet (ow : Addr → Option Hold) (p : Addr) (h : Hold) : Addr → Option Hold := fun a => if a = p then some h else ow a
theorem RepV.reown (q : RepV K c F H ow h v x) (n : ∀ p, v = .ref p → ow p = some h → H p ≠ none → ow' p = ow p) : RepV K c F H ow' h v x := by
  cases x with
  | d y => exact q
  | own o =>
    obtain ⟨p, rfl, a, b, w, r⟩ := q
    exact ⟨p, rfl, (n p rfl a r.has).trans a, b, w, r⟩
theorem RepTmp.reown (n : ∀ (k : Nat) p, k < tmp.length → ow p = some (.t k) → H p ≠ none → ow' p = ow p) (q : RepTmp K c F H ow tmp) : RepTmp K c F H ow' tmp := by
  induction tmp with
  | nil => exact True.intro
  | cons a r ih =>
    obtain ⟨v, x⟩ := a
    exact ⟨q.1.reown fun p _ e z => n _ p (Nat.lt_succ_self _) e z, ih (fun k p hk e z => n k p (Nat.lt_succ_of_lt hk) e z) q.2⟩
theorem owSet_ne {p a : Addr} (n : a ≠ p) : owSet ow p h a = ow a := if_neg n
theorem owSet_at {p : Addr} : owSet ow p h p = some h := if_pos rfl
theorem SttF.reown (S : SttF K c F ow δ tmp σ H) (ns : ∀ (k : Nat) p, ow p = some (.s k) → H p ≠ none → ow' p = ow p) (nt : ∀ (k : Nat) p, k < tmp.length → ow p = some (.t k) → H p ≠ none → ow' p = ow p) : SttF K c F ow' δ tmp σ H :=
  { S with sl := fun i x q => let ⟨v, e1, e2⟩ := S.sl i x q; ⟨v, e1, e2.reown fun p _ e z => ns i p e z⟩, tm := RepTmp.reown nt S.tm }
/-- a new object of the body's own -/
theorem SttF.pushNew {ob : HO} (S : SttF K c F ow δ tmp σ H) (n : H p = none) (r : OwnRep K F (upd H p ob) p o) : SttF K c F (owSet ow p (.t tmp.length)) δ ((.ref p, .own o) :: tmp) σ (upd H p ob) := by
  have S1 := S.reown (ow' := owSet ow p (.t tmp.length)) (fun k a _ z => owSet_ne fun e => z (by rw [e]; exact n)) (fun k a _ _ z => owSet_ne fun e => z (by rw [e]; exact n))
  have S2 := S1.ext (Ext.newH (o := ob) S.fh n)
  refine { S2 with tm := ⟨⟨p, rfl, owSet_at, ?_, .inl (S.up _ n), r⟩, S2.tm⟩ }
  cases q : F p with
  | none => rfl
  | some u => rw [S.fh _ _ q] at n; cases n
/-- what is on top of the stack will change no more -/
theorem OwnRep.freeze (q : OwnRep K F H p o) (n : F p = none) (s : Same F H) : ∃ u : HO, H p = Option.some u ∧ Rep K (upd F p u) (.ref p) o.toD := by
  cases o with
  | lst ds => obtain ⟨vs, e, r⟩ := q; exact ⟨_, e, .lst upd_same (r.mono (same_upd (Same.refl F) n))⟩
  | ins C fs => obtain ⟨dx, vs, e, r⟩ := q; exact ⟨_, e, .obj upd_same (r.mono (same_upd (Same.refl F) n))⟩
  | dT kvs => obtain ⟨vs, e, r⟩ := q; exact ⟨_, e, .dT (.inl upd_same) (r.mono (same_upd (Same.refl F) n))⟩
  | dK kvs => obtain ⟨vs, e, r⟩ := q; exact ⟨_, e, .dK (.inl upd_same) (r.mono (same_upd (Same.refl F) n))⟩
/-- the frozen part grows by an object that one holder has: all other holders keep theirs -/
theorem RepV.frz {u : HO} (q : RepV K c F H ow h v x) (n : F p = none) (ne : ∀ a, v = .ref a → ow a = some h → a ≠ p) : RepV K c (upd F p u) H ow h v x := by
  have s : Same F (upd F p u) := same_upd (Same.refl F) n
  cases x with
  | d y => exact Rep.mono s q
  | own o =>
    obtain ⟨a, rfl, e, b, w, r⟩ := q
    exact ⟨a, rfl, e, by rw [upd_ne (ne a rfl e)]; exact b, w, r.mono s rfl⟩
theorem RepTmp.frz {u : HO} (n : F p = none) (ne : ∀ (k : Nat) a, k < tmp.length → ow a = some (.t k) → a ≠ p) (q : RepTmp K c F H ow tmp) : RepTmp K c (upd F p u) H ow tmp := by
  induction tmp with
  | nil => exact True.intro
  | cons a r ih =>
    obtain ⟨v, x⟩ := a
    exact ⟨q.1.frz n fun a _ e => ne _ a (Nat.lt_succ_self _) e, ih (fun k a hk e => ne k a (Nat.lt_succ_of_lt hk) e) q.2⟩
/-- any holder's own object is frozen (no argument's) -/
theorem SttF.freezeAt {u : HO} (S : SttF K c F ow δ tmp σ H) (e : H p = some u) (n : F p = none) (w : c.H0 p = none) (ns : ∀ (k : Nat) x, δ[k]? = some (some x) → ow p ≠ some (.s k)) (nt : ∀ (k : Nat), k < tmp.length → ow p ≠ some (.t k)) : SttF K c (upd F p u) ow δ tmp σ H where
  fh := same_upd1 S.fh e
  f0 := S.f0.trans (same_upd (Same.refl F) n)
  fn := fun a q => by
    by_cases z : a = p
    · subst z; exact .inr w
    · rw [upd_ne z] at q; exact S.fn a q
  fr := S.fr
  up := S.up
  len := S.len
  sl := fun i x q => let ⟨v, e1, e2⟩ := S.sl i x q; ⟨v, e1, e2.frz n fun a _ z y => by subst y; exact ns i x q z⟩
  tm := RepTmp.frz n (fun k a hk z y => by subst y; exact nt k hk z) S.tm
  ps := S.ps
theorem NewAt.t {k : Nat} (w : NewAt c (.t k) p) : c.H0 p = none := by
  rcases w with w | ⟨_, i, e, _⟩
  · exact w
  · cases e
theorem SttF.top_frz (S : SttF K c F ow δ ((v, x) :: tmp) σ H) : ∃ F', SttF K c F' ow δ ((v, .d x.toD) :: tmp) σ H ∧ Same F F' := by
  cases x with
  | d y => exact ⟨F, S, Same.refl F⟩
  | own o =>
    obtain ⟨p, rfl, e, b, w, r⟩ := S.tm.1
    obtain ⟨u, eu, r'⟩ := r.freeze b S.fh
    have S1 := S.pop.freezeAt eu b w.t (fun k x _ z => by rw [e] at z; cases z) (fun k hk z => by rw [e] at z; cases z; exact absurd hk (Nat.lt_irrefl _))
    exact ⟨upd F p u, S1.push r', same_upd (Same.refl F) b⟩
/-- the two on top -/
theorem SttF.top_frz2 {w : V} {y : DV} (S : SttF K c F ow δ ((v, x) :: (w, y) :: tmp) σ H) : ∃ F', SttF K c F' ow δ ((v, .d x.toD) :: (w, .d y.toD) :: tmp) σ H ∧ Same F F' := by
  obtain ⟨F1, S1, s1⟩ := S.top_frz
  obtain ⟨F2, S2, s2⟩ := S1.pop.top_frz
  exact ⟨F2, S2.push (S1.top.mono s2), s1.trans s2⟩
/-- a name is bound to what is on top -/
theorem SttF.set (S : SttF K c F ow δ ((v, x) :: tmp) σ H) (hi : i < δ.length) (ni : i ∉ c.sl) : ∃ ow', SttF K c F ow' (δ.set i (some x)) tmp (σ.set i (some v)) H := by
  have hs : i < σ.length := by rw [S.len]; exact hi
  have ps' : ∀ (k j : Nat) (p : Addr), c.sl[k]? = some j → c.ad[k]? = some p → (σ.set i (some v))[j]? = some (some (.ref p)) := fun k j p q1 q2 => by
    rw [List.getElem?_set_ne (fun z => ni (by rw [z]; exact List.mem_of_getElem? q1))]
    exact S.ps k j p q1 q2
  cases x with
  | d y =>
    refine ⟨ow, { S.pop with len := by rw [List.length_set, List.length_set]; exact S.len, sl := fun j z q => ?_, ps := ps' }⟩
    by_cases e : i = j
    · subst e
      rw [List.getElem?_set_self hi] at q
      cases q
      exact ⟨v, List.getElem?_set_self hs, S.top⟩
    · rw [List.getElem?_set_ne e] at q ⊢
      exact S.sl j z q
  | own o =>
    obtain ⟨p, rfl, e, b, w, r⟩ := S.tm.1
    have S1 := S.pop.reown (ow' := owSet ow p (.s i)) (fun k a z _ => owSet_ne fun y => by subst y; rw [e] at z; cases z) (fun k a hk z _ => owSet_ne fun y => by subst y; rw [e] at z; cases z; exact absurd hk (Nat.lt_irrefl _))
    refine ⟨owSet ow p (.s i), { S1 with len := by rw [List.length_set, List.length_set]; exact S.len, sl := fun j z q => ?_, ps := ps' }⟩
    by_cases e' : i = j
    · subst e'
      rw [List.getElem?_set_self hi] at q
      cases q
      exact ⟨.ref p, List.getElem?_set_self hs, p, rfl, owSet_at, b, .inl w.t, r⟩
    · rw [List.getElem?_set_ne e'] at q ⊢
      exact S1.sl j z q
/-- a slot is forgotten -/
theorem SttF.unset (S : SttF K c F ow δ tmp σ H) : SttF K c F ow (δ.set i none) tmp σ H := by
  refine { S with len := by rw [List.length_set]; exact S.len, sl := fun j z q => ?_ }
  by_cases e : i = j
  · subst e
    rcases Nat.lt_or_ge i δ.length with h | h
    · rw [List.getElem?_set_self h] at q; cases q
    · rw [List.getElem?_eq_none (by rw [List.length_set]; exact h)] at q; cases q
  · rw [List.getElem?_set_ne e] at q
    exact S.sl j z q
theorem set_lt {α : Type} {l : List α} {i : Nat} {x : α} (h : l[i]? = some x) : i < l.length := (List.getElem?_eq_some_iff.mp h).1
/-- the value at a slot goes on top of the stack; the slot is forgotten -/
theorem SttF.move (S : SttF K c F ow δ tmp σ H) (q : δ[i]? = some (some x)) (ni : i ∉ c.sl) : ∃ v ow', σ[i]? = some (some v) ∧ SttF K c F ow' (δ.set i none) ((v, x) :: tmp) σ H := by
  obtain ⟨v, e1, r⟩ := S.sl i x q
  cases x with
  | d y => exact ⟨v, ow, e1, { S.unset with tm := ⟨r, S.tm⟩ }⟩
  | own o =>
    obtain ⟨p, rfl, e, b, w, r⟩ := r
    have w' : c.H0 p = none := by
      rcases w with w | ⟨_, j, e, hj⟩
      · exact w
      · cases e; exact absurd hj ni
    -- the slot is forgotten first: then nobody but the stack holds p
    have S0 := S.unset (i := i)
    refine ⟨.ref p, owSet ow p (.t tmp.length), e1, { S0 with sl := fun j z qz => ?_, tm := ⟨⟨p, rfl, owSet_at, b, .inl w', r⟩, RepTmp.reown (fun k a hk z _ => owSet_ne fun y => by subst y; rw [e] at z; cases z) S.tm⟩ }⟩
    obtain ⟨u, e2, r2⟩ := S0.sl j z qz
    refine ⟨u, e2, r2.reown fun a _ z' _ => owSet_ne fun y => ?_⟩
    subst y
    rw [e] at z'
    cases z'
    rw [List.getElem?_set_self (set_lt q)] at qz
    cases qz
/-- the value at a slot, frozen, is read -/
theorem SttF.slot_frz (S : SttF K c F ow δ tmp σ H) (q : δ[i]? = some (some x)) (ni : i ∉ c.sl) : ∃ v F', σ[i]? = some (some v) ∧ SttF K c F' ow (δ.set i (some (.d x.toD))) ((v, .d x.toD) :: tmp) σ H := by
  obtain ⟨v, e1, r⟩ := S.sl i x q
  have hi := set_lt q
  cases x with
  | d y =>
    refine ⟨v, F, e1, { S with len := by rw [List.length_set]; exact S.len, tm := ⟨r, S.tm⟩, sl := fun j z qz => ?_ }⟩
    by_cases e : i = j
    · subst e
      rw [List.getElem?_set_self hi] at qz
      cases qz
      exact ⟨v, e1, r⟩
    · rw [List.getElem?_set_ne e] at qz
      exact S.sl j z qz
  | own o =>
    obtain ⟨p, rfl, e, b, w, r⟩ := r
    have w' : c.H0 p = none := by
      rcases w with w | ⟨_, j, e, hj⟩
      · exact w
      · cases e; exact absurd hj ni
    obtain ⟨u, eu, r'⟩ := r.freeze b S.fh
    have S1 := (S.unset (i := i)).freezeAt eu b w' (fun k x qx z => by
      rw [e] at z; cases z
      rw [List.getElem?_set_self hi] at qx; cases qx) (fun k hk z => by rw [e] at z; cases z)
    refine ⟨.ref p, upd F p u, e1, { S1 with len := by rw [List.length_set]; exact S.len, tm := ⟨r', S1.tm⟩, sl := fun j z qz => ?_ }⟩
    by_cases e' : i = j
    · subst e'
      rw [List.getElem?_set_self hi] at qz
      cases qz
      exact ⟨.ref p, e1, r'⟩
    · rw [List.getElem?_set_ne e'] at qz
      exact S1.sl j z (by rw [List.getElem?_set_ne e']; exact qz)
/-- an own object is changed -/
theorem SttF.write {o o' : OC} {ob : HO} (S : SttF K c F ow δ tmp σ H) (q : δ[i]? = some (some (.own o))) (ep : σ[i]? = some (some (.ref p))) (r' : OwnRep K F (upd H p ob) p o') : SttF K c F ow (δ.set i (some (.own o'))) tmp σ (upd H p ob) := by
  obtain ⟨v, e1, p', rfl, e, b, w, r⟩ := S.sl i _ q
  rw [ep] at e1
  cases e1
  have hi := set_lt q
  have keep : ∀ {h : Hold} {v : V} {x : DV}, RepV K c F H ow h v x → h ≠ .s i → RepV K c F (upd H p ob) ow h v x := fun {h v x} y ne => by
    cases x with
    | d z => exact y
    | own z =>
      obtain ⟨a, rfl, ea, ba, wa, ra⟩ := y
      exact ⟨a, rfl, ea, ba, wa, ra.mono (Same.refl F) (upd_ne fun t => by subst t; rw [e] at ea; cases ea; exact ne rfl)⟩
  have keepT : ∀ {tmp : List (V × DV)}, RepTmp K c F H ow tmp → RepTmp K c F (upd H p ob) ow tmp := fun {tmp} => by
    induction tmp with
    | nil => exact fun _ => True.intro
    | cons a r ih =>
      obtain ⟨v, x⟩ := a
      exact fun y => ⟨keep y.1 (fun z => nomatch z), ih y.2⟩
  refine ⟨?_, S.f0, S.fn, fun a u z n => ?_, fun a z => ?_, by rw [List.length_set]; exact S.len, fun j z qz => ?_, keepT S.tm, S.ps⟩
  · exact fun a u z => by
      rw [upd_ne (ne_of_none z b)]
      exact S.fh _ _ z
  · rw [upd_ne (fun t => ?_)]
    · exact S.fr a u z n
    · subst t
      rcases w with w | ⟨w, _⟩
      · rw [w] at z; cases z
      · exact n w
  · by_cases t : a = p
    · subst t; rw [upd_same] at z; cases z
    · rw [upd_ne t] at z; exact S.up a z
  · by_cases e' : i = j
    · subst e'
      rw [List.getElem?_set_self hi] at qz
      cases qz
      exact ⟨.ref p, ep, p, rfl, e, b, w, r'⟩
    · rw [List.getElem?_set_ne e'] at qz
      obtain ⟨v, e2, r2⟩ := S.sl j z qz
      exact ⟨v, e2, keep r2 fun t => e' (by cases t; rfl)⟩
end
end DL

set_option Elab.async false
set_option linter.all false
set_option maxRecDepth 100000
namespace DL
open PySem PySem.Spec PyProof.Rows L2
/-- an exception: its class, its fields -/
structure Ex where
  C : Addr
  fs : Option (List (Str × D))
abbrev DK := DV → DSt → Prop
abbrev XD := Ex → DSt → Prop
abbrev TD := DSt → DK → XD → Prop
abbrev TDT := DSt → (Bool → DSt → Prop) → XD → Prop
/-- an argument: data, or the own object at a slot -/
inductive AV where
  | d (x : D) | o (i : Nat)
abbrev TDA := DSt → (List AV → DSt → Prop) → XD → Prop
structure EndsD where
  nx : DSt → Prop
  rt : DK
  ex : XD
  bk : DSt → Prop := fun _ => False
  ct : DSt → Prop := fun _ => False
abbrev TDS := EndsD → DSt → Prop
def ExRep (K : PySem.W.Frag) (F : Hp) (cls : Value) (d : Option Addr) (x : Ex) : Prop :=
  cls = .ref x.C ∧ match x.fs with
    | none => d = none
    | some fs => ∃ dd vs, d = some dd ∧ F dd = some (.xd vs) ∧ RepF K F vs fs
theorem ExRep.mono {K : PySem.W.Frag} {F F' : Hp} {cls : Value} {d : Option Addr} {x : Ex} (e : ExRep K F cls d x) (s : Same F F') : ExRep K F' cls d x := by
  obtain ⟨C, fs⟩ := x
  obtain ⟨e1, e2⟩ := e
  cases fs with
  | none => exact ⟨e1, e2⟩
  | some fs => obtain ⟨dd, vs, q1, q2, q3⟩ := e2; exact ⟨e1, dd, vs, q1, s _ _ q2, q3.mono s⟩
section
variable (K : PySem.W.Frag) (c : Fc) (W : WX)
/-- what is wished of an exception -/
def WD (tmp : List (V × DV)) (E : XD) : Prop := ∀ (x : Ex) (δ : DSt) (σ : L2.St) (H F : Hp) (ow : Addr → Option Hold) (cls : Value) (d : Option Addr), E x δ → SttF K c F ow δ tmp σ H → ExRep K F cls d x → W cls d σ H
def LE (t : TD) : TE := fun σ H Q => ∃ δ tmp Qd Ed, Stt K c δ tmp σ H ∧ t δ Qd Ed ∧ (∀ v x δ' H', Qd x δ' → Stt K c δ' ((v, x) :: tmp) σ H' → Q v H') ∧ WD K c W tmp Ed
def LT (t : TDT) : TT := fun σ H Q => ∃ δ tmp Qd Ed, Stt K c δ tmp σ H ∧ t δ Qd Ed ∧ (∀ b δ' H', Qd b δ' → Stt K c δ' tmp σ H' → Q b H') ∧ WD K c W tmp Ed
inductive RepArgs (F : Hp) (σ : L2.St) : List V → List AV → Prop
  | nil : RepArgs F σ [] []
  | d {v : V} {x : D} {vs : List V} {as : List AV} (h : Rep K F v x) (t : RepArgs F σ vs as) : RepArgs F σ (v :: vs) (.d x :: as)
  | o {v : V} {i : Nat} {vs : List V} {as : List AV} (h : σ[i]? = some (some v)) (t : RepArgs F σ vs as) : RepArgs F σ (v :: vs) (.o i :: as)
def LA (t : TDA) : TA := fun σ H Q => ∃ δ tmp Qd Ed, Stt K c δ tmp σ H ∧ t δ Qd Ed ∧ (∀ vs as δ' F ow H', Qd as δ' → SttF K c F ow δ' tmp σ H' → RepArgs K F σ vs as → Q vs H') ∧ WD K c W tmp Ed
def LS (t : TDS) : TS := fun D σ H => ∃ δ tmp Dd, Stt K c δ tmp σ H ∧ t Dd δ ∧ (∀ δ' σ' H', Dd.nx δ' → Stt K c δ' tmp σ' H' → D.nx σ' H') ∧ (∀ v x δ' σ' H', Dd.rt x δ' → Stt K c δ' ((v, x) :: tmp) σ' H' → D.rt v H') ∧
  (∀ δ' σ' H', Dd.bk δ' → Stt K c δ' tmp σ' H' → D.bk σ' H') ∧ (∀ δ' σ' H', Dd.ct δ' → Stt K c δ' tmp σ' H' → D.ct σ' H') ∧ WD K c W tmp Dd.ex
end
section
variable {K : PySem.W.Frag} {c : Fc} {W : WX} {tmp : List (V × DV)} {Ed : XD} {v : V} {x : DV}
theorem WD.push (w : WD K c W tmp Ed) : WD K c W ((v, x) :: tmp) Ed := fun y δ σ H F ow cls d e S r => w y δ σ H F ow cls d e S.pop r
end
theorem PE_imp {X : Cx} {e : Expr} {t t' : TE} (h : PE X e t) (f : ∀ σ H Q, t' σ H Q → t σ H Q) : PE X e t' := ⟨fun pins s σ H Q I q => h.run pins s σ H Q I (f _ _ _ q)⟩
theorem PT_imp {X : Cx} {e : Expr} {t t' : TT} (h : PT X e t) (f : ∀ σ H Q, t' σ H Q → t σ H Q) : PT X e t' := ⟨fun pins s σ H Q I q => h.run pins s σ H Q I (f _ _ _ q)⟩
theorem PW_imp {X : Cx} {e : Expr} {t t' : TT} (h : PW X e t) (f : ∀ σ H Q, t' σ H Q → t σ H Q) : PW X e t' := ⟨fun wh pins s σ H Q I q => h.run wh pins s σ H Q I (f _ _ _ q)⟩
theorem PA_imp {X : Cx} {e : List Expr} {t t' : TA} (h : PA X e t) (f : ∀ σ H Q, t' σ H Q → t σ H Q) : PA X e t' := ⟨fun pos pins s σ H Q I q => h.run pos pins s σ H Q I (f _ _ _ q)⟩
theorem PS_imp {X : Cx} {e : Stmt} {t t' : TS} (h : PS X e t) (f : ∀ D σ H, t' D σ H → t D σ H) : PS X e t' := ⟨fun pins s σ H D I q => h.run pins s σ H D I (f _ _ _ q)⟩
theorem PSs_imp {X : Cx} {e : List Stmt} {t t' : TS} (h : PSs X e t) (f : ∀ D σ H, t' D σ H → t D σ H) : PSs X e t' := ⟨fun pins s σ H D I q => h.run pins s σ H D I (f _ _ _ q)⟩
section
variable {X : Cx} {c : Fc} {W : WX}
/-! ### names and constants -/
def varD (i : Nat) : TD := fun δ Q _ => ∃ x, δ[i]? = some (some (.d x)) ∧ Q (.d x) δ
def fvarD (i : Nat) : TD := fun δ Q _ => ∃ x, δ[i]? = some (some x) ∧ Q (.d x.toD) (δ.set i (some (.d x.toD)))
def constD (d : D) : TD := fun δ Q _ => Q (.d d) δ
theorem pd_var {i : Nat} {x : Str} {pos : Pos} (h : PE X (.Name x pos) (tVar i)) : PE X (.Name x pos) (LE X.K c W (varD i)) := PE_imp h fun σ H Q ⟨δ, tmp, Qd, Ed, ⟨F, ow, S⟩, ⟨x, e, q⟩, k, w⟩ => by
  obtain ⟨v, e1, r⟩ := S.sl i _ e
  exact ⟨v, e1, k v _ _ _ q ⟨F, ow, S.push r⟩⟩
theorem pd_fvar {i : Nat} {x : Str} {pos : Pos} (h : PE X (.Name x pos) (tVar i)) (ni : i ∉ c.sl) : PE X (.Name x pos) (LE X.K c W (fvarD i)) := PE_imp h fun σ H Q ⟨δ, tmp, Qd, Ed, ⟨F, ow, S⟩, ⟨x, e, q⟩, k, w⟩ => by
  obtain ⟨v, F', e1, S'⟩ := S.slot_frz e ni
  exact ⟨v, e1, k v _ _ _ q ⟨F', ow, S'⟩⟩
theorem pd_const {e : Expr} {v : V} {d : D} (h : PE X e (tC v)) (r : ∀ F, Rep X.K F v d) : PE X e (LE X.K c W (constD d)) := PE_imp h fun σ H Q ⟨δ, tmp, Qd, Ed, ⟨F, ow, S⟩, q, k, w⟩ =>
  k v _ _ _ q ⟨F, ow, S.push (r F)⟩
/-! ### operators on two values -/
/-- an operation on two values that makes new objects alone; it may hand back a new object of one's own -/
inductive Made (K : PySem.W.Frag) (F H F' H' : Hp) (v : V) : DV → Prop where
  | d {x : D} (e : Ext F H F' H') (r : Rep K F' v x) : Made K F H F' H' v (.d x)
  | own {p : Addr} {ob : HO} {o : OC} (hv : v = .ref p) (n : H p = none) (hF : F' = F) (hH : H' = upd H p ob) (r : OwnRep K F (upd H p ob) p o) : Made K F H F' H' v (.own o)
theorem Made.stt {K : PySem.W.Frag} {F H F' H' : Hp} {v : V} {x : DV} {ow : Addr → Option Hold} {δ : DSt} {tmp : List (V × DV)} {σ : L2.St} (m : Made K F H F' H' v x) (S : SttF K c F ow δ tmp σ H) : Stt K c δ ((v, x) :: tmp) σ H' := by
  cases m with
  | d e r => exact ⟨_, _, (S.ext e).push r⟩
  | own hv n hF hH r => subst hv hF hH; exact ⟨_, _, S.pushNew n r⟩
abbrev RD2 := D → D → (DV → Prop) → Prop
def Op2 (K : PySem.W.Frag) (r : R2) (rd : RD2) : Prop := ∀ x y a b F H Q Qd, Same F H → Rep K F x a → Rep K F y b → rd a b Qd → (∀ v dv F' H', Qd dv → Made K F H F' H' v dv → Q v H') → r x y H Q
def opD (rd : RD2) (ta tb : TD) : TD := fun δ Q E => ta δ (fun x δ1 => tb δ1 (fun y δ2 => rd x.toD y.toD fun z => Q z δ2) E) E
theorem lift_op {K : PySem.W.Frag} {r : R2} {rd : RD2} {ta tb : TD} (ho : Op2 K r rd) : ∀ σ H Q, LE K c W (opD rd ta tb) σ H Q → tOp r (LE K c W ta) (LE K c W tb) σ H Q := fun σ H Q ⟨δ, tmp, Qd, Ed, S, t, k, w⟩ => by
  refine ⟨δ, tmp, _, Ed, S, t, fun x a δ1 H1 t1 S1 => ?_, w⟩
  refine ⟨δ1, _, _, Ed, S1, t1, fun y b δ2 H2 t2 S2 => ?_, w.push⟩
  obtain ⟨F, ow, S2⟩ := S2
  obtain ⟨F', S3, _⟩ := S2.top_frz2
  refine ho x y _ _ F' H2 Q _ S3.fh S3.pop.top S3.top t2 fun v dv F2 H3 q m => ?_
  exact k v dv δ2 H3 q (m.stt S3.pop.pop)
theorem pd_op {a b : Expr} {op : Operator} {r : R2} {rd : RD2} {ta tb : TD} {pos : Pos} (ho : OpR X (binaryOp op) r) (hd : Op2 X.K r rd) (ha : PE X a (LE X.K c W ta)) (hb : PE X b (LE X.K c W tb)) : PE X (.BinOp a op b pos) (LE X.K c W (opD rd ta tb)) :=
  PE_imp (pe_op ho ha hb) (lift_op hd)
theorem pd_cmp {a b : Expr} {op : CmpOp} {r : R2} {rd : RD2} {ta tb : TD} {pos : Pos} (ho : OpR X (compareOp op) r) (hd : Op2 X.K r rd) (ha : PE X a (LE X.K c W ta)) (hb : PE X b (LE X.K c W tb)) (hm : behindInMarks op b = false) : PE X (.Compare a [op] [b] pos) (LE X.K c W (opD rd ta tb)) :=
  PE_imp (pe_cmpR ho ha hb hm) (lift_op hd)
/-! ### the call of a def -/
/-- the addresses of the own objects among the arguments -/
inductive ArgsRep (K : PySem.W.Frag) (F H : Hp) : List V → List DV → List Addr → Prop
  | nil : ArgsRep K F H [] [] []
  | d {v : V} {x : D} {vs : List V} {as : List DV} {ps : List Addr} (h : Rep K F v x) (t : ArgsRep K F H vs as ps) : ArgsRep K F H (v :: vs) (.d x :: as) ps
  | own {p : Addr} {o : OC} {vs : List V} {as : List DV} {ps : List Addr} (n : F p = none) (h : OwnRep K F H p o) (np : p ∉ ps) (t : ArgsRep K F H vs as ps) : ArgsRep K F H (.ref p :: vs) (.own o :: as) (p :: ps)
inductive OwnsRep (K : PySem.W.Frag) (F H : Hp) : List Addr → List OC → Prop
  | nil : OwnsRep K F H [] []
  | cons {p : Addr} {o : OC} {ps : List Addr} {os : List OC} (n : F p = none) (h : OwnRep K F H p o) (t : OwnsRep K F H ps os) : OwnsRep K F H (p :: ps) (o :: os)
structure Post (K : PySem.W.Frag) (F H : Hp) (ps : List Addr) (os : List OC) (F' H' : Hp) : Prop where
  f : Same F F'
  fh : Same F' H'
  fr : ∀ a o, H a = some o → a ∉ ps → H' a = some o
  up : ∀ a, H' a = none → H a = none
  nw : ∀ a, F' a ≠ none → F a ≠ none ∨ H a = none
  os : OwnsRep K F' H' ps os
def RetRep (K : PySem.W.Frag) (F' H H' : Hp) (v : V) : DV → Prop
  | .d x => Rep K F' v x
  | .own o => ∃ p, v = .ref p ∧ H p = none ∧ F' p = none ∧ OwnRep K F' H' p o
abbrev SpD := List DV → (DV → List OC → Prop) → (Ex → List OC → Prop) → Prop
def spOf (K : PySem.W.Frag) (sd : SpD) : Sp := fun vs H Q E => ∃ F as ps Qd Ed, Same F H ∧ ArgsRep K F H vs as ps ∧ sd as Qd Ed ∧
  (∀ v x os F' H', Qd x os → Post K F H ps os F' H' → RetRep K F' H H' v x → Q v H') ∧ (∀ cls d x os F' H', Ed x os → Post K F H ps os F' H' → ExRep K F' cls d x → E cls d H')
/-- the arguments as they stand -/
def argsOf (δ : DSt) : List AV → List DV → Prop
  | [], as => as = []
  | .d x :: r, as => ∃ t, as = .d x :: t ∧ argsOf δ r t
  | .o i :: r, as => ∃ o t, δ[i]? = some (some (.own o)) ∧ as = .own o :: t ∧ argsOf δ r t
def slotsOf : List AV → List Nat
  | [] => []
  | .d _ :: r => slotsOf r
  | .o i :: r => i :: slotsOf r
def putBack (δ : DSt) : List Nat → List OC → DSt
  | i :: is, o :: os => putBack (δ.set i (some (.own o))) is os
  | _, _ => δ
def callD (sd : SpD) (ta : TDA) : TD := fun δ Q E => ta δ (fun as δ1 => ∃ xs, argsOf δ1 as xs ∧ (slotsOf as).Nodup ∧ sd xs (fun r os => Q r (putBack δ1 (slotsOf as) os)) (fun x os => E x (putBack δ1 (slotsOf as) os))) E
end
section
variable {K : PySem.W.Frag} {c : Fc} {W : WX} {F F' H H' : Hp} {ow : Addr → Option Hold} {δ : DSt} {tmp : List (V × DV)} {σ : L2.St}
theorem putBack_at : ∀ {is : List Nat} {os : List OC} {δ : DSt} {j : Nat} {x : DV}, is.Nodup → is.length = os.length → (putBack δ is os)[j]? = some (some x) → (∃ (k : Nat) (o : OC), is[k]? = some j ∧ os[k]? = some o ∧ x = .own o) ∨ (j ∉ is ∧ δ[j]? = some (some x))
  | [], [], δ, j, x, _, _, e => .inr ⟨(fun z => nomatch z), e⟩
  | i :: is, o :: os, δ, j, x, nd, hl, e => by
    rcases putBack_at (is := is) (os := os) (List.nodup_cons.mp nd).2 (Nat.succ.inj hl) e with ⟨k, o', a, b, r⟩ | ⟨n, q⟩
    · exact .inl ⟨k + 1, o', a, b, r⟩
    · by_cases z : i = j
      · subst z
        rcases Nat.lt_or_ge i δ.length with h | h
        · rw [List.getElem?_set_self h] at q
          cases q
          exact .inl ⟨0, o, rfl, rfl, rfl⟩
        · rw [List.getElem?_eq_none (by rw [List.length_set]; exact h)] at q
          cases q
      · rw [List.getElem?_set_ne z] at q
        exact .inr ⟨fun y => (List.mem_cons.mp y).elim (fun t => z t.symm) n, q⟩
  | [], _ :: _, _, _, _, _, h, _ => nomatch h
  | _ :: _, [], _, _, _, _, h, _ => nomatch h
theorem putBack_len : ∀ {is : List Nat} {os : List OC} {δ : DSt}, (putBack δ is os).length = δ.length
  | [], [], _ => rfl
  | [], _ :: _, _ => rfl
  | _ :: _, [], _ => rfl
  | i :: is, o :: os, δ => by
    show (putBack (δ.set i _) is os).length = _
    rw [putBack_len, List.length_set]
theorem OwnsRep.len : ∀ {ps : List Addr} {os : List OC}, OwnsRep K F H ps os → ps.length = os.length
  | _, _, .nil => rfl
  | _, _, .cons _ _ t => congrArg (· + 1) t.len
theorem OwnsRep.get : ∀ {ps : List Addr} {os : List OC} {k : Nat} {p : Addr} {o : OC}, OwnsRep K F H ps os → ps[k]? = some p → os[k]? = some o → F p = none ∧ OwnRep K F H p o
  | _, _, 0, _, _, .cons n h _, a, b => by cases a; cases b; exact ⟨n, h⟩
  | _, _, k + 1, _, _, .cons _ _ t, a, b => t.get (k := k) a b
/-- behind a call -/
theorem SttF.called {is : List Nat} {ps : List Addr} {os : List OC} (S : SttF K c F ow δ tmp σ H) (hp : ps.length = is.length) (hs : ∀ (k i : Nat) (p : Addr), is[k]? = some i → ps[k]? = some p → σ[i]? = some (some (.ref p)) ∧ ∃ o, δ[i]? = some (some (.own o))) (nd : is.Nodup) (P : Post K F H ps os F' H') :
    SttF K c F' ow (putBack δ is os) tmp σ H' := by
  have hl : is.length = os.length := by rw [← hp]; exact P.os.len
  have held : ∀ (k : Nat) (p : Addr), ps[k]? = some p → ∃ i, is[k]? = some i ∧ ow p = some (.s i) ∧ NewAt c (.s i) p := fun k p e => by
    have hk : k < is.length := by rw [← hp]; exact set_lt e
    obtain ⟨e1, o, e2⟩ := hs k is[k] p (List.getElem?_eq_getElem hk) e
    obtain ⟨v, e3, p', rfl, a, _, w, _⟩ := S.sl _ _ e2
    rw [e1] at e3
    cases e3
    exact ⟨_, List.getElem?_eq_getElem hk, a, w⟩
  have keep : ∀ {h : Hold} {v : V} {x : DV}, RepV K c F H ow h v x → (∀ (k i : Nat), is[k]? = some i → h ≠ .s i) → RepV K c F' H' ow h v x := fun {h v x} q ne => by
    cases x with
    | d y => exact Rep.mono P.f q
    | own o =>
      obtain ⟨p, rfl, a, b, w, r⟩ := q
      have np : p ∉ ps := fun z => by
        obtain ⟨k, hk⟩ := List.mem_iff_getElem?.mp z
        obtain ⟨i, e1, e2, _⟩ := held k p hk
        rw [a] at e2
        cases e2
        exact ne k i e1 rfl
      refine ⟨p, rfl, a, ?_, w, r.mono P.f ?_⟩
      · cases z : F' p with
        | none => rfl
        | some u =>
          rcases P.nw p (by rw [z]; exact fun q => nomatch q) with y | y
          · exact absurd b y
          · exact absurd y r.has
      · cases z : H p with
        | none => exact absurd z r.has
        | some u => exact P.fr _ _ z np
  have keepT : ∀ {tmp : List (V × DV)}, RepTmp K c F H ow tmp → RepTmp K c F' H' ow tmp := fun {tmp} => by
    induction tmp with
    | nil => exact fun _ => True.intro
    | cons a r ih => obtain ⟨v, x⟩ := a; exact fun y => ⟨keep y.1 (fun _ _ _ z => nomatch z), ih y.2⟩
  refine ⟨P.fh, S.f0.trans P.f, fun a q => (P.nw a q).elim (S.fn a) fun z => .inr (S.up a z), fun a o q n => P.fr a o (S.fr a o q n) fun z => ?_, fun a q => S.up a (P.up a q), by rw [putBack_len]; exact S.len, fun j x q => ?_, keepT S.tm, S.ps⟩
  · obtain ⟨k, hk⟩ := List.mem_iff_getElem?.mp z
    obtain ⟨i, _, _, w⟩ := held k a hk
    rcases w with w | ⟨w, _⟩
    · rw [w] at q; cases q
    · exact n w
  · rcases putBack_at nd hl q with ⟨k, o, e1, e2, rfl⟩ | ⟨nj, e⟩
    · have hk : k < ps.length := by rw [hp]; exact set_lt e1
      have ek := List.getElem?_eq_getElem hk
      obtain ⟨e3, _⟩ := hs k j _ e1 ek
      obtain ⟨i, e4, e5, w⟩ := held k _ ek
      rw [e1] at e4
      cases e4
      obtain ⟨n, r⟩ := P.os.get ek e2
      exact ⟨_, e3, _, rfl, e5, n, w, r⟩
    · obtain ⟨v, e1, r⟩ := S.sl j x e
      exact ⟨v, e1, keep r fun k i e2 z => nj (by cases z; exact List.mem_of_getElem? e2)⟩
/-- the arguments of a call -/
theorem args_rep (S : SttF K c F ow δ tmp σ H) : ∀ {as : List AV} {vs : List V} {xs : List DV}, RepArgs K F σ vs as → argsOf δ as xs → (slotsOf as).Nodup →
    ∃ ps, ArgsRep K F H vs xs ps ∧ ps.length = (slotsOf as).length ∧ ∀ (k i : Nat) (p : Addr), (slotsOf as)[k]? = some i → ps[k]? = some p → σ[i]? = some (some (.ref p)) ∧ ∃ o, δ[i]? = some (some (.own o))
  | [], _, _, .nil, e, _ => by
    cases e
    exact ⟨[], .nil, rfl, fun k i p e => by simp [slotsOf] at e⟩
  | .d x :: r, _, _, .d h t, e, nd => by
    obtain ⟨t', rfl, e⟩ := e
    obtain ⟨ps, a, b, q⟩ := args_rep S t e nd
    exact ⟨ps, .d h a, b, q⟩
  | .o i :: r, _, _, .o h t, e, nd => by
    obtain ⟨o, t', ei, rfl, e⟩ := e
    obtain ⟨ps, a, b, q⟩ := args_rep S t e (List.nodup_cons.mp nd).2
    obtain ⟨v, e1, p, rfl, e2, n, w, r'⟩ := S.sl _ _ ei
    rw [h] at e1
    cases e1
    refine ⟨p :: ps, .own n r' (fun z => ?_) a, congrArg (· + 1) b, fun k j p' => ?_⟩
    · obtain ⟨k, hk⟩ := List.mem_iff_getElem?.mp z
      have hk2 : k < (slotsOf r).length := by rw [← b]; exact set_lt hk
      obtain ⟨e3, o', e4⟩ := q k _ p (List.getElem?_eq_getElem hk2) hk
      obtain ⟨v, e5, p2, rfl, e6, _⟩ := S.sl _ _ e4
      rw [e3] at e5
      cases e5
      rw [e2] at e6
      have e7 : i = (slotsOf r)[k] := by injection Option.some.inj e6
      exact (List.nodup_cons.mp nd).1 (by rw [e7]; exact List.getElem_mem hk2)
    · cases k with
      | zero => intro e e'; cases e; cases e'; exact ⟨h, o, ei⟩
      | succ k => exact q k j p'
end
end DL

set_option Elab.async false
set_option linter.all false
set_option maxRecDepth 100000
namespace DL
open PySem PySem.Spec PyProof.Rows L2
/-! ### C(e, ..) whose __init__ may raise: what is raised is wished for at the slots -/
def tMakeS (C : Addr) (sp : Sp) (E : L2.St → XK) (t : TA) : TE := fun σ H Q => t σ H fun vs H1 => ∀ x dx, H1 x = none → H1 dx = none → dx ≠ x →
  sp (.ref x :: vs) (upd (upd H1 dx (.own x)) x (.ins C dx [])) (fun v H2 => v = .non ∧ Q (.ref x) H2) (E σ)
section
variable {X : Cx} {CX : CXT} {k : Nat} {f C : Addr} {fd : FuncData} {ps : List Str} {sp : Sp} {E : L2.St → XK} {x m : Str} {p pos apos : Pos} {e o : Expr} {es : List Expr} {ta : TE} {t : TA}
theorem run_makeS {pins : List (Addr × Obj)} {σ : L2.St} {H : Hp} {s : Shared} {Q : VK} {us : List Value} {vs : List V} (M : Mk X.K C f) (G : FnOk X.prog X.w X.K X.mg X.base CX k f fd ps sp) (room : Room (k + 1) X.A) (bd : Binds X.K fd ps [])
    (hx : PassesAt CX X σ (E σ)) (I : Inv X pins σ H s) (r : Vals vs us)
    (h : ∀ x dx, H x = none → H dx = none → dx ≠ x → sp (.ref x :: vs) (upd (upd H dx (.own x)) x (.ins C dx [])) (fun v H2 => v = .non ∧ Q (.ref x) H2) (E σ)) :
    wpAny (model X.prog X.w) X.A (call (.ref C) us) (EP X pins σ Q) X.xe s := by
  let n := s.heap.objs.size
  have q0 := h (n + 1) n (I.hok.fresh (Nat.le_succ _)) (I.hok.fresh (Nat.le_refl _)) (Nat.ne_of_lt (Nat.lt_succ_self _))
  have J := Inv.made (C := C) I
  have rr : Vals (V.ref (n + 1) :: vs) (Value.ref (n + 1) :: us) := .cons rfl r
  have hl : (Value.ref (n + 1) :: us).length = ps.length := by
    rw [← rr.length]
    exact G.len _ _ _ _ q0
  have hb2 := bd _ (Value.ref (n + 1) :: us) J.kIn (by rw [List.append_nil]; exact hl)
  rw [List.append_nil] at hb2
  have run := G.run _ X.stack _ _ ⟨Value.ref (n + 1) :: us, []⟩ (Value.ref (n + 1) :: us) _ _ (E σ) (room.make C us []) (J.env0.make C us []) hb2 rr q0
  refine wpAny_call (make_map (f := f) I.kIn M.makes M.init (beq_iff_eq.mp M.fn) (codeAny_mono run fun r' s' z => ?_))
  cases r' with
  | error er => exact hx pins _ _ er s' J z
  | ok fl =>
    cases fl with
    | next => exact False.elim z
    | brk => exact False.elim z
    | cont => exact False.elim z
    | ret u =>
      obtain ⟨v, H', J', rv, ev, q3⟩ := J.after z
      subst ev
      exact ⟨rv, ⟨V.ref (n + 1), H', J', rfl, q3⟩⟩
theorem pe_makeS (M : Mk X.K C f) (G : FnOk X.prog X.w X.K X.mg X.base CX k f fd ps sp) (room : Room (k + 1) X.A) (hg : Gl X x) (hm : X.mg x = some (.ref C)) (bd : Binds X.K fd ps []) (hx : ∀ σ, PassesAt CX X σ (E σ)) (ha : PA X (e :: es) t)
    (hdb : (x == ("__debug__" : Str)) = false := by decide) (he : starEach (e :: es) X.env = (false, eval e X.env) :: starEach es X.env := by rfl) (hpl : (backTo pos (starEach es X.env)).any (·.1) = false := by rfl) :
    PE X (.Call (.Name x p) (e :: es) [] pos) (tMakeS C sp E t) :=
  ⟨fun pins s σ H Q I h => wpAny_Call_Name_kw (ld_glob I hg hm (PySem.W.callWith_K (h₀ := X.base) I.ok.mod.kin M.kp
    (thn (ha.run pos pins s σ H _ I h) fun us s1 ⟨vs, H1, I1, r, q⟩ => ⟨I1.kIn, run_makeS M G room bd (hx σ) I1 r q⟩) he hpl) hdb)⟩
/-! ### o.m(e, ..), a method that may raise -/
def tMethX (C : Addr) (m : Str) (sp : Sp) (E : L2.St → XK) (ta : TE) (t : TA) : TE := fun σ H Q => ta σ H fun x H1 => ∃ a dx fs, x = .ref a ∧ H1 a = some (.ins C dx fs) ∧ fs.lookup m = none ∧ t σ H1 fun vs H2 => sp (x :: vs) H2 Q (E σ)
theorem pe_methX {pl : Sem Bool} (he : PE X o ta) (c : Cls X.K C) (hm : Meth X.K C m f) (G : FnOk X.prog X.w X.K X.mg X.base CX k f fd ps sp) (room : Room k X.A) (bd : Binds X.K fd ps []) (hx : ∀ σ, PassesAt CX X σ (E σ)) (ha : PA X (e :: es) t)
    (hst : starEach (e :: es) X.env = (false, eval e X.env) :: starEach es X.env := by rfl) (hpl : (backTo pos (starEach es X.env)).any (·.1) = false := by rfl)
    (ht : eval (.Call (.Attribute o m apos) (e :: es) [] pos) X.env = (do
      let ov ← eval o X.env
      standAt apos.atName
      let (f, first) ← holding [ov] (getMethod ov m pl)
      callWith pos f first (backTo pos (starEach (e :: es) X.env)) (backToKw pos (keywordEach [] X.env))) := by rfl) :
    PE X (.Call (.Attribute o m apos) (e :: es) [] pos) (tMethX C m sp E ta t) := by
  refine ⟨fun pins s σ H Q I h => PySem.W.methodCall_KW (pl := pl) (thn (he.run pins s σ H _ I h) fun u s1 ⟨x, H1, I1, rx, a, dx, fs, ex, ea, l, q⟩ => ?_) ht⟩
  subst ex
  cases (show u = Value.ref a from rx)
  refine getmeth_ok I1 ea c hm l (PySem.W.callWith_K (first := [.ref a]) (h₀ := X.base) I.ok.mod.kin hm.kp (thn (ha.run pos pins s1 σ H1 _ I1 q) fun us s2 ⟨vs, H2, I2, r, q2⟩ => ⟨I2.kIn, ?_⟩) hst hpl)
  exact run_fnS G room bd (hx σ) I2 (.cons (show RelV (V.ref a) (Value.ref a) from rfl) r) q2
theorem pe_methX0 {pl : Sem Bool} (he : PE X o ta) (c : Cls X.K C) (hm : Meth X.K C m f) (G : FnOk X.prog X.w X.K X.mg X.base CX k f fd ps sp) (room : Room k X.A) (bd : Binds X.K fd ps []) (hx : ∀ σ, PassesAt CX X σ (E σ))
    (ht : eval (.Call (.Attribute o m apos) [] [] pos) X.env = (do
      let ov ← eval o X.env
      standAt apos.atName
      let (f, first) ← holding [ov] (getMethod ov m pl)
      callWith pos f first (backTo pos (starEach [] X.env)) (backToKw pos (keywordEach [] X.env))) := by rfl) :
    PE X (.Call (.Attribute o m apos) [] [] pos) (tMethX C m sp E ta tNil) := by
  refine ⟨fun pins s σ H Q I h => PySem.W.methodCall_KW (pl := pl) (thn (he.run pins s σ H _ I h) fun u s1 ⟨x, H1, I1, rx, a, dx, fs, ex, ea, l, q⟩ => ?_) ht⟩
  subst ex
  cases (show u = Value.ref a from rx)
  refine getmeth_ok I1 ea c hm l ?_
  exact PySem.W.callWith_K0 (first := [.ref a]) I1.kIn hm.kp (run_fnS G room bd (hx σ) I1 (.cons (show RelV (V.ref a) (Value.ref a) from rfl) .nil) q)
/-- f() whose exceptions are wished for at the slots -/
theorem pe_callS0 {x : Str} {p pos : Pos} (F : FnOk X.prog X.w X.K X.mg X.base CX k f fd ps sp) (hr : Room k X.A) (hg : Gl X x) (hm : X.mg x = some (.ref f)) (hk : PySem.W.keepIn X.K (.ref f) = true) (hb : Binds X.K fd ps []) (hx : ∀ σ, PassesAt CX X σ (E σ))
    (hdb : (x == ("__debug__" : Str)) = false := by decide) : PE X (.Call (.Name x p) [] [] pos) (tCallSD sp [] E tNil) := by
  refine ⟨fun pins s σ H Q I h => ?_⟩
  refine wpAny_Call_Name_kw (ld_glob I hg hm ?_ hdb)
  exact PySem.W.callWith_K0 I.kIn hk (run_fnSD (us := []) F hr hb .nil (hx σ) I .nil h)
end
section
variable {X : Cx} {c : Fc} {W : WX}
/-! ### arguments -/
def nilD : TDA := fun δ Q _ => Q [] δ
def consD (t : TD) (r : TDA) : TDA := fun δ Q E => t δ (fun x δ1 => r δ1 (fun as δ2 => Q (.d x.toD :: as) δ2) E) E
def consO (i : Nat) (r : TDA) : TDA := fun δ Q E => r δ (fun as δ2 => Q (.o i :: as) δ2) E
theorem pda_nil : PA X [] (LA X.K c W nilD) := PA_imp pa_nil fun σ H Q ⟨δ, tmp, Qd, Ed, ⟨F, ow, S⟩, q, k, w⟩ => k [] [] δ F ow H q S .nil
theorem pda_cons {e : Expr} {es : List Expr} {t : TD} {r : TDA} (he : PE X e (LE X.K c W t)) (hr : PA X es (LA X.K c W r)) (hs : starEach (e :: es) X.env = (false, eval e X.env) :: starEach es X.env := by rfl) : PA X (e :: es) (LA X.K c W (consD t r)) :=
  PA_imp (pa_cons he hr hs) fun σ H Q ⟨δ, tmp, Qd, Ed, S, t, k, w⟩ => ⟨δ, tmp, _, Ed, S, t, fun v x δ1 H1 q1 ⟨F, ow, S1⟩ => by
    obtain ⟨F', S2, _⟩ := S1.top_frz
    exact ⟨δ1, _, _, Ed, ⟨F', ow, S2⟩, q1, fun vs as δ2 F2 ow2 H2 q2 S3 ra => k _ _ _ _ _ _ q2 S3.pop (.d S3.top ra), w.push⟩, w⟩
theorem pda_own {i : Nat} {x : Str} {pos : Pos} {es : List Expr} {r : TDA} (he : PE X (.Name x pos) (tVar i)) (hr : PA X es (LA X.K c W r)) (hs : starEach (.Name x pos :: es) X.env = (false, eval (.Name x pos) X.env) :: starEach es X.env := by rfl) :
    PA X (.Name x pos :: es) (LA X.K c W (fun δ Q E => ∃ o, δ[i]? = some (some (.own o)) ∧ consO i r δ Q E)) :=
  PA_imp (pa_cons he hr hs) fun σ H Q ⟨δ, tmp, Qd, Ed, ⟨F, ow, S⟩, ⟨o, eo, t⟩, k, w⟩ => by
    obtain ⟨v, e1, _⟩ := S.sl _ _ eo
    exact ⟨v, e1, δ, tmp, _, Ed, ⟨F, ow, S⟩, t, fun vs as δ2 F2 ow2 H2 q2 S3 ra => k _ _ _ _ _ _ q2 S3 (.o e1 ra), w⟩
/-! ### calls -/
theorem ret_push {K : PySem.W.Frag} {F F' H H' : Hp} {ow : Addr → Option Hold} {δ : DSt} {tmp : List (V × DV)} {σ : L2.St} {v : V} {x : DV} {is : List Nat} {ps : List Addr} {os : List OC} (S : SttF K c F ow δ tmp σ H) (hp : ps.length = is.length)
    (hs : ∀ (k i : Nat) (p : Addr), is[k]? = some i → ps[k]? = some p → σ[i]? = some (some (.ref p)) ∧ ∃ o, δ[i]? = some (some (.own o))) (nd : is.Nodup) (P : Post K F H ps os F' H') (r : RetRep K F' H H' v x) : Stt K c (putBack δ is os) ((v, x) :: tmp) σ H' := by
  cases x with
  | d y => exact ⟨F', ow, (S.called hp hs nd P).push r⟩
  | own o =>
    obtain ⟨p, rfl, n, nF, r⟩ := r
    have S1 := S.reown (ow' := owSet ow p (.t tmp.length)) (fun k a _ z => owSet_ne fun e => z (by rw [e]; exact n)) (fun k a _ _ z => owSet_ne fun e => z (by rw [e]; exact n))
    have S2 := S1.called hp hs nd P
    exact ⟨F', _, { S2 with tm := ⟨⟨p, rfl, owSet_at, nF, .inl (S.up _ n), r⟩, S2.tm⟩ }⟩
theorem lift_sp {K : PySem.W.Frag} {F H : Hp} {ow : Addr → Option Hold} {δ : DSt} {tmp : List (V × DV)} {σ : L2.St} {vs : List V} {as : List AV} {xs : List DV} {sd : SpD} {Q : VK} {Qd : DK} {Ed : XD} (S : SttF K c F ow δ tmp σ H) (ra : RepArgs K F σ vs as) (ea : argsOf δ as xs) (nd : (slotsOf as).Nodup)
    (sp : sd xs (fun r os => Qd r (putBack δ (slotsOf as) os)) (fun x os => Ed x (putBack δ (slotsOf as) os))) (k : ∀ v x δ' H', Qd x δ' → Stt K c δ' ((v, x) :: tmp) σ H' → Q v H') (w : WD K c W tmp Ed) : spOf K sd vs H Q (WE W σ) := by
  obtain ⟨ps, ar, hl, hs⟩ := args_rep S ra ea nd
  exact ⟨F, xs, ps, _, _, S.fh, ar, sp, fun v r os F' H' q P rr => k v r _ H' q (ret_push S hl hs nd P rr), fun cls d x os F' H' q P er => w x _ σ H' F' ow cls d q (S.called hl hs nd P) er⟩
variable {k : Nat} {f C : Addr} {fd : FuncData} {ps : List Str} {sd : SpD} {x m : Str} {p pos apos : Pos} {e o : Expr} {es : List Expr} {to : TD} {ta : TDA}
theorem pd_call (G : FnOk X.prog X.w X.K X.mg X.base (L2.CX X.prog X.w) k f fd ps (spOf X.K sd)) (hr : Room k X.A) (hg : Gl X x) (hm : X.mg x = some (.ref f)) (hk : PySem.W.keepIn X.K (.ref f) = true) (hb : Binds X.K fd ps []) (tk : Takes X W) (ha : PA X (e :: es) (LA X.K c W ta))
    (hdb : (x == ("__debug__" : Str)) = false := by decide) (he : starEach (e :: es) X.env = (false, eval e X.env) :: starEach es X.env := by rfl) (hpl : (backTo pos (starEach es X.env)).any (·.1) = false := by rfl) :
    PE X (.Call (.Name x p) (e :: es) [] pos) (LE X.K c W (callD sd ta)) :=
  PE_imp (pe_callSD (E := WE W) G hr hg hm hk hb .nil (fun σ => passAt tk σ) ha hdb he hpl) fun σ H Q ⟨δ, tmp, Qd, Ed, S, t, k, w⟩ =>
    ⟨δ, tmp, _, Ed, S, t, fun vs as δ1 F ow H1 ⟨xs, ea, nd, sp⟩ S1 ra => by
      show spOf X.K sd (vs ++ []) H1 Q (WE W σ)
      rw [List.append_nil]
      exact lift_sp S1 ra ea nd sp k w, w⟩
theorem pd_call0 (G : FnOk X.prog X.w X.K X.mg X.base (L2.CX X.prog X.w) k f fd ps (spOf X.K sd)) (hr : Room k X.A) (hg : Gl X x) (hm : X.mg x = some (.ref f)) (hk : PySem.W.keepIn X.K (.ref f) = true) (hb : Binds X.K fd ps []) (tk : Takes X W)
    (hdb : (x == ("__debug__" : Str)) = false := by decide) : PE X (.Call (.Name x p) [] [] pos) (LE X.K c W (callD sd nilD)) :=
  PE_imp (pe_callS0 (E := WE W) G hr hg hm hk hb (fun σ => passAt tk σ) hdb) fun σ H Q ⟨δ, tmp, Qd, Ed, ⟨F, ow, S⟩, ⟨xs, ea, nd, sp⟩, k, w⟩ => lift_sp S .nil ea nd sp k w
/-- o.m(..), o of the class at C, its fields fs -/
def methD (C : Addr) (m : Str) (sd : SpD) (to : TD) (ta : TDA) : TD := fun δ Q E => to δ (fun o δ1 => ∃ fs, o.toD = .obj C fs ∧ fs.lookup m = none ∧ ta δ1 (fun as δ2 => ∃ xs, argsOf δ2 as xs ∧ (slotsOf as).Nodup ∧
  sd (.d (.obj C fs) :: xs) (fun r os => Q r (putBack δ2 (slotsOf as) os)) (fun x os => E x (putBack δ2 (slotsOf as) os))) E) E
theorem RepF.lookup {K : PySem.W.Frag} {F : Hp} {n : Str} : ∀ {vs : List (Str × V)} {fs : List (Str × D)}, RepF K F vs fs → (fs.lookup n = none → vs.lookup n = none) ∧ ∀ d, fs.lookup n = some d → ∃ v, vs.lookup n = some v ∧ Rep K F v d
  | _, _, .nil => ⟨fun _ => rfl, fun d h => by cases h⟩
  | _, _, .cons (n := n') h t => by
    rw [List.lookup_cons, List.lookup_cons]
    cases n == n'
    · exact t.lookup
    · exact ⟨(fun z => nomatch z), fun d z => ⟨_, rfl, by cases z; exact h⟩⟩
theorem pd_meth {pl : Sem Bool} (he : PE X o (LE X.K c W to)) (cl : Cls X.K C) (hm : Meth X.K C m f) (G : FnOk X.prog X.w X.K X.mg X.base (L2.CX X.prog X.w) k f fd ps (spOf X.K sd)) (hr : Room k X.A) (hb : Binds X.K fd ps []) (tk : Takes X W) (ha : PA X (e :: es) (LA X.K c W ta))
    (hst : starEach (e :: es) X.env = (false, eval e X.env) :: starEach es X.env := by rfl) (hpl : (backTo pos (starEach es X.env)).any (·.1) = false := by rfl)
    (ht : eval (.Call (.Attribute o m apos) (e :: es) [] pos) X.env = (do
      let ov ← eval o X.env
      standAt apos.atName
      let (f, first) ← holding [ov] (getMethod ov m pl)
      callWith pos f first (backTo pos (starEach (e :: es) X.env)) (backToKw pos (keywordEach [] X.env))) := by rfl) :
    PE X (.Call (.Attribute o m apos) (e :: es) [] pos) (LE X.K c W (methD C m sd to ta)) :=
  PE_imp (pe_methX (E := WE W) he cl hm G hr hb (fun σ => passAt tk σ) ha hst hpl ht) fun σ H Q ⟨δ, tmp, Qd, Ed, S, t, k, w⟩ =>
    ⟨δ, tmp, _, Ed, S, t, fun v o δ1 H1 ⟨fs, eo, nl, t1⟩ ⟨F, ow, S1⟩ => by
      obtain ⟨F', S2, _⟩ := S1.top_frz
      rw [eo] at S2
      cases S2.top with
      | @obj a _ dx vs _ s h =>
        refine ⟨a, dx, vs, rfl, S2.fh _ _ s, (RepF.lookup h).1 nl, δ1, _, _, Ed, ⟨F', ow, S2⟩, t1, fun ws as δ2 F2 ow2 H2 ⟨xs, ea, nd, sp⟩ S3 ra => ?_, w.push⟩
        obtain ⟨qs, ar, hl, hs⟩ := args_rep S3.pop ra ea nd
        exact ⟨F2, _, qs, _, _, S3.fh, .d S3.top ar, sp, fun v r os F' H' q P rr => k v r _ H' q (ret_push S3.pop hl hs nd P rr), fun cls d x os F' H' q P er => w x _ σ H' F' ow2 cls d q (S3.pop.called hl hs nd P) er⟩, w⟩
theorem pd_meth0 {pl : Sem Bool} (he : PE X o (LE X.K c W to)) (cl : Cls X.K C) (hm : Meth X.K C m f) (G : FnOk X.prog X.w X.K X.mg X.base (L2.CX X.prog X.w) k f fd ps (spOf X.K sd)) (hr : Room k X.A) (hb : Binds X.K fd ps []) (tk : Takes X W)
    (ht : eval (.Call (.Attribute o m apos) [] [] pos) X.env = (do
      let ov ← eval o X.env
      standAt apos.atName
      let (f, first) ← holding [ov] (getMethod ov m pl)
      callWith pos f first (backTo pos (starEach [] X.env)) (backToKw pos (keywordEach [] X.env))) := by rfl) :
    PE X (.Call (.Attribute o m apos) [] [] pos) (LE X.K c W (methD C m sd to nilD)) :=
  PE_imp (pe_methX0 (E := WE W) he cl hm G hr hb (fun σ => passAt tk σ) ht) fun σ H Q ⟨δ, tmp, Qd, Ed, S, t, k, w⟩ =>
    ⟨δ, tmp, _, Ed, S, t, fun v o δ1 H1 ⟨fs, eo, nl, xs, ea, nd, sp⟩ ⟨F, ow, S1⟩ => by
      obtain ⟨F', S2, _⟩ := S1.top_frz
      rw [eo] at S2
      cases S2.top with
      | @obj a _ dx vs _ s h =>
        refine ⟨a, dx, vs, rfl, S2.fh _ _ s, (RepF.lookup h).1 nl, ?_⟩
        obtain ⟨qs, ar, hl, hs⟩ := args_rep S2.pop .nil ea nd
        exact ⟨F', _, qs, _, _, S2.fh, .d S2.top ar, sp, fun v r os F' H' q P rr => k v r _ H' q (ret_push S2.pop hl hs nd P rr), fun cls d x os F' H' q P er => w x _ σ H' F' ow cls d q (S2.pop.called hl hs nd P) er⟩, w⟩
/-- C(..): a new object, which does not change behind its __init__ -/
def makeD (C : Addr) (sd : SpD) (ta : TDA) : TD := fun δ Q E => ta δ (fun as δ1 => ∃ xs, argsOf δ1 as xs ∧ (slotsOf as).Nodup ∧ sd (.own (.ins C []) :: xs)
  (fun r os => r = .d .non ∧ ∃ fs os', os = .ins C fs :: os' ∧ Q (.d (.obj C fs)) (putBack δ1 (slotsOf as) os')) (fun x os => ∃ o os', os = o :: os' ∧ E x (putBack δ1 (slotsOf as) os'))) E
theorem ArgsRep.ext {K : PySem.W.Frag} {F H H' : Hp} (s : Same H H') : ∀ {vs : List V} {xs : List DV} {ps : List Addr}, ArgsRep K F H vs xs ps → ArgsRep K F H' vs xs ps
  | _, _, _, .nil => .nil
  | _, _, _, .d h t => .d h (t.ext s)
  | _, _, _, .own n h np t => .own n (h.mono (Same.refl F) (Same.at s h.has)) np (t.ext s)
theorem ArgsRep.at {K : PySem.W.Frag} {F H : Hp} {p : Addr} : ∀ {vs : List V} {xs : List DV} {ps : List Addr}, ArgsRep K F H vs xs ps → p ∈ ps → H p ≠ none
  | _, _, _, .nil, h => nomatch h
  | _, _, _, .d _ t, h => t.at h
  | _, _, _, .own _ r _ t, h => (List.mem_cons.mp h).elim (fun e => by subst e; exact r.has) fun h => t.at h
theorem OwnsRep.mono {K : PySem.W.Frag} {F F' H : Hp} (s : Same F F') : ∀ {ps : List Addr} {os : List OC}, (∀ p ∈ ps, F p = none → F' p = none) → OwnsRep K F H ps os → OwnsRep K F' H ps os
  | _, _, _, .nil => .nil
  | _, _, h, .cons n r t => .cons (h _ List.mem_cons_self n) (r.mono s rfl) (t.mono s fun p hp => h p (List.mem_cons_of_mem _ hp))
theorem lift_make {K : PySem.W.Frag} {F H : Hp} {ow : Addr → Option Hold} {δ : DSt} {tmp : List (V × DV)} {σ : L2.St} {vs : List V} {as : List AV} {xs : List DV} {Q : VK} {Qd : DK} {Ed : XD} (S : SttF K c F ow δ tmp σ H) (ra : RepArgs K F σ vs as) (ea : argsOf δ as xs) (nd : (slotsOf as).Nodup)
    (sp : sd (.own (.ins C []) :: xs) (fun r os => r = .d .non ∧ ∃ fs os', os = .ins C fs :: os' ∧ Qd (.d (.obj C fs)) (putBack δ (slotsOf as) os')) (fun x os => ∃ o os', os = o :: os' ∧ Ed x (putBack δ (slotsOf as) os')))
    (k : ∀ v x δ' H', Qd x δ' → Stt K c δ' ((v, x) :: tmp) σ H' → Q v H') (w : WD K c W tmp Ed) (x dx : Addr) (nx : H x = none) (ndx : H dx = none) (ne : dx ≠ x) :
    spOf K sd (.ref x :: vs) (upd (upd H dx (.own x)) x (.ins C dx [])) (fun v H2 => v = .non ∧ Q (.ref x) H2) (WE W σ) := by
  obtain ⟨ps, ar, hl, hs⟩ := args_rep S ra ea nd
  have s2 : Same H (upd (upd H dx (.own x)) x (.ins C dx [])) := same_upd (same_upd (Same.refl H) ndx) (by rw [upd_ne ne.symm]; exact nx)
  have Fx : F x = none := S.fh.free nx
  have xps : x ∉ ps := fun z => ar.at z nx
  have back : ∀ {os' : List OC} {F' H' : Hp}, Same F F' → Same F' H' → (∀ a o, (upd (upd H dx (.own x)) x (.ins C dx [])) a = some o → a ∉ x :: ps → H' a = some o) → (∀ a, H' a = none → (upd (upd H dx (.own x)) x (.ins C dx [])) a = none) →
      (∀ a, F' a ≠ none → a = x ∨ F a ≠ none ∨ (upd (upd H dx (.own x)) x (.ins C dx [])) a = none) → OwnsRep K F' H' ps os' → Post K F H ps os' F' H' := fun f fh fr up nw os =>
    ⟨f, fh, fun a o e n => fr a o (s2 _ _ e) fun z => (List.mem_cons.mp z).elim (fun z => by subst z; rw [nx] at e; cases e) n, fun a z => s2.free (up a z), fun a z => (nw a z).elim (fun z => by subst z; exact .inr nx) fun z => z.imp id fun z => s2.free z, os⟩
  refine ⟨F, _, x :: ps, _, _, S.fh.trans s2, .own Fx (show OwnRep K F _ x (.ins C []) from ⟨dx, [], upd_same, .nil⟩) xps (ar.ext s2), sp, fun v r os F' H' ⟨e1, fs, os', e2, q⟩ P rr => ?_, fun cls d y os F' H' ⟨o, os', e2, q⟩ P er => ?_⟩
  · subst e1 e2
    have rv : v = .non := by cases rr; rfl
    refine ⟨rv, k _ _ _ _ q ?_⟩
    cases P.os with
    | cons n r t =>
      obtain ⟨dx', vs', ex, rf⟩ := r
      have sf : Same F' (upd F' x (.ins C dx' vs')) := same_upd (Same.refl F') n
      have P' : Post K F H ps os' (upd F' x (.ins C dx' vs')) H' := back (P.f.trans sf) (same_upd1 P.fh ex) P.fr P.up (fun a z => by
        by_cases y : a = x
        · exact .inl y
        · rw [upd_ne y] at z; exact .inr (P.nw a z)) (t.mono sf fun p hp e => by rw [upd_ne (fun z => xps (by rw [← z]; exact hp))]; exact e)
      exact ⟨_, ow, (S.called hl hs nd P').push (.obj upd_same (rf.mono sf))⟩
  · subst e2
    cases P.os with
    | cons n r t => exact w y _ σ H' F' ow cls d q (S.called hl hs nd (back P.f P.fh P.fr P.up (fun a z => .inr (P.nw a z)) t)) er
theorem pd_make (M : Mk X.K C f) (G : FnOk X.prog X.w X.K X.mg X.base (L2.CX X.prog X.w) k f fd ps (spOf X.K sd)) (room : Room (k + 1) X.A) (hg : Gl X x) (hm : X.mg x = some (.ref C)) (bd : Binds X.K fd ps []) (tk : Takes X W) (ha : PA X (e :: es) (LA X.K c W ta))
    (hdb : (x == ("__debug__" : Str)) = false := by decide) (he : starEach (e :: es) X.env = (false, eval e X.env) :: starEach es X.env := by rfl) (hpl : (backTo pos (starEach es X.env)).any (·.1) = false := by rfl) :
    PE X (.Call (.Name x p) (e :: es) [] pos) (LE X.K c W (makeD C sd ta)) :=
  PE_imp (pe_makeS (E := WE W) M G room hg hm bd (fun σ => passAt tk σ) ha hdb he hpl) fun σ H Q ⟨δ, tmp, Qd, Ed, S, t, k, w⟩ =>
    ⟨δ, tmp, _, Ed, S, t, fun vs as δ1 F ow H1 ⟨xs, ea, nd, sp⟩ S1 ra => fun x dx nx ndx ne => lift_make S1 ra ea nd sp k w x dx nx ndx ne, w⟩
end
end DL

set_option Elab.async false
set_option linter.all false
set_option maxRecDepth 100000
namespace DL
open PySem PySem.Spec PyProof.Rows L2
section
variable {X : Cx} {c : Fc} {W : WX}
/-! ### blocks -/
def nextD : TDS := fun D δ => D.nx δ
def seqD (t u : TDS) : TDS := fun D δ => t { D with nx := u D } δ
theorem pds_nil : PSs X [] (LS X.K c W nextD) := PSs_imp pss_nil fun D σ H ⟨δ, tmp, Dd, S, t, k, _⟩ => k δ σ H t S
theorem pds_cons {st : Stmt} {rest : List Stmt} {t u : TDS} (h1 : PS X st (LS X.K c W t)) (h2 : PSs X rest (LS X.K c W u)) : PSs X (st :: rest) (LS X.K c W (seqD t u)) :=
  PSs_imp (pss_cons h1 h2) fun D σ H ⟨δ, tmp, Dd, S, q, k, kr, kb, kc, w⟩ => ⟨δ, tmp, _, S, q, fun δ' σ' H' q' S' => ⟨δ', tmp, Dd, S', q', k, kr, kb, kc, w⟩, kr, kb, kc, w⟩
theorem pds_one {st : Stmt} {t : TDS} (h1 : PS X st (LS X.K c W t)) : PSs X [st] (LS X.K c W t) := PSs_imp (pss_one h1) fun _ _ _ q => q
def neverD : TDS := fun _ _ => False
def breakD : TDS := fun D δ => D.bk δ
def contD : TDS := fun D δ => D.ct δ
theorem psd_pass {pos : Pos} : PS X (.Pass pos) (LS X.K c W nextD) := PS_imp ps_pass fun D σ H ⟨δ, tmp, Dd, S, t, k, _⟩ => k δ σ H t S
theorem psd_break {pos : Pos} : PS X (.Break pos) (LS X.K c W breakD) := PS_imp ps_break fun D σ H ⟨δ, tmp, Dd, S, t, _, _, k, _⟩ => k δ σ H t S
theorem psd_cont {pos : Pos} : PS X (.Continue pos) (LS X.K c W contD) := PS_imp ps_continue fun D σ H ⟨δ, tmp, Dd, S, t, _, _, _, k, _⟩ => k δ σ H t S
theorem psd_never {st : Stmt} : PS X st (LS X.K c W neverD) := PS_imp ps_never fun D σ H ⟨δ, tmp, Dd, S, t, _⟩ => t
def dropD (t : TD) : TDS := fun D δ => t δ (fun _ δ1 => D.nx δ1) D.ex
theorem psd_expr {e : Expr} {t : TD} {pos : Pos} (he : PE X e (LE X.K c W t)) (hs : swapsWith e none pos.line X.env = pure false := by rfl) : PS X (.Expr e pos) (LS X.K c W (dropD t)) :=
  PS_imp (ps_expr he hs) fun D σ H ⟨δ, tmp, Dd, S, q, k, kr, kb, kc, w⟩ => ⟨δ, tmp, _, _, S, q, fun v x δ' H' q' ⟨F, ow, S'⟩ => k δ' σ H' q' ⟨F, ow, S'.pop⟩, w⟩
def retD (t : TD) : TDS := fun D δ => t δ D.rt D.ex
def retND : TDS := fun D δ => D.rt (.d .non) δ
theorem psd_ret {e : Expr} {t : TD} {pos : Pos} (he : PE X e (LE X.K c W t)) : PS X (.Return (some e) pos) (LS X.K c W (retD t)) :=
  PS_imp (ps_ret he) fun D σ H ⟨δ, tmp, Dd, S, q, k, kr, kb, kc, w⟩ => ⟨δ, tmp, _, _, S, q, fun v x δ' H' q' S' => kr v x δ' σ H' q' S', w⟩
theorem psd_retN {pos : Pos} : PS X (.Return none pos) (LS X.K c W retND) :=
  PS_imp ps_retN fun D σ H ⟨δ, tmp, Dd, ⟨F, ow, S⟩, q, k, kr, kb, kc, w⟩ => kr _ _ δ σ H q ⟨F, ow, S.push .non⟩
/-! ### names -/
/-- x = e, frozen; as it is (x's own) -/
def setD (i : Nat) (t : TD) : TDS := fun D δ => t δ (fun x δ1 => D.nx (δ1.set i (some (.d x.toD)))) D.ex
def setO (i : Nat) (t : TD) : TDS := fun D δ => t δ (fun x δ1 => D.nx (δ1.set i (some x))) D.ex
theorem SttF.set' {K : PySem.W.Frag} {F H : Hp} {ow : Addr → Option Hold} {δ : DSt} {tmp : List (V × DV)} {σ : L2.St} {v : V} {x : DV} {i : Nat} (S : SttF K c F ow δ ((v, x) :: tmp) σ H) (ni : i ∉ c.sl) : Stt K c (δ.set i (some x)) tmp (σ.set i (some v)) H := by
  rcases Nat.lt_or_ge i δ.length with hi | hi
  · obtain ⟨ow', S'⟩ := S.set hi ni
    exact ⟨F, ow', S'⟩
  · rw [List.set_eq_of_length_le hi, List.set_eq_of_length_le (by rw [S.len]; exact hi)]
    exact ⟨F, ow, S.pop⟩
theorem psd_set {i : Nat} {x : Str} {e : Expr} {t : TD} {pos pos' : Pos} (he : PE X e (LE X.K c W t)) (ni : i ∉ c.sl) (hN : X.N.Nodup) (hi : X.N[i]? = some x) (hx : Loc X.env.scope x) (hs : swapsWith e (some (.Name x pos')) pos.line X.env = pure false := by rfl)
    (hf : X.fn x = true ∨ X.env.scope.names.lookup x = some .local := by first | exact .inl rfl | exact .inr rfl | assumption) : PS X (.Assign [.Name x pos'] e pos) (LS X.K c W (setD i t)) :=
  PS_imp (ps_set (i := i) hN hi hx he hs hf) fun D σ H ⟨δ, tmp, Dd, S, q, k, kr, kb, kc, w⟩ => ⟨δ, tmp, _, _, S, q, fun v x δ' H' q' ⟨F, ow, S'⟩ => by
    obtain ⟨F', S2, _⟩ := S'.top_frz
    exact k _ _ _ q' (S2.set' ni), w⟩
theorem psd_setO {i : Nat} {x : Str} {e : Expr} {t : TD} {pos pos' : Pos} (he : PE X e (LE X.K c W t)) (ni : i ∉ c.sl) (hN : X.N.Nodup) (hi : X.N[i]? = some x) (hx : Loc X.env.scope x) (hs : swapsWith e (some (.Name x pos')) pos.line X.env = pure false := by rfl)
    (hf : X.fn x = true ∨ X.env.scope.names.lookup x = some .local := by first | exact .inl rfl | exact .inr rfl | assumption) : PS X (.Assign [.Name x pos'] e pos) (LS X.K c W (setO i t)) :=
  PS_imp (ps_set (i := i) hN hi hx he hs hf) fun D σ H ⟨δ, tmp, Dd, S, q, k, kr, kb, kc, w⟩ => ⟨δ, tmp, _, _, S, q, fun v x δ' H' q' ⟨F, ow, S'⟩ => k _ _ _ q' (S'.set' ni), w⟩
/-- a row of values kept as they are -/
def LK (K : PySem.W.Frag) (c : Fc) (W : WX) (t : DSt → (List DV → DSt → Prop) → XD → Prop) : TA := fun σ H Q => ∃ δ tmp Qd Ed, Stt K c δ tmp σ H ∧ t δ Qd Ed ∧ (∀ vs xs δ' H', Qd xs δ' → vs.length = xs.length → Stt K c δ' ((vs.zip xs).reverse ++ tmp) σ H' → Q vs H') ∧ WD K c W tmp Ed
abbrev TDK := DSt → (List DV → DSt → Prop) → XD → Prop
def nilK : TDK := fun δ Q _ => Q [] δ
def consK (t : TD) (r : TDK) : TDK := fun δ Q E => t δ (fun x δ1 => r δ1 (fun xs δ2 => Q (x :: xs) δ2) E) E
theorem pka_nil : PA X [] (LK X.K c W nilK) := PA_imp pa_nil fun σ H Q ⟨δ, tmp, Qd, Ed, S, q, k, w⟩ => k [] [] δ H q rfl S
theorem pka_cons {e : Expr} {es : List Expr} {t : TD} {r : TDK} (he : PE X e (LE X.K c W t)) (hr : PA X es (LK X.K c W r)) (hs : starEach (e :: es) X.env = (false, eval e X.env) :: starEach es X.env := by rfl) : PA X (e :: es) (LK X.K c W (consK t r)) :=
  PA_imp (pa_cons he hr hs) fun σ H Q ⟨δ, tmp, Qd, Ed, S, t, k, w⟩ => ⟨δ, tmp, _, Ed, S, t, fun v x δ1 H1 q1 S1 => ⟨δ1, _, _, Ed, S1, q1, fun vs xs δ2 H2 q2 hl S2 => k _ _ _ _ q2 (congrArg (· + 1) hl) (by
    show Stt X.K c δ2 (((v, x) :: vs.zip xs).reverse ++ tmp) σ H2
    rw [List.reverse_cons, List.append_assoc]
    exact S2), w.push⟩, w⟩
/-- which of a row of values is frozen -/
def asD (own : Bool) (x : DV) : DV := if own then x else .d x.toD
def parD (i j : Nat) (oi oj : Bool) (t : TDK) : TDS := fun D δ => t δ (fun xs δ1 => ∃ x y, xs = [x, y] ∧ D.nx ((δ1.set j (some (asD oj y))).set i (some (asD oi x)))) D.ex
theorem SttF.top_as {K : PySem.W.Frag} {F H : Hp} {ow : Addr → Option Hold} {δ : DSt} {tmp : List (V × DV)} {σ : L2.St} {v : V} {x : DV} (S : SttF K c F ow δ ((v, x) :: tmp) σ H) (b : Bool) : ∃ F', SttF K c F' ow δ ((v, asD b x) :: tmp) σ H := by
  cases b
  · obtain ⟨F', S', _⟩ := S.top_frz
    exact ⟨F', S'⟩
  · exact ⟨F, S⟩
theorem psd_par {i j : Nat} {oi oj : Bool} {x y : Str} {a b : Expr} {t : TDK} {px py pt pos : Pos} {kt k2 pt2} (ha : PA X [a, b] (LK X.K c W t)) (ni : i ∉ c.sl) (nj : j ∉ c.sl) (h : ∀ {ta : TA}, PA X [a, b] ta → PS X (.Assign [.Tuple [.Name x px, .Name y py] k2 pt2] (.Tuple [a, b] kt pt) pos) (tPar i j ta)) (hij : i ≠ j) :
    PS X (.Assign [.Tuple [.Name x px, .Name y py] k2 pt2] (.Tuple [a, b] kt pt) pos) (LS X.K c W (parD i j oi oj t)) :=
  PS_imp (h ha) fun D σ H ⟨δ, tmp, Dd, S, q, k, kr, kb, kc, w⟩ => ⟨δ, tmp, _, _, S, q, fun vs xs δ' H' ⟨x, y, e, q'⟩ hl S' => by
    subst e
    match vs, hl with
    | [v, u], _ =>
      obtain ⟨F, ow, S'⟩ := S'
      have S2 : SttF X.K c F ow δ' ((u, y) :: (v, x) :: tmp) σ H' := S'
      obtain ⟨F3, S3⟩ := S2.top_as oj
      obtain ⟨F4, ow4, S4⟩ := S3.set' nj
      obtain ⟨F5, S5⟩ := S4.top_as oi
      refine ⟨v, u, rfl, k _ _ _ q' ?_⟩
      rw [List.set_comm _ _ hij]
      exact S5.set' ni, w⟩
/-! ### if -/
theorem pt_of {e : Expr} {t : TD} (h : ∀ {t : TE}, PE X e t → PT X e (tB t)) (he : PE X e (LE X.K c W t)) : PT X e (LT X.K c W fun δ Q E => t δ (fun x δ1 => ∃ b, x = .d (.bl b) ∧ Q b δ1) E) :=
  PT_imp (h he) fun σ H Q ⟨δ, tmp, Qd, Ed, S, q, k, w⟩ => ⟨δ, tmp, _, Ed, S, q, fun v x δ' H' ⟨b, e, q'⟩ ⟨F, ow, S'⟩ => by
    subst e
    refine ⟨b, ?_, k b δ' H' q' ⟨F, ow, S'.pop⟩⟩
    cases S'.top
    rfl, w⟩
def ifD (c : TDT) (t u : TDS) : TDS := fun D δ => c δ (fun b δ1 => if b = true then t D δ1 else u D δ1) D.ex
theorem psd_if {e : Expr} {a b : List Stmt} {tc : TDT} {t u : TDS} {pos : Pos} (hc : PT X e (LT X.K c W tc)) (ha : PSs X a (LS X.K c W t)) (hb : PSs X b (LS X.K c W u)) : PS X (.If e a b pos) (LS X.K c W (ifD tc t u)) :=
  PS_imp (ps_if hc ha hb) fun D σ H ⟨δ, tmp, Dd, S, q, k, kr, kb, kc, w⟩ => ⟨δ, tmp, _, _, S, q, fun b δ' H' q' S' => by
    cases b
    · exact ⟨δ', tmp, Dd, S', q', k, kr, kb, kc, w⟩
    · exact ⟨δ', tmp, Dd, S', q', k, kr, kb, kc, w⟩, w⟩
def ifExpD (c : TDT) (t u : TD) : TD := fun δ Q E => c δ (fun b δ1 => if b = true then t δ1 Q E else u δ1 Q E) E
theorem pd_ifExp {e a b : Expr} {tc : TDT} {t u : TD} {pos : Pos} (hc : PT X e (LT X.K c W tc)) (ha : PE X a (LE X.K c W t)) (hb : PE X b (LE X.K c W u)) : PE X (.IfExp e a b pos) (LE X.K c W (ifExpD tc t u)) :=
  PE_imp (pe_ifExp hc ha hb) fun σ H Q ⟨δ, tmp, Qd, Ed, S, q, k, w⟩ => ⟨δ, tmp, _, _, S, q, fun b δ' H' q' S' => by
    cases b
    · exact ⟨δ', tmp, Qd, Ed, S', q', k, w⟩
    · exact ⟨δ', tmp, Qd, Ed, S', q', k, w⟩, w⟩
/-! ### and, or, not: tests -/
def notD (t : TDT) : TDT := fun δ Q E => t δ (fun b δ1 => Q (!b) δ1) E
def andD (t u : TDT) : TDT := fun δ Q E => t δ (fun b δ1 => if b = true then u δ1 Q E else Q false δ1) E
def orD (t u : TDT) : TDT := fun δ Q E => t δ (fun b δ1 => if b = true then Q true δ1 else u δ1 Q E) E
theorem ptd_not {a : Expr} {t : TDT} {pos : Pos} (ha : PT X a (LT X.K c W t)) : PT X (.UnaryOp .Not a pos) (LT X.K c W (notD t)) :=
  PT_imp (pt_not ha) fun σ H Q ⟨δ, tmp, Qd, Ed, S, q, k, w⟩ => ⟨δ, tmp, _, _, S, q, fun b δ' H' q' S' => k _ _ _ q' S', w⟩
theorem pwd_and1 {a : Expr} {t : TDT} {pos : Pos} (ha : PT X a (LT X.K c W t)) : PW X (.BoolOp .And [a] pos) (LT X.K c W t) := pw_and1 ha
theorem pwd_or1 {a : Expr} {t : TDT} {pos : Pos} (ha : PT X a (LT X.K c W t)) : PW X (.BoolOp .Or [a] pos) (LT X.K c W t) := pw_or1 ha
theorem pwd_and {a b : Expr} {rest : List Expr} {t u : TDT} {pos : Pos} (ha : PT X a (LT X.K c W t)) (hb : PW X (.BoolOp .And (b :: rest) pos) (LT X.K c W u)) : PW X (.BoolOp .And (a :: b :: rest) pos) (LT X.K c W (andD t u)) :=
  PW_imp (pw_and ha hb) fun σ H Q ⟨δ, tmp, Qd, Ed, S, q, k, w⟩ => ⟨δ, tmp, _, _, S, q, fun b δ' H' q' S' => by
    cases b
    · exact k _ _ _ q' S'
    · exact ⟨δ', tmp, Qd, Ed, S', q', k, w⟩, w⟩
theorem pwd_or {a b : Expr} {rest : List Expr} {t u : TDT} {pos : Pos} (ha : PT X a (LT X.K c W t)) (hb : PW X (.BoolOp .Or (b :: rest) pos) (LT X.K c W u)) : PW X (.BoolOp .Or (a :: b :: rest) pos) (LT X.K c W (orD t u)) :=
  PW_imp (pw_or ha hb) fun σ H Q ⟨δ, tmp, Qd, Ed, S, q, k, w⟩ => ⟨δ, tmp, _, _, S, q, fun b δ' H' q' S' => by
    cases b
    · exact ⟨δ', tmp, Qd, Ed, S', q', k, w⟩
    · exact k _ _ _ q' S', w⟩
/-! values by truth: bools alone -/
def boolE (t : TD) (k : Bool → DSt → Prop) (E : XD) (δ : DSt) : Prop := t δ (fun x δ1 => ∃ b, x = .d (.bl b) ∧ k b δ1) E
def notV (t : TD) : TD := fun δ Q E => boolE t (fun b δ1 => Q (.d (.bl (!b))) δ1) E δ
def andV (t u : TD) : TD := fun δ Q E => boolE t (fun b δ1 => if b = true then u δ1 Q E else Q (.d (.bl false)) δ1) E δ
def orV (t u : TD) : TD := fun δ Q E => boolE t (fun b δ1 => if b = true then Q (.d (.bl true)) δ1 else u δ1 Q E) E δ
theorem pd_not {a : Expr} {t : TD} {pos : Pos} (ha : PE X a (LE X.K c W t)) : PE X (.UnaryOp .Not a pos) (LE X.K c W (notV t)) :=
  PE_imp (pe_not ha) fun σ H Q ⟨δ, tmp, Qd, Ed, S, q, k, w⟩ => ⟨δ, tmp, _, _, S, q, fun v x δ' H' ⟨b, e, q'⟩ ⟨F, ow, S'⟩ => by
    subst e
    cases S'.top
    exact ⟨b, rfl, k _ _ _ _ q' ⟨F, ow, S'.pop.push (.bl _)⟩⟩, w⟩
theorem pd_one {op} {a : Expr} {t : TD} {pos : Pos} (ha : PE X a (LE X.K c W t)) : PE X (.BoolOp op [a] pos) (LE X.K c W t) := pe_one ha
theorem pd_and {a b : Expr} {rest : List Expr} {t u : TD} {pos : Pos} (ha : PE X a (LE X.K c W t)) (hb : PE X (.BoolOp .And (b :: rest) pos) (LE X.K c W u)) : PE X (.BoolOp .And (a :: b :: rest) pos) (LE X.K c W (andV t u)) :=
  PE_imp (pe_and ha hb) fun σ H Q ⟨δ, tmp, Qd, Ed, S, q, k, w⟩ => ⟨δ, tmp, _, _, S, q, fun v x δ' H' ⟨b, e, q'⟩ ⟨F, ow, S'⟩ => by
    subst e
    cases S'.top
    refine ⟨b, rfl, ?_⟩
    cases b
    · exact k _ _ _ _ q' ⟨F, ow, S'.pop.push (.bl _)⟩
    · exact ⟨δ', tmp, Qd, Ed, ⟨F, ow, S'.pop⟩, q', k, w⟩, w⟩
theorem pd_or {a b : Expr} {rest : List Expr} {t u : TD} {pos : Pos} (ha : PE X a (LE X.K c W t)) (hb : PE X (.BoolOp .Or (b :: rest) pos) (LE X.K c W u)) : PE X (.BoolOp .Or (a :: b :: rest) pos) (LE X.K c W (orV t u)) :=
  PE_imp (pe_or ha hb) fun σ H Q ⟨δ, tmp, Qd, Ed, S, q, k, w⟩ => ⟨δ, tmp, _, _, S, q, fun v x δ' H' ⟨b, e, q'⟩ ⟨F, ow, S'⟩ => by
    subst e
    cases S'.top
    refine ⟨b, rfl, ?_⟩
    cases b
    · exact ⟨δ', tmp, Qd, Ed, ⟨F, ow, S'.pop⟩, q', k, w⟩
    · exact k _ _ _ _ q' ⟨F, ow, S'.pop.push (.bl _)⟩, w⟩
/-! ### moving an own name's object out -/
def mvarD (i : Nat) : TD := fun δ Q _ => ∃ x, δ[i]? = some (some x) ∧ Q x (δ.set i none)
theorem pd_mvar {i : Nat} {x : Str} {pos : Pos} (h : PE X (.Name x pos) (tVar i)) (ni : i ∉ c.sl) : PE X (.Name x pos) (LE X.K c W (mvarD i)) := PE_imp h fun σ H Q ⟨δ, tmp, Qd, Ed, ⟨F, ow, S⟩, ⟨x, e, q⟩, k, w⟩ => by
  obtain ⟨v, ow', e1, S'⟩ := S.move e ni
  exact ⟨v, e1, k v _ _ _ q ⟨F, ow', S'⟩⟩
/-! ### attributes -/
def fldD (C : Addr) (f : Str) (t : TD) : TD := fun δ Q E => t δ (fun o δ1 => ∃ fs d, o.toD = .obj C fs ∧ fs.lookup f = some d ∧ Q (.d d) δ1) E
theorem pd_fld {e : Expr} {C : Addr} {f : Str} {t : TD} {pos : Pos} (he : PE X e (LE X.K c W t)) (cl : Cls X.K C) (na : NoAttr X.K C f) (hb : attributeBase e f X.env (eval e X.env) = eval e X.env) : PE X (.Attribute e f pos) (LE X.K c W (fldD C f t)) :=
  PE_imp (pe_fld he hb) fun σ H Q ⟨δ, tmp, Qd, Ed, S, q, k, w⟩ => ⟨δ, tmp, _, _, S, q, fun v o δ' H' ⟨fs, d, eo, el, q'⟩ ⟨F, ow, S'⟩ => by
    obtain ⟨F', S2, _⟩ := S'.top_frz
    rw [eo] at S2
    cases S2.top with
    | @obj a _ dx vs _ s h =>
      obtain ⟨u, e1, r⟩ := (RepF.lookup h).2 d el
      exact ⟨a, C, dx, vs, u, rfl, S2.fh _ _ s, cl, na, e1, k _ _ _ _ q' ⟨F', ow, S2.pop.push r⟩⟩, w⟩
/-- of an object of the body's own -/
def fldO (C : Addr) (i : Nat) (f : Str) : TD := fun δ Q _ => ∃ fs d, δ[i]? = some (some (.own (.ins C fs))) ∧ fs.lookup f = some d ∧ Q (.d d) δ
theorem pd_fldO {i : Nat} {x : Str} {C : Addr} {f : Str} {pos px : Pos} (he : PE X (.Name x px) (tVar i)) (cl : Cls X.K C) (na : NoAttr X.K C f) (hb : attributeBase (.Name x px) f X.env (eval (.Name x px) X.env) = eval (.Name x px) X.env) : PE X (.Attribute (.Name x px) f pos) (LE X.K c W (fldO C i f)) :=
  PE_imp (pe_fld he hb) fun σ H Q ⟨δ, tmp, Qd, Ed, ⟨F, ow, S⟩, ⟨fs, d, ei, el, q⟩, k, w⟩ => by
    obtain ⟨v, e1, p, rfl, _, _, _, dx, vs, ep, r⟩ := S.sl _ _ ei
    obtain ⟨u, e2, ru⟩ := (RepF.lookup r).2 d el
    exact ⟨_, e1, p, C, dx, vs, u, rfl, ep, cl, na, e2, k _ _ _ _ q ⟨F, ow, S.push ru⟩⟩
def putD (f : Str) (d : D) : List (Str × D) → List (Str × D)
  | [] => [(f, d)]
  | (g, x) :: r => if g = f then (g, d) :: r else (g, x) :: putD f d r
theorem RepF.put {K : PySem.W.Frag} {F : Hp} {f : Str} {v : V} {d : D} (h : Rep K F v d) : ∀ {vs : List (Str × V)} {fs : List (Str × D)}, RepF K F vs fs → RepF K F (putF f v vs) (putD f d fs)
  | _, _, .nil => .cons h .nil
  | _, _, .cons (n := n) a t => by
    unfold putF putD
    by_cases e : n = f
    · rw [if_pos e, if_pos e]; exact .cons h t
    · rw [if_neg e, if_neg e]; exact .cons a (t.put h)
theorem RepF.length {K : PySem.W.Frag} {F : Hp} : ∀ {vs : List (Str × V)} {fs : List (Str × D)}, RepF K F vs fs → vs.length = fs.length
  | _, _, .nil => rfl
  | _, _, .cons _ t => congrArg (· + 1) t.length
def fldSet (C : Addr) (i : Nat) (f : Str) (t : TD) : TDS := fun D δ => t δ (fun y δ1 => ∃ fs, δ1[i]? = some (some (.own (.ins C fs))) ∧ fs.length < 1000 ∧ D.nx (δ1.set i (some (.own (.ins C (putD f y.toD fs)))))) D.ex
theorem psd_fld {i : Nat} {x : Str} {C : Addr} {f : Str} {value : Expr} {t : TD} {pos px pos' : Pos} (he : PE X (.Name x px) (tVar i)) (hv : PE X value (LE X.K c W t)) (cl : Cls X.K C) (na : NoAttr X.K C f) (hs : swapsWith value (some (.Attribute (.Name x px) f pos')) pos.line X.env = pure false) :
    PS X (.Assign [.Attribute (.Name x px) f pos'] value pos) (LS X.K c W (fldSet C i f t)) :=
  PS_imp (ps_fld he hv hs) fun D σ H ⟨δ, tmp, Dd, S, q, k, kr, kb, kc, w⟩ => ⟨δ, tmp, _, _, S, q, fun v y δ1 H1 ⟨fs, ei, lf, q'⟩ ⟨F, ow, S1⟩ => by
    obtain ⟨F2, S2, _⟩ := S1.top_frz
    obtain ⟨u, e1, p, rfl, _, _, _, dx, vs, ep, r⟩ := S2.sl _ _ ei
    refine ⟨_, e1, p, C, dx, vs, rfl, ep, cl, na, by rw [r.length]; exact lf, k _ _ _ q' ⟨F2, ow, S2.pop.write ei e1 ⟨dx, _, upd_same, r.put S2.top⟩⟩⟩, w⟩
end
end DL

set_option Elab.async false
set_option linter.all false
set_option maxRecDepth 100000
namespace DL
open PySem PySem.Spec PyProof.Rows L2
/-! ### scalars -/
def D.sc : D → Option V
  | .non => some .non
  | .bl b => some (.bl b)
  | .int i => some (.int i)
  | .str x => some (.str x)
  | _ => none
section
variable {K : PySem.W.Frag} {F F' H H' : Hp} {v : V} {d : D}
theorem Rep.sc (r : Rep K F v d) {x : V} (e : d.sc = some x) : v = x := by
  cases r <;> (first | (cases e; rfl) | cases e)
theorem made_d (s : Same F H) (r : Rep K F v d) : Made K F H F H v (.d d) := .d (Ext.refl s) r
/-! ### two operands -/
theorem op2_I0 {g : Int → Int → V} {gd : Int → Int → D} (h : ∀ i j F, Rep K F (g i j) (gd i j)) : Op2 K (rI0 g) (fun a b Q => ∃ i j, a = .int i ∧ b = .int j ∧ Q (.d (gd i j))) := fun x y a b F H Q Qd s rx ry ⟨i, j, e1, e2, q⟩ k => by
  subst e1 e2
  cases rx; cases ry
  exact ⟨i, j, rfl, rfl, k _ _ F H q (made_d s (h i j F))⟩
theorem op2_I {C : Int → Int → Prop} {g : Int → Int → V} {gd : Int → Int → D} (h : ∀ i j F, Rep K F (g i j) (gd i j)) : Op2 K (rI C g) (fun a b Q => ∃ i j, a = .int i ∧ b = .int j ∧ C i j ∧ Q (.d (gd i j))) := fun x y a b F H Q Qd s rx ry ⟨i, j, e1, e2, c, q⟩ k => by
  subst e1 e2
  cases rx; cases ry
  exact ⟨i, j, rfl, rfl, c, k _ _ F H q (made_d s (h i j F))⟩
/-- operations whose answer is a bool or an int, that make nothing -/
abbrev RD2s := D → D → (D → Prop) → Prop
def Op2s (K : PySem.W.Frag) (r : R2) (rd : RD2s) : Prop := ∀ x y a b F H Q Qd, Same F H → Rep K F x a → Rep K F y b → rd a b Qd → (∀ v z, Qd z → z.sc = some v → Q v H) → r x y H Q
theorem sc_rep {K : PySem.W.Frag} {F : Hp} {v : V} {z : D} (hs : ∀ x, z = .str x → PyData.strOk x = true) (e : z.sc = some v) : Rep K F v z := by
  cases z <;> (first | (cases e; first | exact .non | exact .bl _ | exact .int _ | exact .str (hs _ rfl)) | cases e)
def NoStr (z : D) : Prop := ∀ x, z = .str x → PyData.strOk x = true
theorem Op2s.op {r : R2} {rd : RD2s} (h : Op2s K r rd) : Op2 K r (fun a b Q => rd a b fun z => NoStr z ∧ Q (.d z)) := fun x y a b F H Q Qd s rx ry q k =>
  h x y a b F H Q _ s rx ry q fun v z ⟨n, qz⟩ e => k v _ F H qz (made_d s (sc_rep n e))
abbrev eqS (neg : Bool) : RD2s := fun a b Q => ∃ x y, a.sc = some x ∧ b.sc = some y ∧ scal x y = true ∧ Q (.bl (if neg then !decide (x = y) else decide (x = y)))
theorem op2_eq : Op2s K rEq (eqS false) := fun x y a b F H Q Qd s rx ry ⟨u, w, e1, e2, c, q⟩ k => by
  cases rx.sc e1; cases ry.sc e2
  exact ⟨c, k _ _ q rfl⟩
theorem op2_ne : Op2s K rNe (eqS true) := fun x y a b F H Q Qd s rx ry ⟨u, w, e1, e2, c, q⟩ k => by
  cases rx.sc e1; cases ry.sc e2
  exact ⟨c, k _ _ q rfl⟩
/-! == of data -/
mutual
def D.isPy : D → Bool
  | .non => true | .bl _ => true | .int _ => true | .str _ => true
  | .lst xs => isPyL xs | .ro xs => isPyL xs | .tup xs => isPyL xs | .rot xs => isPyL xs
  | _ => false
def isPyL : List D → Bool
  | [] => true
  | d :: ds => d.isPy && isPyL ds
end
mutual
def D.py : D → PyData
  | .non => .none | .bl b => .bool b | .int i => .int i | .str x => .str x
  | .lst xs => .list (pyL xs) | .ro xs => .list (pyL xs) | .tup xs => .tuple (pyL xs) | .rot xs => .tuple (pyL xs)
  | _ => .none
def pyL : List D → List PyData
  | [] => []
  | d :: ds => d.py :: pyL ds
end
mutual
theorem Rep.dp : ∀ {v : V} {d : D}, Rep K F v d → d.isPy = true → Dp K F v d.py
  | _, _, .non, _ => .non
  | _, _, .bl b, _ => .bl b
  | _, _, .int i, _ => .int i
  | _, _, .str _, _ => .str _
  | _, _, .ty _, h => nomatch h
  | _, _, .adr _, h => nomatch h
  | _, _, .lst s r, h => .lst (SqL.of s) (r.dp h)
  | _, _, .ro s r, h => .lst s (r.dp h)
  | _, _, .tup s r, h => .tup (SqT.of s) (r.dp h)
  | _, _, .rot s r, h => .tup s (r.dp h)
  | _, _, .obj _ _, h => nomatch h
  | _, _, .dT _ _, h => nomatch h
  | _, _, .dK _ _, h => nomatch h
  | _, _, .exc0, h => nomatch h
  | _, _, .exc _ _, h => nomatch h
theorem RepL.dp : ∀ {vs : List V} {ds : List D}, RepL K F vs ds → isPyL ds = true → DpAll K F vs (pyL ds)
  | _, _, .nil, _ => .nil
  | _, _, .cons r t, h => .cons (r.dp (Bool.and_eq_true _ _ ▸ h).1) (t.dp (Bool.and_eq_true _ _ ▸ h).2)
end
mutual
theorem Rep.lay : ∀ {v : V} {d : D}, Rep K F v d → d.isPy = true → d.py.canLay0 = true
  | _, _, .non, _ => by simp only [D.py, PyData.canLay0]
  | _, _, .bl b, _ => by simp only [D.py, PyData.canLay0]
  | _, _, .int i, _ => by simp only [D.py, PyData.canLay0]
  | _, _, .str k, _ => by simp only [D.py, PyData.canLay0]; exact k
  | _, _, .ty _, h => nomatch h
  | _, _, .adr _, h => nomatch h
  | _, _, .lst s r, h => by simp only [D.py, PyData.canLay0]; exact r.lay h
  | _, _, .ro s r, h => by simp only [D.py, PyData.canLay0]; exact r.lay h
  | _, _, .tup s r, h => by simp only [D.py, PyData.canLay0]; exact r.lay h
  | _, _, .rot s r, h => by simp only [D.py, PyData.canLay0]; exact r.lay h
  | _, _, .obj _ _, h => nomatch h
  | _, _, .dT _ _, h => nomatch h
  | _, _, .dK _ _, h => nomatch h
  | _, _, .exc0, h => nomatch h
  | _, _, .exc _ _, h => nomatch h
theorem RepL.lay : ∀ {vs : List V} {ds : List D}, RepL K F vs ds → isPyL ds = true → PyData.canLayAll0 (pyL ds) = true
  | _, _, .nil, _ => by simp only [pyL, PyData.canLayAll0]
  | _, _, .cons r t, h => by
    simp only [pyL, PyData.canLayAll0]
    rw [r.lay (Bool.and_eq_true _ _ ▸ h).1, t.lay (Bool.and_eq_true _ _ ▸ h).2]
    rfl
end
mutual
theorem dp_mono (e : Same F F') : ∀ {v : V} {d : PyData}, Dp K F v d → Dp K F' v d
  | _, _, .non => .non
  | _, _, .bl b => .bl b
  | _, _, .int i => .int i
  | _, _, .str x => .str x
  | _, _, .lst s h => .lst (e.seq s) (dpAll_mono e h)
  | _, _, .tup s h => .tup (sqt_mono e s) (dpAll_mono e h)
theorem dpAll_mono (e : Same F F') : ∀ {v : List V} {d : List PyData}, DpAll K F v d → DpAll K F' v d
  | _, _, .nil => .nil
  | _, _, .cons h t => .cons (dp_mono e h) (dpAll_mono e t)
end
/-- data that may be compared -/
def Cmp (d : D) : Prop := d.isPy = true ∧ d.py.depth ≤ 64
theorem Rep.shp (r : Rep K F v d) (c : Cmp d) : SeqAt.shaped d.py = true := by
  unfold SeqAt.shaped
  rw [r.lay c.1, decide_eq_true c.2]
  rfl
abbrev eqP (neg : Bool) : RD2s := fun a b Q => Cmp a ∧ Cmp b ∧ Q (.bl (if neg then !PyData.eqv a.py b.py else PyData.eqv a.py b.py))
theorem op2_eqD : Op2s K (rEqD K) (eqP false) := fun x y a b F H Q Qd s rx ry ⟨c1, c2, q⟩ k =>
  ⟨a.py, b.py, dp_mono s (rx.dp c1.1), dp_mono s (ry.dp c2.1), rx.shp c1, ry.shp c2, k _ _ q rfl⟩
theorem op2_neD : Op2s K (rNeD K) (eqP true) := fun x y a b F H Q Qd s rx ry ⟨c1, c2, q⟩ k =>
  ⟨a.py, b.py, dp_mono s (rx.dp c1.1), dp_mono s (ry.dp c2.1), rx.shp c1, ry.shp c2, k _ _ q rfl⟩
/-! ### rows -/
/-- the items of a row -/
def D.its : D → Option (List D)
  | .lst xs => some xs
  | .ro xs => some xs
  | .tup xs => some xs
  | .rot xs => some xs
  | _ => none
theorem Rep.row {xs : List D} (r : Rep K F v d) (e : d.its = some xs) : ∃ p vs, v = .ref p ∧ (SqL K F p vs ∨ SqT K F p vs) ∧ RepL K F vs xs := by
  cases r <;> (first | (cases e; first | exact ⟨_, _, rfl, .inl (SqL.of ‹_›), ‹_›⟩ | exact ⟨_, _, rfl, .inl ‹_›, ‹_›⟩ | exact ⟨_, _, rfl, .inr (SqT.of ‹_›), ‹_›⟩ | exact ⟨_, _, rfl, .inr ‹_›, ‹_›⟩) | cases e)
theorem RepL.len : ∀ {vs : List V} {ds : List D}, RepL K F vs ds → vs.length = ds.length
  | _, _, .nil => rfl
  | _, _, .cons _ t => congrArg (· + 1) t.len
theorem RepL.get : ∀ {vs : List V} {ds : List D} {i : Nat} {d : D}, RepL K F vs ds → ds[i]? = some d → ∃ v, vs[i]? = some v ∧ Rep K F v d
  | _, _, 0, _, .cons h _, e => by cases e; exact ⟨_, rfl, h⟩
  | _, _, i + 1, _, .cons _ t, e => t.get (i := i) e
theorem RepL.app : ∀ {vs ws : List V} {ds es : List D}, RepL K F vs ds → RepL K F ws es → RepL K F (vs ++ ws) (ds ++ es)
  | _, _, _, _, .nil, h => h
  | _, _, _, _, .cons a t, h => .cons a (t.app h)
theorem RepL.set {v : V} {d : D} (r : Rep K F v d) : ∀ {vs : List V} {ds : List D} (i : Nat), RepL K F vs ds → RepL K F (vs.set i v) (ds.set i d)
  | _, _, _, .nil => .nil
  | _, _, 0, .cons _ t => .cons r t
  | _, _, i + 1, .cons a t => .cons a (t.set r i)
theorem RepL.erase : ∀ {vs : List V} {ds : List D} (i : Nat), RepL K F vs ds → RepL K F (vs.eraseIdx i) (ds.eraseIdx i)
  | _, _, _, .nil => .nil
  | _, _, 0, .cons _ t => t
  | _, _, i + 1, .cons a t => .cons a (t.erase i)
theorem RepL.take : ∀ {vs : List V} {ds : List D} (i : Nat), RepL K F vs ds → RepL K F (vs.take i) (ds.take i)
  | _, _, 0, _ => .nil
  | _, _, _ + 1, .nil => .nil
  | _, _, i + 1, .cons a t => .cons a (t.take i)
theorem RepL.drop : ∀ {vs : List V} {ds : List D} (i : Nat), RepL K F vs ds → RepL K F (vs.drop i) (ds.drop i)
  | _, _, 0, h => h
  | _, _, _ + 1, .nil => .nil
  | _, _, i + 1, .cons a t => t.drop i
theorem RepL.rep {vs : List V} {ds : List D} (h : RepL K F vs ds) : ∀ n : Nat, RepL K F (List.replicate n vs).flatten (List.replicate n ds).flatten
  | 0 => .nil
  | n + 1 => by
    rw [List.replicate_succ, List.replicate_succ, List.flatten_cons, List.flatten_cons]
    exact h.app (h.rep n)
theorem RepL.ats {vs : List V} {ds : List D} {i : Int} (h : RepL K F vs ds) (e : atI ds i = some d) : ∃ v, atI vs i = some v ∧ Rep K F v d := by
  unfold atI at e ⊢
  rw [h.len]
  cases q : ixN ds.length i with
  | none => rw [q] at e; cases e
  | some j => rw [q] at e; exact h.get e
def cutD (xs : List D) (lo hi : Option Int) : List D := (xs.drop (HT.sIx xs.length 0 lo)).take (HT.sIx xs.length xs.length hi - HT.sIx xs.length 0 lo)
theorem RepL.cut {vs : List V} {ds : List D} (lo hi : Option Int) (h : RepL K F vs ds) : RepL K F (cutV vs lo hi) (cutD ds lo hi) := by
  unfold cutV cutD
  rw [h.len]
  exact (h.drop _).take _
/-- rows of scalars -/
def scL : List D → Option (List V)
  | [] => some []
  | d :: ds => match d.sc, scL ds with
    | some v, some vs => some (v :: vs)
    | _, _ => none
theorem RepL.sc : ∀ {vs ws : List V} {ds : List D}, RepL K F vs ds → scL ds = some ws → vs = ws
  | _, _, _, .nil, e => by cases e; rfl
  | _, _, _, .cons (d := d) (ds := ds) r t, e => by
    unfold scL at e
    cases q : d.sc with
    | none => rw [q] at e; cases e
    | some v =>
      cases q2 : scL ds with
      | none => rw [q, q2] at e; cases e
      | some ws =>
        rw [q, q2] at e
        cases e
        rw [r.sc q, t.sc q2]
theorem sq_mono {F H : Hp} {p : Addr} {vs : List V} (s : Same F H) (h : SqL K F p vs ∨ SqT K F p vs) : SqL K H p vs ∨ SqT K H p vs := h.imp (fun h => s.seq h) fun h => sqt_mono s h
/-- x in row, of scalars -/
abbrev inS (neg : Bool) : RD2s := fun a b Q => ∃ x xs ys, a.sc = some x ∧ b.its = some xs ∧ scL xs = some ys ∧ Q (.bl (if neg then !inV x ys else inV x ys))
theorem sc_flat : ∀ {d : D} {x : V}, d.sc = some x → flatV x = true := fun {d x} e => by cases d <;> (first | (cases e; rfl) | cases e)
theorem scL_flat : ∀ {ds : List D} {ys : List V}, scL ds = some ys → ys.all flatV = true
  | [], _, e => by cases e; rfl
  | d :: ds, _, e => by
    unfold scL at e
    cases q : d.sc with
    | none => rw [q] at e; cases e
    | some v =>
      cases q2 : scL ds with
      | none => rw [q, q2] at e; cases e
      | some ws =>
        rw [q, q2] at e
        cases e
        rw [List.all_cons, sc_flat q, scL_flat q2]
        rfl
theorem op2_in (neg : Bool) : Op2s K (rIn K neg) (inS neg) := fun x y a b F H Q Qd s rx ry ⟨u, xs, ys, e1, e2, e3, q⟩ k => by
  cases rx.sc e1
  obtain ⟨p, vs, rfl, h, r⟩ := ry.row e2
  cases r.sc e3
  exact ⟨p, _, rfl, sq_mono s h, sc_flat e1, scL_flat e3, k _ _ q rfl⟩
/-- a sign in a text -/
abbrev inSign (neg : Bool) : RD2s := fun a b Q => ∃ (c : Nat) (z : Str), a = .str ⟨#[c]⟩ ∧ b = .str z ∧ Q (.bl (if neg then !decide (c ∈ z.cps.toList) else decide (c ∈ z.cps.toList)))
theorem op2_inSign : Op2s K (fun x y H Q => ∃ (c : Nat) (z : Str), x = .str ⟨#[c]⟩ ∧ y = .str z ∧ Q (.bl (decide (c ∈ z.cps.toList))) H) (inSign false) := fun x y a b F H Q Qd s rx ry ⟨c, z, e1, e2, q⟩ k => by
  subst e1 e2
  cases rx; cases ry
  exact ⟨c, z, rfl, rfl, k _ _ q rfl⟩
/-- is None -/
abbrev isNS (neg : Bool) : RD2s := fun a b Q => ∃ t, b = .non ∧ (t = true ↔ a = .non) ∧ Q (.bl (if neg then !t else t))
theorem op2_isN : Op2s K (fun x y H Q => y = .non ∧ Q (.bl (decide (x = .non))) H) (isNS false) := fun x y a b F H Q Qd s rx ry ⟨t, e, ht, q⟩ k => by
  subst e
  cases ry
  refine ⟨rfl, ?_⟩
  have : decide (x = V.non) = t := by
    rw [Bool.eq_iff_iff, decide_eq_true_eq, ht]
    constructor
    · intro e; subst e; cases rx; rfl
    · intro e; subst e; cases rx; rfl
  rw [this]
  exact k _ _ q rfl
theorem op2_notN : Op2s K (fun x y H Q => y = .non ∧ Q (.bl (!decide (x = .non))) H) (isNS true) := fun x y a b F H Q Qd s rx ry ⟨t, e, ht, q⟩ k => by
  subst e
  cases ry
  refine ⟨rfl, ?_⟩
  have : decide (x = V.non) = t := by
    rw [Bool.eq_iff_iff, decide_eq_true_eq, ht]
    constructor
    · intro e; subst e; cases rx; rfl
    · intro e; subst e; cases rx; rfl
  rw [this]
  exact k _ _ q rfl
theorem op2_isB : Op2s K rIsB (fun a b Q => ∃ x y, a = .bl x ∧ b = .bl y ∧ Q (.bl (decide (x = y)))) := fun x y a b F H Q Qd s rx ry ⟨u, w, e1, e2, q⟩ k => by
  subst e1 e2
  cases rx; cases ry
  exact ⟨u, w, rfl, rfl, k _ _ q rfl⟩
theorem op2_notB : Op2s K rNotB (fun a b Q => ∃ x y, a = .bl x ∧ b = .bl y ∧ Q (.bl (!decide (x = y)))) := fun x y a b F H Q Qd s rx ry ⟨u, w, e1, e2, q⟩ k => by
  subst e1 e2
  cases rx; cases ry
  exact ⟨u, w, rfl, rfl, k _ _ q rfl⟩
/-! what makes something new -/
theorem strOk_app {x y : Str} (h1 : PyData.strOk x = true) (h2 : PyData.strOk y = true) : PyData.strOk (x ++ y) = true := by
  unfold PyData.strOk at *
  show ((x.cps ++ y.cps).all _) = true
  rw [Array.all_append, h1, h2]
  rfl
theorem op2_addS : Op2 K (fun x y H Q => ∃ i j, x = .str i ∧ y = .str j ∧ i.length + j.length ≤ sizeLine ∧ Q (.str (i ++ j)) H) (fun a b Q => ∃ i j, a = .str i ∧ b = .str j ∧ i.length + j.length ≤ sizeLine ∧ Q (.d (.str (i ++ j)))) := fun x y a b F H Q Qd s rx ry ⟨i, j, e1, e2, z, q⟩ k => by
  subst e1 e2
  cases rx with
  | str k1 =>
    cases ry with
    | str k2 => exact ⟨i, j, rfl, rfl, z, k _ _ F H q (made_d s (.str (strOk_app k1 k2)))⟩
theorem made_list {p : Addr} {vs : List V} {ds : List D} (n : H p = none) (s : Same F H) (r : RepL K F vs ds) : Made K F H F (upd H p (.lst vs)) (.ref p) (.own (.lst ds)) := .own (ob := .lst vs) rfl n rfl rfl ⟨vs, upd_same, r⟩
theorem made_tup {p : Addr} {vs : List V} {ds : List D} (n : H p = none) (s : Same F H) (r : RepL K F vs ds) : Made K F H (upd F p (.tup vs)) (upd H p (.tup vs)) (.ref p) (.d (.tup ds)) :=
  .d (Ext.new s n) (.tup upd_same (r.mono (same_upd (Same.refl F) (s.free n))))
theorem op2_cat : Op2 K rCat (fun a b Q => ∃ xs ys, a = .lst xs ∧ b = .lst ys ∧ xs.length + ys.length ≤ sizeLine ∧ Q (.own (.lst (xs ++ ys)))) := fun x y a b F H Q Qd s rx ry ⟨xs, ys, e1, e2, z, q⟩ k => by
  subst e1 e2
  cases rx with
  | lst s1 r1 =>
    cases ry with
    | lst s2 r2 => exact ⟨_, _, _, _, rfl, rfl, s _ _ s1, s _ _ s2, by rw [r1.len, r2.len]; exact z, fun p n => k _ _ _ _ q (made_list n s (r1.app r2))⟩
theorem op2_rep : Op2 K rRep (fun a b Q => ∃ xs n, a = .lst xs ∧ b = .int n ∧ -(2 ^ 63) ≤ n ∧ n < 2 ^ 63 ∧ xs.length * n.toNat ≤ sizeLine ∧ Q (.own (.lst (List.replicate n.toNat xs).flatten))) := fun x y a b F H Q Qd s rx ry ⟨xs, n, e1, e2, z1, z2, z, q⟩ k => by
  subst e1 e2
  cases ry
  cases rx with
  | lst s1 r1 => exact ⟨_, _, _, rfl, rfl, s _ _ s1, z1, z2, by rw [r1.len]; exact z, fun p np => k _ _ _ _ q (made_list np s (r1.rep _))⟩
theorem RepL.nil_iff {vs : List V} {ds : List D} (h : RepL K F vs ds) : vs = [] ↔ ds = [] := by cases h <;> simp
theorem op2_catT : Op2 K (rCatA K) (fun a b Q => ∃ xs ys, a = .tup xs ∧ b = .tup ys ∧ xs.length + ys.length ≤ sizeLine ∧ Q (.d (.tup (xs ++ ys)))) := fun x y a b F H Q Qd s rx ry ⟨xs, ys, e1, e2, z, q⟩ k => by
  subst e1 e2
  cases rx with
  | tup s1 r1 =>
    cases ry with
    | tup s2 r2 =>
      refine ⟨_, _, _, _, rfl, rfl, SqT.of (s _ _ s1), SqT.of (s _ _ s2), by rw [r1.len, r2.len]; exact z, fun e => ?_, fun _ e => ?_, fun _ _ p n => k _ _ _ _ q (made_tup n s (r1.app r2))⟩
      · have : xs = [] := r1.nil_iff.mp e
        subst this
        exact k _ _ _ _ q (made_d s (.tup s2 r2))
      · have : ys = [] := r2.nil_iff.mp e
        subst this
        rw [List.append_nil] at q
        exact k _ _ _ _ q (made_d s (.tup s1 r1))
/-! ### an item -/
abbrev ixD : RD2 := fun a b Q => ∃ i, b = .int i ∧ ((∃ xs d, (a = .lst xs ∨ a = .ro xs) ∧ atI xs i = some d ∧ Q (.d d)))
theorem op2_ixL : Op2 K (rIxL K) ixD := fun x y a b F H Q Qd s rx ry ⟨i, e, xs, d, ha, at', q⟩ k => by
  subst e
  cases ry
  rcases ha with rfl | rfl
  · cases rx with
    | lst s1 r1 => obtain ⟨v, e1, r⟩ := r1.ats at'; exact ⟨_, _, i, v, rfl, rfl, s.seq (SqL.of s1), e1, k _ _ _ _ q (made_d s r)⟩
  · cases rx with
    | ro s1 r1 => obtain ⟨v, e1, r⟩ := r1.ats at'; exact ⟨_, _, i, v, rfl, rfl, s.seq s1, e1, k _ _ _ _ q (made_d s r)⟩
theorem op2_ixT : Op2 K (rIxT K) (fun a b Q => ∃ xs i d, a = .tup xs ∧ b = .int i ∧ atI xs i = some d ∧ Q (.d d)) := fun x y a b F H Q Qd s rx ry ⟨xs, i, d, e1, e2, at', q⟩ k => by
  subst e1 e2
  cases ry
  cases rx with
  | tup s1 r1 => obtain ⟨v, e1, r⟩ := r1.ats at'; exact ⟨_, _, i, v, rfl, rfl, SqT.of (s _ _ s1), e1, k _ _ _ _ q (made_d s r)⟩
theorem strOk_one {z : Str} {c : Nat} (h : PyData.strOk z = true) (e : c ∈ z.cps.toList) : PyData.strOk ⟨#[c]⟩ = true := by
  unfold PyData.strOk at *
  rw [Array.all_eq_true] at h
  obtain ⟨i, hi, rfl⟩ := List.mem_iff_getElem.mp e
  have := h i (by simpa using hi)
  simpa using this
theorem op2_ixS : Op2 K rIxS (fun a b Q => ∃ z i c, a = .str z ∧ b = .int i ∧ z.length ≤ sizeLine ∧ atI z.cps.toList i = some c ∧ Q (.d (.str ⟨#[c]⟩))) := fun x y a b F H Q Qd s rx ry ⟨z, i, c, e1, e2, hz, at', q⟩ k => by
  subst e1 e2
  cases ry
  cases rx with
  | str k1 =>
    refine ⟨z, i, c, rfl, rfl, hz, at', k _ _ _ _ q (made_d s (.str (strOk_one k1 ?_)))⟩
    unfold atI at at'
    cases q : ixN z.cps.toList.length i with
    | none => rw [q] at at'; cases at'
    | some j => rw [q] at at'; exact List.mem_of_getElem? at'
end
section
variable {X : Cx} {c : Fc} {W : WX}
theorem pd_ix {a b : Expr} {r : R2} {rd : RD2} {ta tb : TD} {pos : Pos} (ho : IxR X r) (hd : Op2 X.K r rd) (ha : PE X a (LE X.K c W ta)) (hb : PE X b (LE X.K c W tb)) (hs : PlainIx b) : PE X (.Subscript a b pos) (LE X.K c W (opD rd ta tb)) :=
  PE_imp (pe_ix ho ha hb hs) (lift_op hd)
/-- of an own list in slot i -/
def ixO (i : Nat) (t : TD) : TD := fun δ Q E => ∃ o, δ[i]? = some (some (.own o)) ∧ t δ (fun k δ1 => ∃ xs j d, δ1[i]? = some (some (.own (.lst xs))) ∧ k.toD = .int j ∧ atI xs j = some d ∧ Q (.d d) δ1) E
theorem pd_ixO {i : Nat} {x : Str} {b : Expr} {t : TD} {pos px : Pos} (ha : PE X (.Name x px) (tVar i)) (hb : PE X b (LE X.K c W t)) (hs : PlainIx b) : PE X (.Subscript (.Name x px) b pos) (LE X.K c W (ixO i t)) :=
  PE_imp (pe_ix ix_list ha hb hs) fun σ H Q ⟨δ, tmp, Qd, Ed, ⟨F, ow, S⟩, ⟨o, eo, q⟩, k, w⟩ => by
    obtain ⟨v, e1, p, rfl, _⟩ := S.sl _ _ eo
    refine ⟨_, e1, δ, tmp, _, Ed, ⟨F, ow, S⟩, q, fun u y δ1 H1 ⟨xs, j, d, ei, ej, ed, q1⟩ ⟨F1, ow1, S1⟩ => ?_, w⟩
    obtain ⟨F2, S2, _⟩ := S1.top_frz
    obtain ⟨v', e2, p', rfl, _, _, _, vs, ep, r⟩ := S2.sl _ _ ei
    rw [e1] at e2
    cases e2
    rw [ej] at S2
    obtain ⟨z, ez, rz⟩ := r.ats ed
    cases S2.top
    exact ⟨p, vs, j, z, rfl, rfl, SqL.of ep, ez, k _ _ _ _ q1 ⟨F2, ow1, S2.pop.push rz⟩⟩
/-! ### built-ins -/
abbrev RDN := List D → (DV → Prop) → Prop
abbrev RDNs := List D → (D → Prop) → Prop
def CallN (K : PySem.W.Frag) (r : List V → Hp → VK → Prop) (rd : RDN) : Prop := ∀ xs ds F H Q Qd, Same F H → RepL K F xs ds → rd ds Qd → (∀ v dv F' H', Qd dv → Made K F H F' H' v dv → Q v H') → r xs H Q
def CallNs (K : PySem.W.Frag) (r : List V → Hp → VK → Prop) (rd : RDNs) : Prop := ∀ xs ds F H Q Qd, Same F H → RepL K F xs ds → rd ds Qd → (∀ v z, Qd z → z.sc = some v → Q v H) → r xs H Q
theorem CallNs.op {K : PySem.W.Frag} {r : List V → Hp → VK → Prop} {rd : RDNs} (h : CallNs K r rd) : CallN K r (fun ds Q => rd ds fun z => NoStr z ∧ Q (.d z)) := fun xs ds F H Q Qd s rx q k =>
  h xs ds F H Q _ s rx q fun v z ⟨n, qz⟩ e => k v _ F H qz (made_d s (sc_rep n e))
def builtD (rd : RDN) (ta : TDA) : TD := fun δ Q E => ta δ (fun as δ1 => ∃ ds, as = ds.map .d ∧ rd ds fun z => Q z δ1) E
theorem args_d {K : PySem.W.Frag} {F : Hp} {σ : L2.St} : ∀ {ds : List D} {vs : List V}, RepArgs K F σ vs (ds.map .d) → RepL K F vs ds
  | [], _, .nil => .nil
  | _ :: _, _, .d h t => .cons h (args_d t)
theorem lift_built {r : List V → Hp → VK → Prop} {rd : RDN} {ta : TDA} {K : PySem.W.Frag} (hd : CallN K r rd) : ∀ σ H Q, LE K c W (builtD rd ta) σ H Q → tCB r (LA K c W ta) σ H Q := fun σ H Q ⟨δ, tmp, Qd, Ed, S, t, k, w⟩ =>
  ⟨δ, tmp, _, Ed, S, t, fun vs as δ1 F ow H1 ⟨ds, e, q⟩ S1 ra => by
    subst e
    exact hd _ _ F H1 Q _ S1.fh (args_d ra) q fun v dv F' H' q' m => k _ _ _ _ q' (m.stt S1), w⟩
theorem pd_builtB {x : Str} {e : Expr} {es : List Expr} {p pos : Pos} {r : List V → Hp → VK → Prop} {rd : RDN} {ta : TDA} (h : ∀ {t : TA}, PA X (e :: es) t → PE X (.Call (.Name x p) (e :: es) [] pos) (tCB r t)) (hd : CallN X.K r rd) (ha : PA X (e :: es) (LA X.K c W ta)) :
    PE X (.Call (.Name x p) (e :: es) [] pos) (LE X.K c W (builtD rd ta)) := PE_imp (h ha) (lift_built hd)
/-- of the own list in slot i alone -/
def builtO (i : Nat) (rd : RDNs) : TD := fun δ Q _ => ∃ xs, δ[i]? = some (some (.own (.lst xs))) ∧ rd [.lst xs] fun z => NoStr z ∧ Q (.d z) δ
theorem pd_builtO {i : Nat} {x y : Str} {p pos py : Pos} {r : List V → Hp → VK → Prop} {rd : RDNs} (h : ∀ {t : TA}, PA X [.Name y py] t → PE X (.Call (.Name x p) [.Name y py] [] pos) (tCB r t)) (hd : CallNs X.K r rd) (hv : PE X (.Name y py) (tVar i)) (hs : starEach [.Name y py] X.env = (false, eval (.Name y py) X.env) :: starEach [] X.env := by rfl) :
    PE X (.Call (.Name x p) [.Name y py] [] pos) (LE X.K c W (builtO i rd)) := PE_imp (h (pa_cons hv pa_nil hs)) fun σ H Q ⟨δ, tmp, Qd, Ed, ⟨F, ow, S⟩, ⟨xs, ei, q⟩, k, w⟩ => by
  obtain ⟨v, e1, p, rfl, _, n, _, r⟩ := S.sl _ _ ei
  obtain ⟨u, eu, r'⟩ := OwnRep.freeze (o := .lst xs) r n S.fh
  exact ⟨_, e1, hd _ _ (upd F p u) H Q _ (same_upd1 S.fh eu) (.cons r' .nil) q fun v z ⟨n, qz⟩ e => k v _ _ _ qz ⟨F, ow, S.push (sc_rep n e)⟩⟩
end
section
variable {K : PySem.W.Frag} {F F' H H' : Hp} {v : V} {d : D}
abbrev lenS : RDNs := fun ds Q => ∃ a xs, ds = [a] ∧ a.its = some xs ∧ Q (.int xs.length)
theorem cn_len : CallNs K (fun xs H Q => ∃ p ys, xs = [.ref p] ∧ (SqL K H p ys ∨ SqT K H p ys) ∧ Q (.int ys.length) H) lenS := fun xs ds F H Q Qd s r ⟨a, ys, e1, e2, q⟩ k => by
  subst e1
  cases r with
  | cons r t =>
    cases t
    obtain ⟨p, vs, rfl, h, r2⟩ := r.row e2
    rw [← r2.len] at q
    exact ⟨p, vs, rfl, sq_mono s h, k _ _ q rfl⟩
abbrev lenStr : RDNs := fun ds Q => ∃ z, ds = [.str z] ∧ z.length ≤ sizeLine ∧ Q (.int z.length)
theorem cn_lenS : CallNs K (fun xs H Q => ∃ z, xs = [.str z] ∧ z.length ≤ sizeLine ∧ Q (.int z.length) H) lenStr := fun xs ds F H Q Qd s r ⟨z, e1, hz, q⟩ k => by
  subst e1
  cases r with
  | cons r t => cases t; cases r; exact ⟨z, rfl, hz, k _ _ q rfl⟩
abbrev int1S : RDNs := fun ds Q => ∃ i, ds = [.int i] ∧ Q (.int i)
theorem cn_int : CallNs K (fun xs H Q => (∃ i, xs = [.int i] ∧ Q (.int i) H) ∨ ∃ k, xs = [.bl k] ∧ Q (.int (if k then 1 else 0)) H) int1S := fun xs ds F H Q Qd s r ⟨i, e1, q⟩ k => by
  subst e1
  cases r with
  | cons r t => cases t; cases r; exact .inl ⟨i, rfl, k _ _ q rfl⟩
abbrev absS : RDNs := fun ds Q => ∃ i, ds = [.int i] ∧ Q (.int (if i < 0 then -i else i))
theorem cn_abs : CallNs K (fun xs H Q => ∃ i, xs = [.int i] ∧ Q (.int (if i < 0 then -i else i)) H) absS := fun xs ds F H Q Qd s r ⟨i, e1, q⟩ k => by
  subst e1
  cases r with
  | cons r t => cases t; cases r; exact ⟨i, rfl, k _ _ q rfl⟩
abbrev two (f : Int → Int → Int) : RDNs := fun ds Q => ∃ i j, ds = [.int i, .int j] ∧ Q (.int (f i j))
theorem cn_two {f : Int → Int → Int} : CallNs K (fun xs H Q => ∃ i j, xs = [.int i, .int j] ∧ Q (.int (f i j)) H) (two f) := fun xs ds F H Q Qd s r ⟨i, j, e1, q⟩ k => by
  subst e1
  cases r with
  | cons r t =>
    cases t with
    | cons r2 t => cases t; cases r; cases r2; exact ⟨i, j, rfl, k _ _ q rfl⟩
theorem repL_map {f : α → V} {g : α → D} (h : ∀ {F v a}, Rep K F v (g a) → v = f a) : ∀ {l : List α} {vs : List V}, RepL K F vs (l.map g) → vs = l.map f
  | [], _, .nil => rfl
  | a :: l, _, .cons r t => by rw [h r, repL_map h t]; rfl
theorem repL_int {l : List Int} {vs : List V} (r : RepL K F vs (l.map .int)) : vs = l.map V.int := repL_map (fun r => by cases r; rfl) r
theorem repL_bl {l : List Bool} {vs : List V} (r : RepL K F vs (l.map .bl)) : vs = l.map V.bl := repL_map (fun r => by cases r; rfl) r
abbrev allS (f : List Bool → Bool) : RDNs := fun ds Q => ∃ bs, (ds = [.lst (bs.map .bl)] ∨ ds = [.ro (bs.map .bl)]) ∧ Q (.bl (f bs))
theorem rep_lst {p : V} {xs : List D} (s : Same F H) (h : ([.lst xs] = ds) ∨ ([.ro xs] = ds)) {vs : List V} (r : RepL K F vs ds) : ∃ a ys, vs = [.ref a] ∧ SqL K H a ys ∧ RepL K F ys xs := by
  rcases h with rfl | rfl
  · cases r with
    | cons r t => cases t; cases r with
      | lst s1 r1 => exact ⟨_, _, rfl, s.seq (SqL.of s1), r1⟩
  · cases r with
    | cons r t => cases t; cases r with
      | ro s1 r1 => exact ⟨_, _, rfl, s.seq s1, r1⟩
theorem cn_all : CallNs K (rAll K) (allS fun bs => bs.all id) := fun xs ds F H Q Qd s r ⟨bs, e, q⟩ k => by
  obtain ⟨a, ys, rfl, h, r2⟩ := rep_lst (p := .non) s (e.imp Eq.symm Eq.symm) r
  cases repL_bl r2
  exact ⟨a, bs, rfl, h, k _ _ q rfl⟩
theorem cn_any : CallNs K (rAny K) (allS fun bs => bs.any id) := fun xs ds F H Q Qd s r ⟨bs, e, q⟩ k => by
  obtain ⟨a, ys, rfl, h, r2⟩ := rep_lst (p := .non) s (e.imp Eq.symm Eq.symm) r
  cases repL_bl r2
  exact ⟨a, bs, rfl, h, k _ _ q rfl⟩
abbrev sumS : RDNs := fun ds Q => ∃ ns : List Int, (ds = [.lst (ns.map .int)] ∨ ds = [.ro (ns.map .int)]) ∧ Q (.int ns.sum)
theorem cn_sum : CallNs K (rSum K) sumS := fun xs ds F H Q Qd s r ⟨bs, e, q⟩ k => by
  obtain ⟨a, ys, rfl, h, r2⟩ := rep_lst (p := .non) s (e.imp Eq.symm Eq.symm) r
  cases repL_int r2
  exact ⟨a, bs, rfl, h, k _ _ q rfl⟩
abbrev extS (P : Int → Int → Prop) : RDNs := fun ds Q => ∃ ns : List Int, (ds = [.lst (ns.map .int)] ∨ ds = [.ro (ns.map .int)]) ∧ 0 < ns.length ∧ ∀ m, m ∈ ns → (∀ y, y ∈ ns → P y m) → Q (.int m)
theorem cn_max : CallNs K (rMax K) (extS fun y m => y ≤ m) := fun xs ds F H Q Qd s r ⟨bs, e, z, q⟩ k => by
  obtain ⟨a, ys, rfl, h, r2⟩ := rep_lst (p := .non) s (e.imp Eq.symm Eq.symm) r
  cases repL_int r2
  exact ⟨a, bs, rfl, h, z, fun m hm hy => k _ _ (q m hm hy) rfl⟩
theorem cn_min : CallNs K (rMin K) (extS fun y m => m ≤ y) := fun xs ds F H Q Qd s r ⟨bs, e, z, q⟩ k => by
  obtain ⟨a, ys, rfl, h, r2⟩ := rep_lst (p := .non) s (e.imp Eq.symm Eq.symm) r
  cases repL_int r2
  exact ⟨a, bs, rfl, h, z, fun m hm hy => k _ _ (q m hm hy) rfl⟩
/-- isinstance -/
inductive ClsD : D → Value → Prop where
  | ty (n : String) : ClsD (.ty n) (.type n)
  | own (C : Addr) : ClsD (.adr C) (.ref C)
inductive TyD (K : PySem.W.Frag) : D → Value → Prop where
  | non : TyD K .non (.type "NoneType")
  | bl (b : Bool) : TyD K (.bl b) (.type "bool")
  | int (i : Int) : TyD K (.int i) (.type "int")
  | str (x : Str) : TyD K (.str x) (.type "str")
  | lst (xs : List D) : TyD K (.lst xs) (.type "list")
  | tup (xs : List D) : TyD K (.tup xs) (.type "tuple")
  | rot (xs : List D) : TyD K (.rot xs) (.type "tuple")
  | obj {C : Addr} {fs : List (Str × D)} (cl : Cls K C) (i : SlX.SIsi K C) : TyD K (.obj C fs) (.ref C)
theorem sqt_ty {p : Addr} {vs : List V} (h : SqT K H p vs) : TyX K H (.ref p) (.type "tuple") := by
  rcases h with (h | ⟨o, h⟩) | ⟨o, its, n, e, cl, _⟩
  · exact .base (.tup h)
  · exact .fTuple h
  · exact .kTuple e cl
theorem tyD_x {t : Value} (s : Same F H) (r : Rep K F v d) (h : TyD K d t) : TyX K H v t := by
  cases h with
  | non => cases r; exact .base .non
  | bl b => cases r; exact .base (.bl b)
  | int i => cases r; exact .base (.int i)
  | str x => cases r; exact .base (.str x)
  | lst xs => cases r with | lst s1 _ => exact .base (.lst (s _ _ s1))
  | tup xs => cases r with | tup s1 _ => exact .base (.tup (s _ _ s1))
  | rot xs => cases r with | rot s1 _ => exact sqt_ty (sqt_mono s s1)
  | obj cl i => cases r with | obj s1 _ => exact .base (.ins (s _ _ s1) cl i.ca i.cn i.ct i.cm)
theorem clsD_v {u : Value} (r : Rep K F v d) (h : ClsD d u) : ClsV v u := by
  cases h with
  | ty n => cases r; exact .ty n
  | own C => cases r; exact .own C
abbrev isiS (K : PySem.W.Frag) : RDNs := fun ds Q => ∃ x c t u b, ds = [x, c] ∧ ClsD c u ∧ TyD K x t ∧ PySem.W.kitOne K t u = some b ∧ Q (.bl b)
theorem cn_isi : CallNs K (rIsi K) (isiS K) := fun xs ds F H Q Qd s r ⟨x, c, t, u, b, e, hc, ht, hk, q⟩ k => by
  subst e
  cases r with
  | cons r t =>
    cases t with
    | cons r2 t => cases t; exact ⟨_, _, _, u, b, rfl, clsD_v r2 hc, tyD_x s r ht, hk, k _ _ q rfl⟩
/-- of several classes -/
inductive ClsDs : List D → List Value → Prop where
  | nil : ClsDs [] []
  | cons {d : D} {u : Value} {ds : List D} {us : List Value} (h : ClsD d u) (t : ClsDs ds us) : ClsDs (d :: ds) (u :: us)
theorem clsDs_v : ∀ {ds : List D} {us : List Value} {vs : List V}, RepL K F vs ds → ClsDs ds us → Paired ClsV vs us
  | _, _, _, .nil, .nil => .nil
  | _, _, _, .cons r t, .cons h u => .cons (clsD_v r h) (clsDs_v t u)
/-- list(row), tuple(row) -/
abbrev listN : RDN := fun ds Q => ∃ a xs, ds = [a] ∧ a.its = some xs ∧ Q (.own (.lst xs))
theorem cn_list : CallN K (fun xs H Q => ∃ p ys, xs = [.ref p] ∧ (SqL K H p ys ∨ SqT K H p ys) ∧ ∀ l, H l = none → Q (.ref l) (upd H l (.lst ys))) listN := fun xs ds F H Q Qd s r ⟨a, ys, e1, e2, q⟩ k => by
  subst e1
  cases r with
  | cons r t =>
    cases t
    obtain ⟨p, vs, rfl, h, r2⟩ := r.row e2
    exact ⟨p, vs, rfl, sq_mono s h, fun l n => k _ _ _ _ q (made_list n s r2)⟩
abbrev tupleN : RDN := fun ds Q => ∃ a xs, ds = [a] ∧ (a = .lst xs ∨ a = .ro xs ∨ a = .tup xs) ∧ Q (.d (.tup xs))
theorem cn_tuple : CallN K (fun xs H Q => ∃ p ys, xs = [.ref p] ∧ ((SqL K H p ys ∧ ∀ l, H l = none → Q (.ref l) (upd H l (.tup ys))) ∨ (SqT K H p ys ∧ Q (.ref p) H))) tupleN := fun xs ds F H Q Qd s r ⟨a, ys, e1, e2, q⟩ k => by
  subst e1
  cases r with
  | cons r t =>
    cases t
    rcases e2 with rfl | rfl | rfl
    · cases r with | lst s1 r1 => exact ⟨_, _, rfl, .inl ⟨s.seq (SqL.of s1), fun l n => k _ _ _ _ q (made_tup n s r1)⟩⟩
    · cases r with | ro s1 r1 => exact ⟨_, _, rfl, .inl ⟨s.seq s1, fun l n => k _ _ _ _ q (made_tup n s r1)⟩⟩
    · cases r with | tup s1 r1 => exact ⟨_, _, rfl, .inr ⟨SqT.of (s _ _ s1), k _ _ _ _ q (made_d s (.tup s1 r1))⟩⟩
end
end DL

set_option Elab.async false
set_option linter.all false
set_option maxRecDepth 100000
namespace DL
open PySem PySem.Spec PyProof.Rows L2
section
variable {X : Cx} {c : Fc} {W : WX}
/-! ### displays, unary, chains, truth -/
def tupD (ta : TDA) : TD := fun δ Q E => ta δ (fun as δ1 => ∃ ds, as = ds.map .d ∧ ds.length ≤ sizeLine ∧ Q (.d (.tup ds)) δ1) E
theorem pd_tup {es : List Expr} {ta : TDA} {k : Nat} {pos : Pos} (h : ∀ {t : TA}, PA X es t → PE X (.Tuple es k pos) (tTup t)) (ha : PA X es (LA X.K c W ta)) : PE X (.Tuple es k pos) (LE X.K c W (tupD ta)) :=
  PE_imp (h ha) fun σ H Q ⟨δ, tmp, Qd, Ed, S, t, k, w⟩ => ⟨δ, tmp, _, Ed, S, t, fun vs as δ1 F ow H1 ⟨ds, e, hz, q⟩ S1 ra => by
    subst e
    have r := args_d ra
    exact ⟨by rw [r.len]; exact hz, fun p n => k _ _ _ _ q ((made_tup n S1.fh r).stt S1)⟩, w⟩
def lstD (ta : TDA) : TD := fun δ Q E => ta δ (fun as δ1 => ∃ ds, as = ds.map .d ∧ ds.length ≤ sizeLine ∧ Q (.own (.lst ds)) δ1) E
theorem pd_lst {es : List Expr} {ta : TDA} {pos : Pos} (h : ∀ {t : TA}, PA X es t → PE X (.List es pos) (tLst t)) (ha : PA X es (LA X.K c W ta)) : PE X (.List es pos) (LE X.K c W (lstD ta)) :=
  PE_imp (h ha) fun σ H Q ⟨δ, tmp, Qd, Ed, S, t, k, w⟩ => ⟨δ, tmp, _, Ed, S, t, fun vs as δ1 F ow H1 ⟨ds, e, hz, q⟩ S1 ra => by
    subst e
    have r := args_d ra
    exact ⟨by rw [r.len]; exact hz, fun p n => k _ _ _ _ q ((made_list n S1.fh r).stt S1)⟩, w⟩
def negD (t : TD) : TD := fun δ Q E => t δ (fun x δ1 => ∃ i, x.toD = .int i ∧ Q (.d (.int (-i))) δ1) E
theorem pd_neg {e : Expr} {t : TD} {pos : Pos} (he : PE X e (LE X.K c W t)) : PE X (.UnaryOp .USub e pos) (LE X.K c W (negD t)) :=
  PE_imp (pe_un un_neg he) fun σ H Q ⟨δ, tmp, Qd, Ed, S, t, k, w⟩ => ⟨δ, tmp, _, Ed, S, t, fun v x δ1 H1 ⟨i, e, q⟩ ⟨F, ow, S1⟩ => by
    obtain ⟨F2, S2, _⟩ := S1.top_frz
    rw [e] at S2
    cases S2.top
    exact ⟨i, rfl, k _ _ _ _ q ⟨F2, ow, S2.pop.push (.int _)⟩⟩, w⟩
def chainD (rd rd' : RD2) (ta tb tc : TD) : TD := fun δ Q E => ta δ (fun x δ1 => tb δ1 (fun y δ2 => rd x.toD y.toD fun z => ∃ k, z = .d (.bl k) ∧ if k = true then tc δ2 (fun w δ3 => rd' y.toD w.toD fun z' => Q z' δ3) E else Q (.d (.bl false)) δ2) E) E
theorem pd_chain {a b e : Expr} {op op' : CmpOp} {r r' : R2} {rd rd' : RD2} {ta tb tc : TD} {pos : Pos} (ho : OpR X (compareOp op) r) (hd : Op2 X.K r rd) (ho' : OpR X (compareOp op') r') (hd' : Op2 X.K r' rd') (ha : PE X a (LE X.K c W ta)) (hb : PE X b (LE X.K c W tb)) (hc : PE X e (LE X.K c W tc)) (hm : lastMarks [op, op'] [b, e] = false := by rfl) :
    PE X (.Compare a [op, op'] [b, e] pos) (LE X.K c W (chainD rd rd' ta tb tc)) := PE_imp (pe_chain ho ho' ha hb hc (hm := hm)) fun σ H Q ⟨δ, tmp, Qd, Ed, S, t, k, w⟩ => by
  refine ⟨δ, tmp, _, Ed, S, t, fun x a δ1 H1 t1 S1 => ?_, w⟩
  refine ⟨δ1, _, _, Ed, S1, t1, fun y b δ2 H2 t2 ⟨F, ow, S2⟩ => ?_, w.push⟩
  obtain ⟨F', S3, _⟩ := S2.top_frz2
  refine hd x y _ _ F' H2 _ _ S3.fh S3.pop.top S3.top t2 fun v dv F2 H3 ⟨kk, e, q⟩ m => ?_
  subst e
  cases m with
  | d e r =>
    cases r
    refine ⟨kk, rfl, ?_⟩
    have S4 := S3.ext e
    cases kk with
    | false => exact k _ _ _ _ q ⟨F2, ow, S4.pop.pop.push (.bl _)⟩
    | true =>
      have S5 : SttF X.K c F2 ow δ2 ((y, .d b.toD) :: tmp) σ H3 := S4.pop.pop.push S4.top
      refine ⟨δ2, _, _, Ed, ⟨F2, ow, S5⟩, q, fun u z δ3 H4 q2 ⟨F5, ow5, S6⟩ => ?_, w.push⟩
      obtain ⟨F7, S7, s7⟩ := S6.top_frz
      exact hd' y u _ _ F7 H4 Q _ S7.fh S7.pop.top S7.top q2 fun v dv F8 H5 q3 m => k _ _ _ _ q3 (m.stt S7.pop.pop)
/-- a test whose value is a bool -/
def tvD (t : TD) : TDT := fun δ Q E => boolE t Q E δ
theorem ptd_val {e : Expr} {t : TD} (he : PE X e (LE X.K c W t)) (h : ∀ {t : TE}, PE X e t → PT X e (tB t)) : PT X e (LT X.K c W (tvD t)) :=
  PT_imp (h he) fun σ H Q ⟨δ, tmp, Qd, Ed, S, q, k, w⟩ => ⟨δ, tmp, _, _, S, q, fun v x δ' H' ⟨b, e, q'⟩ ⟨F, ow, S'⟩ => by
    subst e
    cases S'.top
    exact ⟨b, rfl, k _ _ _ q' ⟨F, ow, S'.pop⟩⟩, w⟩
/-! ### what is walked -/
/-- from turn i on the iterator J hands back the items: whatever grows, while src stands for v -/
structure Serve (K : PySem.W.Frag) (J : It) (v : V) (src : D) (items : List D) : Prop where
  go : ∀ (i : Nat) (F H : Hp), Same F H → Rep K F v src → i < items.length → J.go i H
  stop : ∀ (i : Nat) (F H : Hp), Same F H → Rep K F v src → items.length ≤ i → J.stop i H
  yld : ∀ (i : Nat) (F H : Hp) (x : V) (H' : Hp), Same F H → Rep K F v src → J.yld i H x H' → ∀ d, items[i]? = some d → ∃ F', Ext F H F' H' ∧ Rep K F' x d
abbrev TDI := DSt → (List D → DSt → Prop) → XD → Prop
def LI (K : PySem.W.Frag) (c : Fc) (W : WX) (t : TDI) : TI := fun σ H R => ∃ δ tmp Qd Ed, Stt K c δ tmp σ H ∧ t δ Qd Ed ∧ (∀ J v src items δ' H', Qd items δ' → Serve K J v src items → Stt K c δ' ((v, .d src) :: tmp) σ H' → R J H') ∧ WD K c W tmp Ed
theorem PI_imp {tg e : Expr} {t t' : TI} (h : PI X tg e t) (f : ∀ σ H R, t' σ H R → t σ H R) : PI X tg e t' := ⟨fun pins s σ H R I q => h.run pins s σ H R I (f _ _ _ q)⟩
theorem serve_list {K : PySem.W.Frag} {p : Addr} {src : D} {items : List D} (e : src = .lst items ∨ src = .ro items) : Serve K (Itl K p) (.ref p) src items := by
  have sq : ∀ {F H : Hp}, Same F H → Rep K F (.ref p) src → ∃ vs, SqL K H p vs ∧ RepL K F vs items := fun {F H} s r => by
    rcases e with rfl | rfl
    · cases r with | lst s1 r1 => exact ⟨_, s.seq (SqL.of s1), r1⟩
    · cases r with | ro s1 r1 => exact ⟨_, s.seq s1, r1⟩
  refine ⟨fun i F H s r hi => ?_, fun i F H s r hi => ?_, fun i F H x H' s r y d hd => ?_⟩
  · obtain ⟨vs, h, rl⟩ := sq s r
    obtain ⟨v, e, _⟩ := rl.get (List.getElem?_eq_getElem hi)
    exact ⟨vs, v, h, e⟩
  · obtain ⟨vs, h, rl⟩ := sq s r
    exact ⟨vs, h, by rw [rl.len]; exact hi⟩
  · obtain ⟨vs, h, rl⟩ := sq s r
    obtain ⟨rfl, y⟩ := y
    obtain ⟨v, e, rv⟩ := rl.get hd
    rw [y vs h] at e
    cases e
    exact ⟨F, Ext.refl s, rv⟩
theorem serve_tup {K : PySem.W.Frag} {p : Addr} {items : List D} : Serve K (Itt K p) (.ref p) (.tup items) items := by
  have sq : ∀ {F H : Hp}, Same F H → Rep K F (.ref p) (.tup items) → ∃ vs, SqT K H p vs ∧ RepL K F vs items := fun {F H} s r => by
    cases r with | tup s1 r1 => exact ⟨_, SqT.of (s _ _ s1), r1⟩
  refine ⟨fun i F H s r hi => ?_, fun i F H s r hi => ?_, fun i F H x H' s r y d hd => ?_⟩
  · obtain ⟨vs, h, rl⟩ := sq s r
    obtain ⟨v, e, _⟩ := rl.get (List.getElem?_eq_getElem hi)
    exact ⟨vs, v, h, e⟩
  · obtain ⟨vs, h, rl⟩ := sq s r
    exact ⟨vs, h, by rw [rl.len]; exact hi⟩
  · obtain ⟨vs, h, rl⟩ := sq s r
    obtain ⟨rfl, y⟩ := y
    obtain ⟨v, e, rv⟩ := rl.get hd
    rw [y vs h] at e
    cases e
    exact ⟨F, Ext.refl s, rv⟩
def listI (t : TD) : TDI := fun δ Q E => t δ (fun x δ1 => ∃ xs, (x.toD = .lst xs ∨ x.toD = .ro xs) ∧ Q xs δ1) E
def tupI (t : TD) : TDI := fun δ Q E => t δ (fun x δ1 => ∃ xs, x.toD = .tup xs ∧ Q xs δ1) E
def strI (t : TD) : TDI := fun δ Q E => t δ (fun x δ1 => ∃ z, x.toD = .str z ∧ Q (z.cps.toList.map fun ch => .str ⟨#[ch]⟩) δ1) E
theorem pid_list {tg e : Expr} {t : TD} (he : PE X e (LE X.K c W t)) : PI X tg e (LI X.K c W (listI t)) :=
  PI_imp (pi_list he) fun σ H R ⟨δ, tmp, Qd, Ed, S, q, k, w⟩ => ⟨δ, tmp, _, _, S, q, fun v x δ' H' ⟨xs, e, q'⟩ ⟨F, ow, S'⟩ => by
    obtain ⟨F2, S2, _⟩ := S'.top_frz
    obtain ⟨p, vs, rfl, h, r⟩ := S2.top.row (xs := xs) (by rcases e with e | e <;> rw [e] <;> rfl)
    have h' : ∃ xs, SqL X.K H' p xs := by
      have r0 := S2.top
      rcases e with e | e
      · rw [e] at r0; cases r0 with | lst s1 _ => exact ⟨_, S2.fh.seq (SqL.of s1)⟩
      · rw [e] at r0; cases r0 with | ro s1 _ => exact ⟨_, S2.fh.seq s1⟩
    exact ⟨p, rfl, h', k _ _ _ xs _ _ q' (serve_list e) ⟨F2, ow, S2⟩⟩, w⟩
theorem pid_tup {tg e : Expr} {t : TD} (he : PE X e (LE X.K c W t)) : PI X tg e (LI X.K c W (tupI t)) :=
  PI_imp (pi_tup he) fun σ H R ⟨δ, tmp, Qd, Ed, S, q, k, w⟩ => ⟨δ, tmp, _, _, S, q, fun v x δ' H' ⟨xs, e, q'⟩ ⟨F, ow, S'⟩ => by
    obtain ⟨F2, S2, _⟩ := S'.top_frz
    rw [e] at S2
    have r0 := S2.top
    cases r0 with
    | tup s1 _ => exact ⟨_, rfl, ⟨_, SqT.of (S2.fh _ _ s1)⟩, k _ _ _ xs _ _ q' serve_tup ⟨F2, ow, S2⟩⟩, w⟩
theorem pid_str {tg e : Expr} {t : TD} (he : PE X e (LE X.K c W t)) : PI X tg e (LI X.K c W (strI t)) :=
  PI_imp (pi_str he) fun σ H R ⟨δ, tmp, Qd, Ed, S, q, k, w⟩ => ⟨δ, tmp, _, _, S, q, fun v x δ' H' ⟨z, e, q'⟩ ⟨F, ow, S'⟩ => by
    obtain ⟨F2, S2, _⟩ := S'.top_frz
    rw [e] at S2
    have r0 := S2.top
    cases r0 with
    | str k1 =>
      refine ⟨z, rfl, k _ _ _ _ _ _ q' ⟨fun i F H s r hi => ?_, fun i F H s r hi => ?_, fun i F H x H' s r y d hd => ?_⟩ ⟨F2, ow, S2⟩⟩
      · show i < z.cps.size
        simpa using hi
      · show z.cps.size ≤ i
        simpa using hi
      · obtain ⟨rfl, ch, hc, rfl⟩ := y
        have hc' : z.cps.toList[i]? = some ch := by simpa using hc
        rw [List.getElem?_map, hc'] at hd
        cases hd
        exact ⟨F, Ext.refl s, .str (strOk_one k1 (List.mem_of_getElem? hc'))⟩, w⟩
def upto (lo : Int) (n : Nat) : List D := (List.range n).map fun k => .int (lo + (k : Nat))
theorem serve_range {K : PySem.W.Frag} {lo : Int} {n : Nat} {v : V} {src : D} : Serve K (Itr lo n) v src (upto lo n) := by
  have hl : (upto lo n).length = n := by simp [upto]
  refine ⟨fun i F H s r hi => ?_, fun i F H s r hi => ?_, fun i F H x H' s r y d hd => ?_⟩
  · rw [hl] at hi; exact hi
  · rw [hl] at hi; exact hi
  · obtain ⟨rfl, rfl⟩ := y
    unfold upto at hd
    rw [List.getElem?_map] at hd
    cases q : (List.range n)[i]? with
    | none => rw [q] at hd; cases hd
    | some j =>
      rw [q] at hd
      cases hd
      have : j = i := by
        have := (List.getElem?_eq_some_iff.mp q).2
        simpa using this.symm
      subst this
      exact ⟨F, Ext.refl s, .int _⟩
def range1I (ta : TDA) : TDI := fun δ Q E => ta δ (fun as δ1 => ∃ j, as = [.d (.int j)] ∧ -(2 ^ 62) ≤ j ∧ j < 2 ^ 62 ∧ Q (upto 0 j.toNat) δ1) E
def range2I (ta : TDA) : TDI := fun δ Q E => ta δ (fun as δ1 => ∃ i j, as = [.d (.int i), .d (.int j)] ∧ (-(2 ^ 62) ≤ i ∧ i < 2 ^ 62 ∧ -(2 ^ 62) ≤ j ∧ j < 2 ^ 62) ∧ Q (upto i (j - i).toNat) δ1) E
theorem pid_range1 {tg a : Expr} {ta : TDA} {p pos : Pos} (hg : Gl X "range") (hm : X.mg "range" = none) (ha : PA X [a] (LA X.K c W ta)) (hs : starEach [a] X.env = [(false, eval a X.env)] := by rfl) : PI X tg (.Call (.Name "range" p) [a] [] pos) (LI X.K c W (range1I ta)) :=
  PI_imp (pi_range1 hg hm ha hs) fun σ H R ⟨δ, tmp, Qd, Ed, S, q, k, w⟩ => ⟨δ, tmp, _, _, S, q, fun vs as δ' F ow H' ⟨j, e, h1, h2, q'⟩ S' ra => by
    subst e
    cases ra with
    | d h t => cases t; cases h; exact ⟨j, rfl, h1, h2, k _ .non .non _ _ _ q' serve_range ⟨F, ow, S'.push .non⟩⟩, w⟩
theorem pid_range2 {tg a b : Expr} {ta : TDA} {p pos : Pos} (hg : Gl X "range") (hm : X.mg "range" = none) (ha : PA X [a, b] (LA X.K c W ta)) (hs : starEach [a, b] X.env = [(false, eval a X.env), (false, eval b X.env)] := by rfl) (hs2 : starEach [b] X.env = [(false, eval b X.env)] := by rfl) : PI X tg (.Call (.Name "range" p) [a, b] [] pos) (LI X.K c W (range2I ta)) :=
  PI_imp (pi_range2 hg hm ha hs hs2) fun σ H R ⟨δ, tmp, Qd, Ed, S, q, k, w⟩ => ⟨δ, tmp, _, _, S, q, fun vs as δ' F ow H' ⟨i, j, e, h1, q'⟩ S' ra => by
    subst e
    cases ra with
    | d h t => cases t with
      | d h2 t => cases t; cases h; cases h2; exact ⟨i, j, rfl, h1, k _ .non .non _ _ _ q' serve_range ⟨F, ow, S'.push .non⟩⟩, w⟩
/-! ### targets -/
abbrev TDG := D → DSt → (DSt → Prop) → Prop
/-- a target, of frozen things -/
def LG (K : PySem.W.Frag) (c : Fc) (vs : List Nat) (g : TDG) : TG := fun v σ H Q => ∃ δ tmp x Qd, Stt K c δ ((v, .d x) :: tmp) σ H ∧ g x δ Qd ∧ ∀ δ' σ' H', Qd δ' → Stt K c δ' tmp σ' H' → wipe σ' vs = wipe σ vs → Q σ' H'
theorem wipe_set {σ : L2.St} {i : Nat} {x : Option V} : ∀ {vs : List Nat}, i ∈ vs → wipe (σ.set i x) vs = wipe σ vs
  | v :: vs, h => by
    unfold wipe
    by_cases e : i ∈ vs
    · rw [wipe_set e]
    · have : i = v := (List.mem_cons.mp h).elim id fun z => absurd z e
      subst this
      have aux : ∀ (vs : List Nat), (wipe (σ.set i x) vs).set i none = (wipe σ vs).set i none := fun vs => by
        induction vs with
        | nil => unfold wipe; rw [List.set_set]
        | cons a r ih =>
          unfold wipe
          by_cases q : a = i
          · subst q; rw [List.set_set, List.set_set]; exact ih
          · rw [List.set_comm _ _ q, List.set_comm _ _ q, ih]
      exact aux vs
theorem PG_imp {e : Expr} {t t' : TG} (h : PG X e t) (f : ∀ v σ H Q, t' v σ H Q → t v σ H Q) : PG X e t' := ⟨fun pins s σ H x u Q I r q => h.run pins s σ H x u Q I r (f _ _ _ _ q)⟩
def nameG (i : Nat) : TDG := fun x δ Q => Q (δ.set i (some (.d x)))
theorem pgd_name {i : Nat} {vs : List Nat} {e : Expr} (h : PG X e (gName i)) (ni : i ∉ c.sl) (iv : i ∈ vs) : PG X e (LG X.K c vs (nameG i)) :=
  PG_imp h fun v σ H Q ⟨δ, tmp, x, Qd, ⟨F, ow, S⟩, q, k⟩ => k _ _ _ q (S.set' ni) (wipe_set iv)
/-- the items of a tuple to names -/
def namesG : List Nat → List D → DSt → (DSt → Prop) → Prop
  | [], [], δ, Q => Q δ
  | i :: is, x :: xs, δ, Q => namesG is xs (δ.set i (some (.d x))) Q
  | _, _, _, _ => False
def tupG (is : List Nat) : TDG := fun x δ Q => ∃ xs, x = .tup xs ∧ namesG is xs δ Q
def gNames : List Nat → TGs
  | [] => gNil
  | i :: is => gCons (gName i) (gNames is)
theorem names_run {K : PySem.W.Frag} {c : Fc} {Q : L2.St → Hp → Prop} {tmp : List (V × DV)} {ws : List Nat} {w0 : L2.St} : ∀ {is : List Nat} {xs : List D} {vs : List V} {δ : DSt} {σ : L2.St} {F H : Hp} {ow : Addr → Option Hold} {Qd : DSt → Prop}, (∀ i ∈ is, i ∉ c.sl ∧ i ∈ ws) → wipe σ ws = w0 → SttF K c F ow δ tmp σ H → RepL K F vs xs → namesG is xs δ Qd → (∀ δ' σ' H', Qd δ' → Stt K c δ' tmp σ' H' → wipe σ' ws = w0 → Q σ' H') → gNames is vs σ H Q
  | [], [], _, δ, σ, F, H, ow, Qd, _, hw, S, .nil, q, k => ⟨rfl, k _ _ _ q ⟨F, ow, S⟩ hw⟩
  | i :: is, x :: xs, _, δ, σ, F, H, ow, Qd, hn, hw, S, .cons r t, q, k => by
    refine ⟨_, _, rfl, ?_⟩
    show gNames is _ _ H Q
    rcases Nat.lt_or_ge i δ.length with hi | hi
    · obtain ⟨ow', S'⟩ := (S.push r).set hi (hn i List.mem_cons_self).1
      exact names_run (fun j hj => hn j (List.mem_cons_of_mem _ hj)) ((wipe_set (hn i List.mem_cons_self).2).trans hw) S' t q k
    · have q' : namesG is xs (δ.set i (some (.d x))) Qd := q
      rw [List.set_eq_of_length_le hi] at q'
      rw [List.set_eq_of_length_le (by rw [S.len]; exact hi)]
      exact names_run (fun j hj => hn j (List.mem_cons_of_mem _ hj)) hw S t q' k
  | [], _ :: _, _, _, _, _, _, _, _, _, _, _, _, q, _ => q.elim
  | _ :: _, [], _, _, _, _, _, _, _, _, _, _, _, q, _ => q.elim
theorem names_len {Q : DSt → Prop} : ∀ {is : List Nat} {xs : List D} {δ : DSt}, namesG is xs δ Q → xs.length = is.length
  | [], [], _, _ => rfl
  | _ :: is, _ :: xs, _, q => congrArg (· + 1) (names_len (is := is) (xs := xs) q)
  | [], _ :: _, _, q => q.elim
  | _ :: _, [], _, q => q.elim
theorem pgd_tup {is vs : List Nat} {e : Expr} {n : Nat} (h : PG X e (gTup X.K n (gNames is))) (hn : n = is.length) (ni : ∀ i ∈ is, i ∉ c.sl ∧ i ∈ vs) : PG X e (LG X.K c vs (tupG is)) :=
  PG_imp h fun v σ H Q ⟨δ, tmp, x, Qd, ⟨F, ow, S⟩, ⟨xs, e, q⟩, k⟩ => by
    subst e
    have r0 := S.top
    cases r0 with
    | tup s1 r1 =>
      refine ⟨_, _, rfl, SqT.of (S.fh _ _ s1), ?_, names_run ni rfl S.pop r1 q k⟩
      rw [r1.len, hn]
      exact names_len q
/-! ### for -/
def forD (g : TDG) (tb : TDS) (D : EndsD) : List DL.D → DSt → Prop
  | [], δ => D.nx δ
  | x :: xs, δ => g x δ fun δ1 => tb { D with nx := forD g tb D xs, ct := forD g tb D xs, bk := D.nx } δ1
def forS (ti : TDI) (g : TDG) (tb : TDS) : TDS := fun D δ => ti δ (fun xs δ1 => forD g tb D xs δ1) D.ex
theorem psd_for {tg iter : Expr} {body : List Stmt} {ti : TDI} {g : TDG} {tb : TDS} {pos : Pos} (hp : PassesOwn (model X.prog X.w) X.A X.env X.xe) (hc : X.calm = true) (hi : PI X tg iter (LI X.K c W ti)) {vs : List Nat} (hg : PG X tg (LG X.K c vs g)) (hb : PSs X body (LS X.K c W tb))
    (hs : ∀ x, foldedSetIterable iter X.env x = pure x := by intro _; rfl) : PS X (.For tg iter body [] pos) (LS X.K c W (forS ti g tb)) :=
  PS_imp (ps_for hp hc hi hg hb hs) fun D σ H ⟨δ, tmp, Dd, S, q, k, kr, kb, kc, w⟩ => by
    refine ⟨δ, tmp, _, _, S, q, fun J v src items δ1 H1 q1 sv S1 => ?_, w⟩
    refine ⟨fun i m σ H => m = items.length - i ∧ i ≤ items.length ∧ ∃ δ, Stt X.K c δ ((v, .d src) :: tmp) σ H ∧ forD g tb Dd (items.drop i) δ, ⟨items.length, by simp, Nat.zero_le _, δ1, S1, q1⟩, ?_⟩
    rintro i m σ2 H2 ⟨rfl, hi, δ2, ⟨F2, ow2, S2⟩, q2⟩
    by_cases hlt : i < items.length
    · refine .inr ⟨sv.go i F2 H2 S2.fh S2.top hlt, fun σ H => i + 1 ≤ items.length ∧ ∃ δ, Stt X.K c δ ((v, .d src) :: tmp) σ H ∧ forD g tb Dd (items.drop (i + 1)) δ, fun σ' H' h => ⟨items.length - (i + 1), by omega, rfl, h⟩, fun x H' y => ?_⟩
      obtain ⟨F3, e3, r3⟩ := sv.yld i F2 H2 x H' S2.fh S2.top y _ (List.getElem?_eq_getElem hlt)
      rw [List.drop_eq_getElem_cons hlt] at q2
      refine ⟨δ2, (v, .d src) :: tmp, _, _, ⟨F3, ow2, (S2.ext e3).push r3⟩, q2, fun δ4 σ4 H4 q4 S4 _ => ⟨δ4, (v, .d src) :: tmp, _, S4, q4, fun δ5 σ5 H5 q5 S5 => ⟨hlt, δ5, S5, q5⟩, fun u z δ5 σ5 H5 q5 ⟨F5, ow5, S5⟩ => ?_, fun δ5 σ5 H5 q5 ⟨F5, ow5, S5⟩ => k δ5 σ5 H5 q5 ⟨F5, ow5, S5.pop⟩, fun δ5 σ5 H5 q5 S5 => ⟨hlt, δ5, S5, q5⟩, w.push⟩⟩
      -- the answer is on top of what is walked
      obtain ⟨F6, S6⟩ : ∃ F6 ow6, SttF X.K c F6 ow6 δ5 ((u, z) :: tmp) σ5 H5 := by
        have tm := S5.tm
        cases z with
        | d y => exact ⟨F5, ow5, { S5.pop.pop with tm := ⟨tm.1, tm.2.2⟩ }⟩
        | own o =>
          obtain ⟨p, rfl, e, b, n, r⟩ := tm.1
          have S7 := S5.pop.pop.reown (ow' := owSet ow5 p (.t tmp.length)) (fun k a z _ => owSet_ne fun y => by subst y; rw [e] at z; cases z) (fun k a hk z _ => owSet_ne fun y => by
            subst y; rw [e] at z; cases z
            have : tmp.length + 1 < tmp.length := hk
            omega)
          exact ⟨F5, _, { S7 with tm := ⟨⟨p, rfl, owSet_at, b, .inl n.t, r⟩, S7.tm⟩ }⟩
      exact kr u z δ5 σ5 H5 q5 ⟨F6, S6⟩
    · have e : i = items.length := by omega
      subst e
      rw [List.drop_length] at q2
      exact .inl ⟨sv.stop _ F2 H2 S2.fh S2.top (Nat.le_refl _), k _ _ _ q2 ⟨F2, ow2, S2.pop⟩⟩
/-! ### while: the invariant is the reader's -/
def whileD (tc : TDT) (tb : TDS) : TDS := fun D δ => ∃ I : Nat → DSt → Prop, (∃ m, I m δ) ∧ ∀ m δ, I m δ → tc δ (fun b δ1 => if b = true then tb { D with nx := fun δ2 => ∃ m', m' < m ∧ I m' δ2, ct := fun δ2 => ∃ m', m' < m ∧ I m' δ2, bk := D.nx } δ1 else D.nx δ1) D.ex
theorem psd_while {e : Expr} {body : List Stmt} {tc : TDT} {tb : TDS} {pos : Pos} (hp : PassesOwn (model X.prog X.w) X.A X.env X.xe) (hc : PT X e (LT X.K c W tc)) (hb : PSs X body (LS X.K c W tb)) : PS X (.While e body [] pos) (LS X.K c W (whileD tc tb)) :=
  PS_imp (ps_while hp hc hb) fun D σ H ⟨δ, tmp, Dd, S, ⟨I, ⟨m0, i0⟩, turn⟩, k, kr, kb, kc, w⟩ => by
    refine ⟨fun m σ H => ∃ δ, Stt X.K c δ tmp σ H ∧ I m δ, ⟨m0, δ, S, i0⟩, ?_⟩
    rintro m σ2 H2 ⟨δ2, S2, i2⟩
    refine ⟨δ2, tmp, _, _, S2, turn m δ2 i2, fun b δ3 H3 q3 S3 => ?_, w⟩
    cases b with
    | false => exact k _ _ _ q3 S3
    | true => exact ⟨fun σ H => ∃ δ m', m' < m ∧ Stt X.K c δ tmp σ H ∧ I m' δ, fun σ' H' ⟨δ, m', h1, h2, h3⟩ => ⟨m', h1, δ, h2, h3⟩, δ3, tmp, _, S3, q3, fun δ4 σ4 H4 ⟨m', h1, h2⟩ S4 => ⟨δ4, m', h1, S4, h2⟩, kr, fun δ4 σ4 H4 q4 S4 => k _ _ _ q4 S4, fun δ4 σ4 H4 ⟨m', h1, h2⟩ S4 => ⟨δ4, m', h1, S4, h2⟩, w⟩
/-! ### list comprehensions -/
def wipeD (δ : DSt) : List Nat → DSt
  | [] => δ
  | v :: vs => (wipeD δ vs).set v none
abbrev W0 : WX := fun _ _ _ _ => False
abbrev noX : XD := fun _ _ => False
def lcD (g : TDG) (tt : TDT) (te : TD) (vs : List Nat) : List DL.D → List DL.D → DSt → (List DL.D → DSt → Prop) → Prop
  | [], acc, δ, Q => Q acc δ
  | x :: xs, acc, δ, Q => g x δ fun δ1 => tt δ1 (fun b δ2 => if b = true then te δ2 (fun y δ3 => acc.length < sizeLine ∧ lcD g tt te vs xs (acc ++ [y.toD]) (wipeD δ3 vs) Q) noX else lcD g tt te vs xs acc (wipeD δ2 vs) Q) noX
def compD (ti : TDI) (g : TDG) (tt : TDT) (te : TD) (vs : List Nat) : TD := fun δ Q E => ti δ (fun xs δ1 => lcD g tt te vs xs [] (wipeD δ1 vs) fun acc δ2 => Q (.own (.lst acc)) δ2) E
def yesD : TDT := fun δ Q _ => Q true δ
end
section
variable {K : PySem.W.Frag} {c : Fc} {F F' H H' : Hp} {ow : Addr → Option Hold} {δ : DSt} {tmp : List (V × DV)} {σ : L2.St} {i : Nat} {p : Addr}
theorem SttF.del (S : SttF K c F ow δ tmp σ H) (ni : i ∉ c.sl) : SttF K c F ow (δ.set i none) tmp (σ.set i none) H := by
  refine { S with len := by rw [List.length_set, List.length_set]; exact S.len, sl := fun j z q => ?_, ps := fun k j p q1 q2 => ?_ }
  · by_cases e : i = j
    · subst e
      rcases Nat.lt_or_ge i δ.length with h | h
      · rw [List.getElem?_set_self h] at q; cases q
      · rw [List.getElem?_eq_none (by rw [List.length_set]; exact h)] at q; cases q
    · rw [List.getElem?_set_ne e] at q ⊢
      exact S.sl j z q
  · rw [List.getElem?_set_ne (fun z => ni (by rw [z]; exact List.mem_of_getElem? q1))]
    exact S.ps k j p q1 q2
theorem SttF.wipe (S : SttF K c F ow δ tmp σ H) : ∀ {vs : List Nat}, (∀ i ∈ vs, i ∉ c.sl) → SttF K c F ow (wipeD δ vs) tmp (L2.wipe σ vs) H
  | [], _ => S
  | v :: vs, h => (S.wipe fun i hi => h i (List.mem_cons_of_mem _ hi)).del (h v List.mem_cons_self)
theorem wipeD_get : ∀ {vs : List Nat} {i : Nat} {x : DV}, (wipeD δ vs)[i]? = some (some x) → i ∉ vs
  | [], _, _, _ => fun h => nomatch h
  | v :: vs, i, x, e => fun h => by
    have e : ((wipeD δ vs).set v none)[i]? = some (some x) := e
    by_cases q : v = i
    · subst q
      rcases Nat.lt_or_ge v (wipeD δ vs).length with z | z
      · rw [List.getElem?_set_self z] at e; cases e
      · rw [List.getElem?_eq_none (by rw [List.length_set]; exact z)] at e; cases e
    · rw [List.getElem?_set_ne q] at e
      exact wipeD_get e ((List.mem_cons.mp h).elim (fun z => absurd z.symm q) id)
/-- the slots that are forgotten may be anything -/
theorem SttF.unwipe {vs : List Nat} (S : SttF K c F ow (wipeD δ vs) tmp (L2.wipe σ vs) H) (h : ∀ i ∈ vs, i ∉ c.sl) : SttF K c F ow (wipeD δ vs) tmp σ H := by
  refine { S with len := by rw [← S.len, wipe_length], sl := fun j z q => ?_, ps := fun k j p q1 q2 => ?_ }
  · obtain ⟨v, e, r⟩ := S.sl j z q
    rw [wipe_out (wipeD_get q)] at e
    exact ⟨v, e, r⟩
  · have := S.ps k j p q1 q2
    rwa [wipe_out fun z => h j z (List.mem_of_getElem? q1)] at this
/-- the own object on top of the stack is changed -/
theorem SttF.writeT {o o' : OC} {ob : HO} (S : SttF K c F ow δ ((.ref p, .own o) :: tmp) σ H) (r' : OwnRep K F (upd H p ob) p o') : SttF K c F ow δ ((.ref p, .own o') :: tmp) σ (upd H p ob) := by
  obtain ⟨p', e0, e, b, w, r⟩ := S.tm.1
  cases e0
  have keep : ∀ {h : Hold} {v : V} {x : DV}, RepV K c F H ow h v x → h ≠ .t tmp.length → RepV K c F (upd H p ob) ow h v x := fun {h v x} y ne => by
    cases x with
    | d z => exact y
    | own z =>
      obtain ⟨a, rfl, ea, ba, wa, ra⟩ := y
      exact ⟨a, rfl, ea, ba, wa, ra.mono (Same.refl F) (upd_ne fun t => by subst t; rw [e] at ea; cases ea; exact ne rfl)⟩
  have keepT : ∀ {l : List (V × DV)}, l.length ≤ tmp.length → RepTmp K c F H ow l → RepTmp K c F (upd H p ob) ow l := fun {l} => by
    induction l with
    | nil => exact fun _ _ => True.intro
    | cons a r ih =>
      obtain ⟨v, x⟩ := a
      exact fun hl y => ⟨keep y.1 (fun z => by have := Hold.t.inj z; have : r.length + 1 ≤ tmp.length := hl; omega), ih (Nat.le_of_succ_le hl) y.2⟩
  refine ⟨fun a u z => ?_, S.f0, S.fn, fun a u z n => ?_, fun a z => ?_, S.len, fun j z qz => ?_, ⟨⟨p, rfl, e, b, w, r'⟩, keepT (Nat.le_refl _) S.tm.2⟩, S.ps⟩
  · rw [upd_ne (ne_of_none z b)]
    exact S.fh _ _ z
  · rw [upd_ne (fun t => by subst t; rw [w.t] at z; cases z)]
    exact S.fr a u z n
  · by_cases t : a = p
    · subst t; rw [upd_same] at z; cases z
    · rw [upd_ne t] at z; exact S.up a z
  · obtain ⟨v, e2, r2⟩ := S.sl j z qz
    exact ⟨v, e2, keep r2 fun t => nomatch t⟩
end
section
variable {X : Cx} {c : Fc} {W : WX}
theorem lift_comp {K : PySem.W.Frag} {ti : TDI} {g : TDG} {tt : TDT} {te : TD} {vs : List Nat} (hv : ∀ i ∈ vs, i ∉ c.sl) : ∀ σ H Q, LE K c W (compD ti g tt te vs) σ H Q → tLc (LI K c W ti) (LG K c vs g) (LT K c W0 tt) (LE K c W0 te) vs σ H Q := fun σ H Q ⟨δ, tmp, Qd, Ed, S, q, k, w⟩ => by
  refine ⟨δ, tmp, _, _, S, q, fun J v src items δ1 H1 q1 sv ⟨F1, ow1, S1⟩ => ?_, w⟩
  intro D nD
  have S2 := (S1.wipe hv).pushNew (o := .lst []) nD ⟨[], upd_same, .nil⟩
  refine ⟨fun i m H => m = items.length - i ∧ i ≤ items.length ∧ ∃ δ acc, Stt K c (wipeD δ vs) ((.ref D, .own (.lst acc)) :: (v, .d src) :: tmp) (wipe σ vs) H ∧ lcD g tt te vs (items.drop i) acc (wipeD δ vs) fun acc δ2 => Qd (.own (.lst acc)) δ2,
    ⟨items.length, by simp, Nat.zero_le _, δ1, [], ⟨_, _, S2⟩, q1⟩, ?_⟩
  rintro i m H2 ⟨rfl, hi, δ2, acc, ⟨F2, ow2, S3⟩, q2⟩
  have src2 : Rep K F2 v src := S3.tm.2.1
  by_cases hlt : i < items.length
  · refine .inr ⟨sv.go i F2 H2 S3.fh src2 hlt, fun H => i + 1 ≤ items.length ∧ ∃ δ acc, Stt K c (wipeD δ vs) ((.ref D, .own (.lst acc)) :: (v, .d src) :: tmp) (wipe σ vs) H ∧ lcD g tt te vs (items.drop (i + 1)) acc (wipeD δ vs) fun acc δ2 => Qd (.own (.lst acc)) δ2,
      fun H' h => ⟨items.length - (i + 1), by omega, rfl, h⟩, fun x H' y => ?_⟩
    obtain ⟨F3, e3, r3⟩ := sv.yld i F2 H2 x H' S3.fh src2 y _ (List.getElem?_eq_getElem hlt)
    rw [List.drop_eq_getElem_cons hlt] at q2
    refine ⟨wipeD δ2 vs, (.ref D, .own (.lst acc)) :: (v, .d src) :: tmp, _, _, ⟨F3, ow2, (S3.ext e3).push r3⟩, q2, fun δ4 σ4 H4 q4 S4 hw => ?_⟩
    have hw' : wipe σ4 vs = wipe σ vs := by
      rw [hw]
      have idem : ∀ (l : List Nat), (∀ i ∈ l, i ∈ vs) → wipe (wipe σ l) vs = wipe σ vs := fun l => by
        induction l with
        | nil => exact fun _ => rfl
        | cons a r ih =>
          intro h
          show wipe ((wipe σ r).set a none) vs = _
          rw [wipe_set (h a List.mem_cons_self)]
          exact ih fun i hi => h i (List.mem_cons_of_mem _ hi)
      exact idem vs fun _ h => h
    refine ⟨hw', δ4, _, _, noX, S4, q4, fun b δ5 H5 q5 ⟨F5, ow5, S5⟩ => ?_, fun _ _ _ _ _ _ _ _ z => z.elim⟩
    cases b with
    | false =>
      have S6 := S5.wipe hv
      rw [hw'] at S6
      exact ⟨hlt, δ5, acc, ⟨_, _, S6⟩, q5⟩
    | true =>
      refine ⟨δ5, _, _, noX, ⟨F5, ow5, S5⟩, q5, fun u z δ6 H6 ⟨hz, q6⟩ ⟨F6, ow6, S6⟩ => ?_, fun _ _ _ _ _ _ _ _ z => z.elim⟩
      obtain ⟨F7, S7, s7⟩ := S6.top_frz
      obtain ⟨p', e0, _, _, _, ws, ep, rw'⟩ := S7.tm.2.1
      cases e0
      have S8 := S7.pop.writeT (o' := .lst (acc ++ [z.toD])) (ob := .lst (ws ++ [u])) ⟨_, upd_same, rw'.app (.cons S7.top .nil)⟩
      have S9 := S8.wipe hv
      rw [hw'] at S9
      exact ⟨ws, ep, by rw [rw'.len]; exact hz, hlt, δ6, _, ⟨_, _, S9⟩, q6⟩
  · have e : i = items.length := by omega
    subst e
    rw [List.drop_length] at q2
    refine .inl ⟨sv.stop _ F2 H2 S3.fh src2 (Nat.le_refl _), k _ _ _ _ q2 ?_⟩
    have S4 := S3.unwipe hv
    -- the list is moved down on the stack
    obtain ⟨p', e0, e, b, n, r⟩ := S4.tm.1
    cases e0
    have S5 := S4.pop.pop.reown (ow' := owSet ow2 D (.t tmp.length)) (fun k a z _ => owSet_ne fun y => by subst y; rw [e] at z; cases z) (fun k a hk z _ => owSet_ne fun y => by
      subst y; rw [e] at z; cases z
      have : tmp.length + 1 < tmp.length := hk
      omega)
    exact ⟨F2, _, { S5 with tm := ⟨⟨D, rfl, owSet_at, b, .inl n.t, r⟩, S5.tm⟩ }⟩
theorem PTs_imp {e : List Expr} {t t' : TT} (h : PTs X e t) (f : ∀ σ H Q, t' σ H Q → t σ H Q) : PTs X e t' := ⟨fun pins s σ H Q I q => h.run pins s σ H Q I (f _ _ _ q)⟩
theorem ptsd_nil : PTs X [] (LT X.K c W yesD) := PTs_imp pts_nil fun σ H Q ⟨δ, tmp, Qd, Ed, S, q, k, w⟩ => k _ _ _ q S
theorem ptsd_one {e : Expr} {t : TDT} (h : PT X e (LT X.K c W t)) : PTs X [e] (LT X.K c W t) := pts_one h
theorem pd_lc {elt tg iter : Expr} {ifs : List Expr} {scope : Scope} {own : List (Str × Nat)} {pos : Pos} {ti : TDI} {g : TDG} {tt : TDT} {te : TD} (hc : X.calm = true) (hN : X.N.Nodup) (hi : PI X tg iter (LI X.K c W ti)) (ok : BlkOk X.N X.env.scope scope own)
    (hg : ∀ (s : Shared) (H : Hp) (C : Addr) (cl : List (Str × Addr)) (fp : List Addr), PG (X.blk s H scope (compEnvC scope cl C X.env) fp) tg (LG X.K c (own.map (·.2)) g)) (ht : ∀ (s : Shared) (H : Hp) (C : Addr) (cl : List (Str × Addr)) (fp : List Addr), PTs (X.blk s H scope (compEnvC scope cl C X.env) fp) ifs (LT X.K c W0 tt))
    (he : ∀ (s : Shared) (H : Hp) (C : Addr) (cl : List (Str × Addr)) (fp : List Addr), PE (X.blk s H scope (compEnvC scope cl C X.env) fp) elt (LE X.K c W0 te)) (hv : ∀ i ∈ own.map (·.2), i ∉ c.sl) (hs : ∀ x, foldedSetIterable iter X.env x = pure x := by intro _; rfl) :
    PE X (.ListComp elt [⟨tg, iter, ifs, 0⟩] scope pos) (LE X.K c W (compD ti g tt te (own.map (·.2)))) := PE_imp (pe_lc hc hN hi ok hg ht he hs) (lift_comp hv)
/-- x = [..] on one line: the list is x's own, or frozen -/
def setLcD (i : Nat) (o : Bool) (t : TD) : TDS := fun D δ => t δ (fun x δ1 => D.nx (δ1.set i (some (asD o x)))) D.ex
theorem psd_setLc {i : Nat} {o : Bool} {y : Str} {py : Pos} {elt tg iter : Expr} {ifs : List Expr} {scope : Scope} {own : List (Str × Nat)} {pos spos : Pos} {ti : TDI} {g : TDG} {tt : TDT} {te : TD} (ni : i ∉ c.sl) (hc : X.calm = true) (hN : X.N.Nodup) (hy : X.N[i]? = some y) (hyl : X.env.scope.names.lookup y = some .local)
    (hsw : swapsWith (.ListComp elt [⟨tg, iter, ifs, 0⟩] scope pos) (some (.Name y py)) spos.line X.env = pure true) (hi : PI X tg iter (LI X.K c W ti)) (ok : BlkOk X.N X.env.scope scope own)
    (hg : ∀ (s : Shared) (H : Hp) (C : Addr) (cl : List (Str × Addr)) (fp : List Addr), PG (X.blk s H scope (compEnvC scope cl C X.env) fp) tg (LG X.K c (own.map (·.2)) g)) (ht : ∀ (s : Shared) (H : Hp) (C : Addr) (cl : List (Str × Addr)) (fp : List Addr), PTs (X.blk s H scope (compEnvC scope cl C X.env) fp) ifs (LT X.K c W0 tt))
    (he : ∀ (s : Shared) (H : Hp) (C : Addr) (cl : List (Str × Addr)) (fp : List Addr), PE (X.blk s H scope (compEnvC scope cl C X.env) fp) elt (LE X.K c W0 te)) (hv : ∀ i ∈ own.map (·.2), i ∉ c.sl) (hs : ∀ x, foldedSetIterable iter X.env x = pure x := by intro _; rfl) :
    PS X (.Assign [.Name y py] (.ListComp elt [⟨tg, iter, ifs, 0⟩] scope pos) spos) (LS X.K c W (setLcD i o (compD ti g tt te (own.map (·.2))))) :=
  PS_imp (ps_setLc (i := i) hc hN hy hyl hsw hi ok hg ht he hs) fun D σ H ⟨δ, tmp, Dd, S, q, k, kr, kb, kc, w⟩ => by
    show tLc _ _ _ _ _ σ H fun x H1 => gName i x σ H1 D.nx
    refine lift_comp hv _ _ _ ⟨δ, tmp, _, _, S, q, fun v x δ' H' q' ⟨F, ow, S'⟩ => ?_, w⟩
    obtain ⟨F', S2⟩ := S'.top_as o
    exact k _ _ _ q' (S2.set' ni)
end
end DL

set_option Elab.async false
set_option linter.all false
set_option maxRecDepth 100000
namespace DL
open PySem PySem.Spec PyProof.Rows L2
/-! ### a def's body keeps its promise -/
/-- the slots of the arguments that may change -/
def ownIx : List DV → Nat → List Nat
  | [], _ => []
  | .d _ :: r, k => ownIx r (k + 1)
  | .own _ :: r, k => k :: ownIx r (k + 1)
def startD (n : Nat) (as : List DV) : DSt := as.map some ++ List.replicate (n - as.length) none
def takeB (δ : DSt) : List Nat → List OC → Prop
  | [], os => os = []
  | i :: is, os => ∃ o r, os = o :: r ∧ δ[i]? = some (some (.own o)) ∧ takeB δ is r
def owOf : List DV → List V → Nat → Addr → Option Hold
  | .own _ :: as, .ref p :: vs, k => fun a => if a = p then some (.s k) else owOf as vs (k + 1) a
  | _ :: as, _ :: vs, k => owOf as vs (k + 1)
  | _, _, _ => fun _ => none
section
variable {K : PySem.W.Frag} {c : Fc} {F H : Hp}
theorem ArgsRep.len : ∀ {vs : List V} {as : List DV} {ps : List Addr}, ArgsRep K F H vs as ps → vs.length = as.length
  | _, _, _, .nil => rfl
  | _, _, _, .d _ t => congrArg (· + 1) t.len
  | _, _, _, .own _ _ _ t => congrArg (· + 1) t.len
theorem ArgsRep.plen : ∀ {vs : List V} {as : List DV} {ps : List Addr} {k : Nat}, ArgsRep K F H vs as ps → ps.length = (ownIx as k).length
  | _, _, _, _, .nil => rfl
  | _, _, _, k, .d _ t => t.plen (k := k + 1)
  | _, _, _, k, .own _ _ _ t => congrArg (· + 1) (t.plen (k := k + 1))
theorem owOf_in : ∀ {vs : List V} {as : List DV} {ps : List Addr} {k : Nat} {a : Addr} {h : Hold}, ArgsRep K F H vs as ps → owOf as vs k a = some h → a ∈ ps
  | _, _, _, _, _, _, .nil, e => nomatch e
  | _, _, _, k, a, h, .d _ t, e => owOf_in (k := k + 1) t e
  | _, _, _, k, a, h, .own (p := p) _ _ _ t, e => by
    have e : (if a = p then some (Hold.s k) else owOf _ _ (k + 1) a) = some h := e
    by_cases q : a = p
    · subst q; exact List.mem_cons_self
    · rw [if_neg q] at e; exact List.mem_cons_of_mem _ (owOf_in t e)
theorem ArgsRep.at' : ∀ {vs : List V} {as : List DV} {ps : List Addr} {k j : Nat} {x : DV}, ArgsRep K F H vs as ps → (∀ p ∈ ps, p ∈ c.ad) → (∀ i ∈ ownIx as k, i ∈ c.sl) → as[j]? = some x → ∃ v, vs[j]? = some v ∧ RepV K c F H (owOf as vs k) (.s (k + j)) v x
  | _, _, _, _, 0, _, .d h _, _, _, e => by cases e; exact ⟨_, rfl, h⟩
  | _, _, _, k, 0, _, .own n h _ _, hp, hs, e => by
    cases e
    exact ⟨_, rfl, _, rfl, if_pos rfl, n, .inr ⟨hp _ List.mem_cons_self, k, rfl, hs k List.mem_cons_self⟩, h⟩
  | _, _, _, k, j + 1, x, .d _ t, hp, hs, e => by
    obtain ⟨v, e1, r⟩ := t.at' (k := k + 1) (j := j) hp hs e
    refine ⟨v, e1, ?_⟩
    rw [show k + (j + 1) = k + 1 + j by omega]
    exact r
  | _, _, _, k, j + 1, x, .own (p := p) n h np t, hp, hs, e => by
    obtain ⟨v, e1, r⟩ := t.at' (k := k + 1) (j := j) (fun p hq => hp p (List.mem_cons_of_mem _ hq)) (fun i hi => hs i (List.mem_cons_of_mem _ hi)) e
    refine ⟨v, e1, ?_⟩
    rw [show k + (j + 1) = k + 1 + j by omega]
    refine r.reown fun q _ eq _ => ?_
    have : q ≠ p := fun z => np (by rw [← z]; exact owOf_in t eq)
    exact if_neg this
theorem ArgsRep.ix : ∀ {vs : List V} {as : List DV} {ps : List Addr} {k m i : Nat} {p : Addr}, ArgsRep K F H vs as ps → (ownIx as k)[m]? = some i → ps[m]? = some p → k ≤ i ∧ vs[i - k]? = some (.ref p)
  | _, _, _, k, m, i, p, .nil, e, _ => by simp [ownIx] at e
  | _, _, _, k, m, i, p, .d _ t, e, e' => by
    obtain ⟨h1, h2⟩ := t.ix (k := k + 1) e e'
    refine ⟨by omega, ?_⟩
    rw [show i - k = (i - (k + 1)) + 1 by omega]
    exact h2
  | _, _, _, k, 0, i, p, .own _ _ _ _, e, e' => by
    cases e; cases e'
    rw [Nat.sub_self]
    exact ⟨Nat.le_refl _, rfl⟩
  | _, _, _, k, m + 1, i, p, .own _ _ _ t, e, e' => by
    obtain ⟨h1, h2⟩ := t.ix (k := k + 1) (m := m) e e'
    refine ⟨by omega, ?_⟩
    rw [show i - k = (i - (k + 1)) + 1 by omega]
    exact h2
/-- at the entry -/
theorem entry {N : List Str} {vs : List V} {as : List DV} {ps : List Addr} (s : Same F H) (A : ArgsRep K F H vs as ps) : SttF K ⟨ownIx as 0, ps, F, H⟩ F (owOf as vs 0) (startD N.length as) [] (L2.start N vs) H := by
  have hl := A.len
  refine ⟨s, Same.refl F, fun a h => .inl h, fun a o e _ => e, fun a e => e, ?_, fun i x e => ?_, True.intro, fun m i p e1 e2 => ?_⟩
  · unfold L2.start startD
    rw [List.length_append, List.length_append, List.length_map, List.length_map, List.length_replicate, List.length_replicate, hl]
  · unfold startD at e
    rcases Nat.lt_or_ge i as.length with h | h
    · rw [List.getElem?_append_left (by rw [List.length_map]; exact h), List.getElem?_map, List.getElem?_eq_getElem h] at e
      have e := Option.some.inj (Option.some.inj e)
      obtain ⟨v, e1, r⟩ := A.at' (c := ⟨ownIx as 0, ps, F, H⟩) (k := 0) (j := i) (fun _ h => h) (fun _ h => h) (by rw [List.getElem?_eq_getElem h, e])
      refine ⟨v, ?_, by rw [Nat.zero_add] at r; exact r⟩
      unfold L2.start
      rw [List.getElem?_append_left (by rw [List.length_map, hl]; exact h), List.getElem?_map, e1]
      rfl
    · rw [List.getElem?_append_right (by rw [List.length_map]; exact h)] at e
      cases q : (List.replicate (N.length - as.length) (none : Option DV))[i - (as.map some).length]? with
      | none => rw [q] at e; cases e
      | some z =>
        rw [q] at e
        have := List.mem_of_getElem? q
        rw [(List.mem_replicate.mp this).2] at e
        cases e
  · obtain ⟨_, h⟩ := A.ix (k := 0) e1 e2
    have h : vs[i]? = some (.ref p) := h
    unfold L2.start
    rw [List.getElem?_append_left (by rw [List.length_map]; exact set_lt h), List.getElem?_map, h]
    rfl
theorem takeB_reps {F' H' : Hp} {ow : Addr → Option Hold} {δ : DSt} {tmp : List (V × DV)} {σ : L2.St} (S : SttF K c F' ow δ tmp σ H') : ∀ {is : List Nat} {ps : List Addr} {os : List OC}, ps.length = is.length → (∀ (k i : Nat) (p : Addr), is[k]? = some i → ps[k]? = some p → σ[i]? = some (some (.ref p))) → takeB δ is os → OwnsRep K F' H' ps os
  | [], [], _, _, _, e => by cases e; exact .nil
  | i :: is, p :: ps, _, hl, hs, ⟨o, r, e, ei, t⟩ => by
    subst e
    obtain ⟨v, e1, p', rfl, _, n, _, q⟩ := S.sl _ _ ei
    have e2 := hs 0 i p rfl rfl
    rw [e1] at e2
    cases e2
    exact .cons n q (takeB_reps S (Nat.succ.inj hl) (fun k i p a b => hs (k + 1) i p a b) t)
  | [], _ :: _, _, h, _, _ => nomatch h
  | _ :: _, [], _, h, _, _ => nomatch h
end
/-- what a def's end must bring -/
def endsD (sl : List Nat) (Qd : DV → List OC → Prop) (Ed : Ex → List OC → Prop) : EndsD where
  nx := fun δ => ∃ os, takeB δ sl os ∧ Qd (.d .non) os
  rt := fun x δ => ∃ os, takeB δ sl os ∧ Qd x os
  ex := fun x δ => ∃ os, takeB δ sl os ∧ Ed x os
section
variable {P : Program} {w : World} {K : PySem.W.Frag} {mg : Str → Option Value} {base : Heap}
theorem okD {x qual : Str} {st : Stmt} {f : Addr} {fd : FuncData} {N ps : List Str} {k : Nat} {sd : SpD} (G : Fun K x qual st f fd) (S : FnScope N ps (defScope st)) (sl : List Nat) (len : ∀ as Q E, sd as Q E → as.length = ps.length ∧ ownIx as 0 = sl)
    (hbody : ∃ t : TDS, (∀ (cdv : Value) (A : Around) (outer : List Env) (s : Shared) (H : Hp) (E : XK) (ad : List Addr) (F0 H0 : Hp), Room k (A.deeper (envOfC qual (defScope st) s.heap.objs.size f cdv)) →
        PSs (cxOf (L2.CX P w) P w K mg base N qual (defScope st) f cdv A outer s H E) (defBody st) (LS K ⟨sl, ad, F0, H0⟩ (fun cls d _ H => E cls d H) t)) ∧
      ∀ as Qd Ed, sd as Qd Ed → t (endsD sl Qd Ed) (startD N.length as)) :
    FnOk P w K mg base (L2.CX P w) (k + 1) f fd ps (spOf K sd) := by
  obtain ⟨t, ht, hq⟩ := hbody
  refine G.okX S (fun vs H Q E ⟨F, as, qs, Qd, Ed, _, A, h, _⟩ => by rw [A.len]; exact (len _ _ _ h).1) fun cdv A outer s H vs Q E hr ⟨F, as, qs, Qd, Ed, sm, ar, h, kq, ke⟩ => ?_
  have hsl := (len _ _ _ h).2
  have S0 := entry (N := N) sm ar
  rw [hsl] at S0
  have hpl : qs.length = sl.length := by rw [← hsl]; exact ar.plen
  have post : ∀ {δ' : DSt} {tmp : List (V × DV)} {σ' : L2.St} {F' H' : Hp} {ow' : Addr → Option Hold} {os : List OC}, SttF K ⟨sl, qs, F, H⟩ F' ow' δ' tmp σ' H' → takeB δ' sl os → Post K F H qs os F' H' := fun {δ' tmp σ' F' H' ow' os} S' tb =>
    ⟨S'.f0, S'.fh, S'.fr, S'.up, S'.fn, takeB_reps S' hpl S'.ps tb⟩
  refine ⟨_, ht cdv A outer s H E qs F H hr, startD N.length as, [], endsD sl Qd Ed, ⟨F, _, S0⟩, hq as Qd Ed h, fun δ' σ' H' ⟨os, tb, q⟩ ⟨F', ow', S'⟩ => ?_, fun v x δ' σ' H' ⟨os, tb, q⟩ ⟨F', ow', S'⟩ => ?_, fun _ _ _ z => z.elim, fun _ _ _ z => z.elim, fun x δ' σ' H' F' ow' cls d ⟨os, tb, q⟩ S' er => ?_⟩
  · exact kq .non (.d .non) os F' H' q (post S' tb) .non
  · refine kq v x os F' H' q (post S' tb) ?_
    cases x with
    | d y => exact S'.top
    | own o =>
      obtain ⟨p, rfl, e, b, n, r⟩ := S'.tm.1
      exact ⟨p, rfl, n.t, b, r⟩
  · exact ke cls d x os F' H' q (post S' tb) er
end
/-! ### own lists that change -/
section
variable {X : Cx} {c : Fc} {W : WX}
/-- xs[i] = e, xs the own list in slot j -/
def setItem (j : Nat) (ti te : TD) : TDS := fun D δ => ∃ o, δ[j]? = some (some (.own o)) ∧ te δ (fun y δ1 => ti δ1 (fun k δ2 => ∃ xs n m, δ2[j]? = some (some (.own (.lst xs))) ∧ k.toD = .int n ∧ ixN xs.length n = some m ∧ D.nx (δ2.set j (some (.own (.lst (xs.set m y.toD)))))) D.ex) D.ex
theorem psd_setItem {j : Nat} {x : Str} {e ei : Expr} {te ti : TD} {pos p2 p3 : Pos} (h : ∀ {te : TE} {g : TG}, PE X e te → PG X (.Subscript (.Name x p3) ei p2) g → PS X (.Assign [.Subscript (.Name x p3) ei p2] e pos) (tAsg te g))
    (hg : ∀ {to ti : TE} {t : TSet}, PE X (.Name x p3) to → PE X ei ti → PSet X t → PG X (.Subscript (.Name x p3) ei p2) (gSub to ti t)) (hv : PE X (.Name x p3) (tVar j)) (he : PE X e (LE X.K c W te)) (hi : PE X ei (LE X.K c W ti)) :
    PS X (.Assign [.Subscript (.Name x p3) ei p2] e pos) (LS X.K c W (setItem j ti te)) :=
  PS_imp (h he (hg hv hi set_list)) fun D σ H ⟨δ, tmp, Dd, ⟨F, ow, S⟩, ⟨o, eo, q⟩, k, kr, kb, kc, w⟩ => by
    obtain ⟨v, e1, p, rfl, _⟩ := S.sl _ _ eo
    refine ⟨δ, tmp, _, _, ⟨F, ow, S⟩, q, fun y d δ1 H1 q1 ⟨F1, ow1, S1⟩ => ?_, w⟩
    obtain ⟨F2, S2, _⟩ := S1.top_frz
    refine ⟨_, e1, δ1, _, _, _, ⟨F2, ow1, S2⟩, q1, fun u z δ2 H2 ⟨xs, n, m, ej, ek, em, q2⟩ ⟨F3, ow3, S3⟩ => ?_, w.push⟩
    obtain ⟨F4, S4, _⟩ := S3.top_frz
    rw [ek] at S4
    cases S4.top
    obtain ⟨v', e2, p', rfl, _, _, _, vs, ep, r⟩ := S4.sl _ _ ej
    rw [e1] at e2
    cases e2
    refine ⟨p, vs, n, m, rfl, rfl, ep, by rw [r.len]; exact em, k _ _ _ q2 ⟨F4, ow3, ?_⟩⟩
    exact (S4.pop.write (o' := .lst (xs.set m d.toD)) ej e1 ⟨_, upd_same, r.set S4.pop.top m⟩).pop
/-- a method of the own list in slot j: it changes, a value comes back -/
abbrev RDM := List D → List D → (D → List D → Prop) → Prop
def MtO (K : PySem.W.Frag) (r : V → List V → Hp → VK → Prop) (rd : RDM) : Prop := ∀ (p : Addr) (vs us : List V) (xs ds : List D) (F H : Hp) (Q : VK) (Qd : D → List D → Prop), Same F H → H p = some (.lst vs) → RepL K F vs xs → RepL K F us ds → rd xs ds Qd →
  (∀ v z ws zs, Qd z zs → Rep K F v z → RepL K F ws zs → Q v (upd H p (.lst ws))) → r (.ref p) us H Q
def methO (j : Nat) (rd : RDM) (ta : TDA) : TD := fun δ Q E => ∃ x0, δ[j]? = some (some (.own (.lst x0))) ∧ ta δ (fun as δ1 => ∃ ds xs, as = ds.map .d ∧ δ1[j]? = some (some (.own (.lst xs))) ∧ rd xs ds fun z zs => Q (.d z) (δ1.set j (some (.own (.lst zs))))) E
theorem pd_methO {j : Nat} {x m : Str} {es : List Expr} {ta : TDA} {r : V → List V → Hp → VK → Prop} {rd : RDM} {pos p2 p3 : Pos} (h : ∀ {to : TE} {t : TA}, PE X (.Name x p3) to → PA X es t → PE X (.Call (.Attribute (.Name x p3) m p2) es [] pos) (tBM X.K "list" r to t)) (hr : MtO X.K r rd)
    (hv : PE X (.Name x p3) (tVar j)) (ha : PA X es (LA X.K c W ta)) : PE X (.Call (.Attribute (.Name x p3) m p2) es [] pos) (LE X.K c W (methO j rd ta)) :=
  PE_imp (h hv ha) fun σ H Q ⟨δ, tmp, Qd, Ed, ⟨F, ow, S⟩, ⟨o, eo, q⟩, k, w⟩ => by
    obtain ⟨v, e1, p, rfl, _, _, _, vs0, ep0, _⟩ := S.sl _ _ eo
    refine ⟨_, e1, .inl ⟨rfl, vs0, SqL.of ep0⟩, δ, tmp, _, Ed, ⟨F, ow, S⟩, q, fun us as δ1 F1 ow1 H1 ⟨ds, xs, ea, ej, q1⟩ S1 ra => ?_, w⟩
    subst ea
    obtain ⟨v', e2, p', rfl, _, n, _, vs, ep, rr⟩ := S1.sl _ _ ej
    rw [e1] at e2
    cases e2
    exact hr p vs us xs ds F1 H1 Q _ S1.fh ep rr (args_d ra) q1 fun v z ws zs qz rz rws => k _ _ _ _ qz ⟨F1, ow1, (S1.write (o' := .lst zs) ej e1 ⟨_, upd_same, rws⟩).push rz⟩
end
section
variable {K : PySem.W.Frag}
abbrev appM : RDM := fun xs ds Q => ∃ d, ds = [d] ∧ xs.length < sizeLine ∧ Q .non (xs ++ [d])
theorem mo_append : MtO K rAppend appM := fun p vs us xs ds F H Q Qd s ep r ra ⟨d, e, hz, q⟩ k => by
  subst e
  cases ra with
  | cons ra t => cases t; exact ⟨p, vs, _, rfl, rfl, ep, by rw [r.len]; exact hz, k _ _ _ _ q .non (r.app (.cons ra .nil))⟩
abbrev popM : RDM := fun xs ds Q => ∃ i k d, ds = [.int i] ∧ -(2 ^ 63) ≤ i ∧ i < 2 ^ 63 ∧ seqIndex? i xs.length = some k ∧ xs[k]? = some d ∧ Q d (xs.eraseIdx k)
theorem mo_pop : MtO K rPopAt popM := fun p vs us xs ds F H Q Qd s ep r ra ⟨i, j, d, e, h1, h2, hk, hd, q⟩ k => by
  subst e
  cases ra with
  | cons ra t =>
    cases t; cases ra
    obtain ⟨v, ev, rv⟩ := r.get hd
    exact ⟨p, vs, i, j, v, rfl, rfl, ep, h1, h2, by rw [r.len]; exact hk, ev, k _ _ _ _ q rv (r.erase j)⟩
abbrev insM : RDM := fun xs ds Q => ∃ (i : Int) (d : DL.D), ds = [.int i, d] ∧ xs.length < sizeLine ∧ 0 ≤ i ∧ i < 2 ^ 63 ∧ Q .non (xs.take i.toNat ++ [d] ++ xs.drop i.toNat)
theorem mo_insert : MtO K (fun x vs H Q => ∃ (l : Addr) (xs : List V) (i : Int) (y : V), x = .ref l ∧ vs = [.int i, y] ∧ H l = some (.lst xs) ∧ xs.length < sizeLine ∧ 0 ≤ i ∧ i < 2 ^ 63 ∧
    Q .non (upd H l (.lst (xs.take i.toNat ++ [y] ++ xs.drop i.toNat)))) insM := fun p vs us xs ds F H Q Qd s ep r ra ⟨i, d, e, hz, h0, h1, q⟩ k => by
  subst e
  cases ra with
  | cons ra t =>
    cases t with
    | cons rd t => cases t; cases ra; exact ⟨p, vs, i, _, rfl, rfl, ep, by rw [r.len]; exact hz, h0, h1, k _ _ _ _ q .non (((r.take _).app (.cons rd .nil)).app (r.drop _))⟩
end
/-! ### what is raised -/
section
variable {X : Cx} {c : Fc} {W : WX}
/-- fields by the names, in their order -/
def ErrInit (K : PySem.W.Frag) (B : Addr) (ns : List Str) : Sp := fun vs H Q _ => ∃ (a : Addr) (xs : List V), vs = .ref a :: xs ∧ xs.length = ns.length ∧ H a = some (exo a B none) ∧ ∀ d, H d = none → d ≠ a → Q .non (upd (upd H d (exd d (ns.zip xs))) a (exo a B (some d)))
theorem repF_zip {K : PySem.W.Frag} {F : Hp} : ∀ {ns : List Str} {vs : List V} {ds : List D}, RepL K F vs ds → RepF K F (ns.zip vs) (ns.zip ds)
  | [], _, _, .nil => .nil
  | [], _, _, .cons _ _ => .nil
  | n :: ns, _, _, .nil => .nil
  | n :: ns, _, _, .cons h t => .cons h (repF_zip t)
def raiseD (B : Addr) (ns : List Str) (ta : TDA) : TDS := fun D δ => ta δ (fun as δ1 => ∃ ds, as = ds.map .d ∧ ds.length = ns.length ∧ ds.length ≤ 1000 ∧ D.ex ⟨B, some (ns.zip ds)⟩ δ1) D.ex
theorem psd_raise {x : Str} {B fI : Addr} {k : Nat} {fd : FuncData} {ps ns : List Str} {e : Expr} {es : List Expr} {ta : TDA} {p pos pos2 : Pos} (hc : X.calm = true) (tk : Takes X W)
    (hk : ∀ {ta : TA}, PA X (e :: es) ta → PMk X (.Call (.Name x p) (e :: es) [] pos) (tMkO B (ErrInit X.K B ns) [] ta)) (ha : PA X (e :: es) (LA X.K c W ta)) :
    PS X (.Raise (some (.Call (.Name x p) (e :: es) [] pos)) none pos2) (LS X.K c W (raiseD B ns ta)) :=
  PS_imp (ps_raise hc tk (hk ha)) fun D σ H ⟨δ, tmp, Dd, S, q, k, kr, kb, kc, w⟩ => ⟨δ, tmp, _, _, S, q, fun vs as δ1 F ow H1 ⟨ds, ea, hl, hz, q1⟩ S1 ra => by
    subst ea
    have r := args_d ra
    refine ⟨by rw [r.len]; exact hz, fun a na => ?_⟩
    refine ⟨a, vs, by rw [List.append_nil], by rw [r.len]; exact hl, upd_same, fun d nd ne => ⟨rfl, d, ns.zip vs, upd_same, by rw [upd_ne ne, upd_same], by rwa [upd_ne ne] at nd, ?_⟩⟩
    have nd1 : H1 d = none := by rwa [upd_ne ne] at nd
    have eH : upd (del (upd (upd (upd H1 a (exo a B none)) d (exd d (ns.zip vs))) a (exo a B (some d))) a) d (.xd (ns.zip vs)) = upd H1 d (.xd (ns.zip vs)) := by
      funext b
      by_cases h1 : b = d
      · subst h1; rw [upd_same, upd_same]
      · rw [upd_ne h1, upd_ne h1]
        by_cases h2 : b = a
        · subst h2; rw [del_same]; exact na.symm
        · rw [del_ne h2, upd_ne h2, upd_ne h1, upd_ne h2]
    rw [eH]
    exact w _ _ _ _ _ ow _ _ q1 (S1.ext (Ext.new S1.fh nd1)) ⟨rfl, d, _, rfl, upd_same, repF_zip (r.mono (same_upd (Same.refl F) (S1.fh.free nd1)))⟩, w⟩
/-- an own exception without an __init__ of its own -/
def raise0D (B : Addr) : TDS := fun D δ => D.ex ⟨B, none⟩ δ
theorem psd_raise0 {e : Expr} {B : Addr} {pos2 : Pos} (hc : X.calm = true) (tk : Takes X W) (hk : PMk X e (fun _ H Q => Q (.ref B) none H)) : PS X (.Raise (some e) none pos2) (LS X.K c W (raise0D B)) :=
  PS_imp (ps_raise hc tk hk) fun D σ H ⟨δ, tmp, Dd, ⟨F, ow, S⟩, q, k, kr, kb, kc, w⟩ => w _ _ _ _ F ow _ _ q S ⟨rfl, rfl⟩
/-! ### try -/
def tryD (K : PySem.W.Frag) (cv : Value) (i : Nat) (tb : TDS) (ts : TDS) : TDS := fun D δ =>
  tb { D with ex := fun x δ1 => ∃ b, PySem.W.exmOne K (.ref x.C) cv = some b ∧
    (b = true → ∀ a dd, ts { nx := fun δ2 => D.nx (δ2.set i none), rt := D.rt, ex := noX, bk := fun δ2 => D.bk (δ2.set i none), ct := fun δ2 => D.ct (δ2.set i none) } (δ1.set i (some (.d (.exc a (.ref x.C) dd x.C x.fs))))) ∧ (b = false → D.ex x δ1) } δ
theorem psd_try {x n : Str} {cv : Value} {i : Nat} {body suite : List Stmt} {b₀ : Stmt} {np pos pos' : Pos} {tb ts : TDS} (ni : i ∉ c.sl) (hs : X.stack = X.env :: X.outer) (hf : X.env.frame = some X.env.locals) (hN : X.N.Nodup) (hi : X.N[i]? = some n) (hln : X.env.kindOf n = some .local) (hc : Names X x cv) (tk : Takes X W)
    (hb : ∀ (W : WX) (pn : List (Addr × Obj)) (xe : Value → Shared → Prop), Takes (X.tr pn xe) W → PassesOwn (model X.prog X.w) X.A X.env xe → PSs (X.tr pn xe) body (LS X.K c W tb))
    (hsu : ∀ (a : Addr) (oe : Obj) (cls : Value) (d : Option Addr) (pn : List (Addr × Obj)), Zc cls d oe → (∃ vs, oe.data = .fields vs) → PSs (X.suite a ((a, oe) :: pn)) (b₀ :: suite) (LS X.K c W0 ts)) :
    PS X (.Try body [.ExceptHandler (some (.Name x np)) (some n) (b₀ :: suite) pos'] [] [] pos) (LS X.K c W (tryD X.K cv i tb ts)) :=
  PS_imp (ps_try_as (tb := fun W => LS X.K c W tb) (ts := fun _ _ _ => LS X.K c W0 ts) hs hf hN hi hln hc tk hb hsu) fun D σ H ⟨δ, tmp, Dd, S, q, k, kr, kb, kc, w⟩ => by
    refine ⟨δ, tmp, _, S, q, k, kr, kb, kc, fun y δ1 σ1 H1 F ow cls d ⟨b, eb, yes, no⟩ S1 er => ?_⟩
    obtain ⟨C, fs⟩ := y
    obtain ⟨rfl, er'⟩ := id er
    refine ⟨b, eb, fun hb a na => ?_, fun hb => w _ _ _ _ F ow _ d (no hb) S1 er⟩
    have rx : Rep X.K F (.ref a) (.exc a (.ref C) d C fs) := by
      cases fs with
      | none => obtain rfl : d = none := er'; exact .exc0
      | some fs => obtain ⟨dd, vs, rfl, e2, e3⟩ := er'; exact .exc e2 e3
    exact ⟨_, tmp, _, (S1.push rx).set' ni, yes hb a d, fun δ2 σ2 H2 q2 ⟨F2, ow2, S2⟩ => k _ _ _ q2 ⟨F2, ow2, S2.del ni⟩, kr, fun δ2 σ2 H2 q2 ⟨F2, ow2, S2⟩ => kb _ _ _ q2 ⟨F2, ow2, S2.del ni⟩, fun δ2 σ2 H2 q2 ⟨F2, ow2, S2⟩ => kc _ _ _ q2 ⟨F2, ow2, S2.del ni⟩, fun _ _ _ _ _ _ _ _ z => z.elim⟩
end
end DL

set_option Elab.async false
set_option linter.all false
set_option maxRecDepth 100000
namespace DL
open PySem PySem.Spec PyProof.Rows L2
section
variable {X : Cx} {c : Fc} {W : WX}
/-! ### comparisons as tests -/
theorem ptd_cmp {a b : Expr} {op : CmpOp} {r : R2} {rd : RD2} {ta tb : TD} {pos : Pos} (ho : OpR X (compareOp op) r) (hd : Op2 X.K r rd) (ha : PE X a (LE X.K c W ta)) (hb : PE X b (LE X.K c W tb)) (hm : behindInMarks op b = false) : PT X (.Compare a [op] [b] pos) (LT X.K c W (tvD (opD rd ta tb))) :=
  PT_imp (pt_cmpR ho ha hb hm) fun σ H Q ⟨δ, tmp, Qd, Ed, S, q, k, w⟩ => lift_op hd σ H _ ⟨δ, tmp, _, Ed, S, q, fun v x δ' H' ⟨b, e, q'⟩ ⟨F, ow, S'⟩ => by
    subst e
    cases S'.top
    exact ⟨b, rfl, k _ _ _ q' ⟨F, ow, S'.pop⟩⟩, w⟩
theorem lift_chain {K : PySem.W.Frag} {r r' : R2} {rd rd' : RD2} {ta tb tc : TD} (hd : Op2 K r rd) (hd' : Op2 K r' rd') : ∀ σ H Q, LE K c W (chainD rd rd' ta tb tc) σ H Q → tChain r r' (LE K c W ta) (LE K c W tb) (LE K c W tc) σ H Q := fun σ H Q ⟨δ, tmp, Qd, Ed, S, t, k, w⟩ => by
  refine ⟨δ, tmp, _, Ed, S, t, fun x a δ1 H1 t1 S1 => ?_, w⟩
  refine ⟨δ1, _, _, Ed, S1, t1, fun y b δ2 H2 t2 ⟨F, ow, S2⟩ => ?_, w.push⟩
  obtain ⟨F', S3, _⟩ := S2.top_frz2
  refine hd x y _ _ F' H2 _ _ S3.fh S3.pop.top S3.top t2 fun v dv F2 H3 ⟨kk, e, q⟩ m => ?_
  subst e
  cases m with
  | d e r =>
    cases r
    refine ⟨kk, rfl, ?_⟩
    have S4 := S3.ext e
    cases kk with
    | false => exact k _ _ _ _ q ⟨F2, ow, S4.pop.pop.push (.bl _)⟩
    | true =>
      have S5 : SttF K c F2 ow δ2 ((y, .d b.toD) :: tmp) σ H3 := S4.pop.pop.push S4.top
      refine ⟨δ2, _, _, Ed, ⟨F2, ow, S5⟩, q, fun u z δ3 H4 q2 ⟨F5, ow5, S6⟩ => ?_, w.push⟩
      obtain ⟨F7, S7, s7⟩ := S6.top_frz
      exact hd' y u _ _ F7 H4 Q _ S7.fh S7.pop.top S7.top q2 fun v dv F8 H5 q3 m => k _ _ _ _ q3 (m.stt S7.pop.pop)
theorem ptd_chain {a b e : Expr} {op op' : CmpOp} {r r' : R2} {rd rd' : RD2} {ta tb tc : TD} {pos : Pos} (ho : OpR X (compareOp op) r) (hd : Op2 X.K r rd) (ho' : OpR X (compareOp op') r') (hd' : Op2 X.K r' rd') (ha : PE X a (LE X.K c W ta)) (hb : PE X b (LE X.K c W tb)) (hc : PE X e (LE X.K c W tc)) (hm : lastMarks [op, op'] [b, e] = false) :
    PT X (.Compare a [op, op'] [b, e] pos) (LT X.K c W (tvD (chainD rd rd' ta tb tc))) :=
  PT_imp (pt_chain ho ho' ha hb hc (hm := hm)) fun σ H Q ⟨δ, tmp, Qd, Ed, S, q, k, w⟩ => lift_chain hd hd' σ H _ ⟨δ, tmp, _, Ed, S, q, fun v x δ' H' ⟨b, e, q'⟩ ⟨F, ow, S'⟩ => by
    subst e
    cases S'.top
    exact ⟨b, rfl, k _ _ _ q' ⟨F, ow, S'.pop⟩⟩, w⟩
/-! ### a, b = e -/
def unpackD (t : TD) (g : TDG) : TDS := fun D δ => t δ (fun x δ1 => g x.toD δ1 D.nx) D.ex
theorem psd_unpack {tg e : Expr} {t : TD} {g : TDG} {vs : List Nat} {pos : Pos} (he : PE X e (LE X.K c W t)) (hg : PG X tg (LG X.K c vs g)) (h : ∀ {te : TE} {g : TG}, PE X e te → PG X tg g → PS X (.Assign [tg] e pos) (tAsg te g)) : PS X (.Assign [tg] e pos) (LS X.K c W (unpackD t g)) :=
  PS_imp (h he hg) fun D σ H ⟨δ, tmp, Dd, S, q, k, kr, kb, kc, w⟩ => ⟨δ, tmp, _, _, S, q, fun v x δ' H' q' ⟨F, ow, S'⟩ => by
    obtain ⟨F2, S2, _⟩ := S'.top_frz
    exact ⟨δ', tmp, _, _, ⟨F2, ow, S2⟩, q', fun δ3 σ3 H3 q3 S3 _ => k _ _ _ q3 S3⟩, w⟩
/-! ### lists and tuples, whichever it is -/
def seqI (t : TD) : TDI := fun δ Q E => t δ (fun x δ1 => ∃ xs, (x.toD = .lst xs ∨ x.toD = .ro xs ∨ x.toD = .tup xs) ∧ Q xs δ1) E
/-! ### enumerate, zip: pairs -/
def enumL (xs : List D) : List D := xs.zipIdx.map fun p => .tup [.int (p.2 : Nat), p.1]
def zipL (xs ys : List D) : List D := (xs.zip ys).map fun p => .tup [p.1, p.2]
theorem serve_enum {K : PySem.W.Frag} {p : Addr} {src : D} {items : List D} (e : src = .lst items ∨ src = .ro items) : Serve K (Ite K p) (.ref p) src (enumL items) := by
  have sq : ∀ {F H : Hp}, Same F H → Rep K F (.ref p) src → ∃ vs, SqL K H p vs ∧ RepL K F vs items := fun {F H} s r => by
    rcases e with rfl | rfl
    · cases r with | lst s1 r1 => exact ⟨_, s.seq (SqL.of s1), r1⟩
    · cases r with | ro s1 r1 => exact ⟨_, s.seq s1, r1⟩
  have hl : (enumL items).length = items.length := by simp [enumL]
  refine ⟨fun i F H s r hi => ?_, fun i F H s r hi => ?_, fun i F H x H' s r y d hd => ?_⟩
  · obtain ⟨vs, h, rl⟩ := sq s r
    rw [hl] at hi
    obtain ⟨v, e, _⟩ := rl.get (List.getElem?_eq_getElem hi)
    exact ⟨vs, v, h, e⟩
  · obtain ⟨vs, h, rl⟩ := sq s r
    exact ⟨vs, h, by rw [rl.len, ← hl]; exact hi⟩
  · obtain ⟨vs, h, rl⟩ := sq s r
    obtain ⟨T, z, rfl, nT, rfl, y⟩ := y
    have hi : i < items.length := by rw [← hl]; exact set_lt hd
    obtain ⟨v, e, rv⟩ := rl.get (List.getElem?_eq_getElem hi)
    rw [y vs h] at e
    cases e
    have : d = .tup [.int (i : Nat), items[i]] := by
      unfold enumL at hd
      rw [List.getElem?_map, List.getElem?_zipIdx, List.getElem?_eq_getElem hi] at hd
      simpa using hd.symm
    subst this
    exact ⟨_, Ext.new s nT, .tup upd_same (.cons (.int _) (.cons (rv.mono (same_upd (Same.refl F) (s.free nT))) .nil))⟩
def enumI (ta : TDA) : TDI := fun δ Q E => ta δ (fun as δ1 => ∃ x xs, as = [.d x] ∧ (x = .lst xs ∨ x = .ro xs) ∧ Q (enumL xs) δ1) E
theorem pid_enum {e : Expr} {ta : TDA} {p pos tpos : Pos} {elts : List Expr} {kk : Nat} (hg : Gl X "enumerate") (hm : X.mg "enumerate" = none) (ha : PA X [e] (LA X.K c W ta)) (hs : starEach [e] X.env = [(false, eval e X.env)] := by rfl) : PI X (.Tuple elts kk tpos) (.Call (.Name "enumerate" p) [e] [] pos) (LI X.K c W (enumI ta)) :=
  PI_imp (pi_enum hg hm ha hs) fun σ H R ⟨δ, tmp, Qd, Ed, S, q, k, w⟩ => ⟨δ, tmp, _, _, S, q, fun vs as δ' F ow H' ⟨x, xs, e, hx, q'⟩ S' ra => by
    subst e
    cases ra with
    | d h t =>
      cases t
      have h0 := h
      rcases hx with rfl | rfl
      · cases h with | lst s1 r1 => exact ⟨_, _, rfl, S'.fh.seq (SqL.of s1), k _ _ _ _ _ _ q' (serve_enum (.inl rfl)) ⟨F, ow, S'.push h0⟩⟩
      · cases h with | ro s1 r1 => exact ⟨_, _, rfl, S'.fh.seq s1, k _ _ _ _ _ _ q' (serve_enum (.inr rfl)) ⟨F, ow, S'.push h0⟩⟩, w⟩
/-! ### slices -/
abbrev TDO := DSt → (Option Int → DSt → Prop) → XD → Prop
def LO (K : PySem.W.Frag) (c : Fc) (W : WX) (t : TDO) : TO := fun σ H Q => ∃ δ tmp Qd Ed, Stt K c δ tmp σ H ∧ t δ Qd Ed ∧ (∀ i δ' H', Qd i δ' → Stt K c δ' tmp σ H' → Q i H') ∧ WD K c W tmp Ed
theorem PO_imp {e : Option Expr} {t t' : TO} (h : PO X e t) (f : ∀ σ H Q, t' σ H Q → t σ H Q) : PO X e t' := ⟨fun pins s σ H Q I q => h.run pins s σ H Q I (f _ _ _ q)⟩
def noneO : TDO := fun δ Q _ => Q none δ
def someO (t : TD) : TDO := fun δ Q E => t δ (fun x δ1 => ∃ i, x.toD = .int i ∧ Q (some i) δ1) E
theorem pod_none : PO X none (LO X.K c W noneO) := PO_imp po_none fun σ H Q ⟨δ, tmp, Qd, Ed, S, q, k, w⟩ => k _ _ _ q S
theorem pod_some {e : Expr} {t : TD} (he : PE X e (LE X.K c W t)) : PO X (some e) (LO X.K c W (someO t)) := PO_imp (po_some he) fun σ H Q ⟨δ, tmp, Qd, Ed, S, q, k, w⟩ =>
  ⟨δ, tmp, _, Ed, S, q, fun v x δ' H' ⟨i, e, q'⟩ ⟨F, ow, S'⟩ => by
    obtain ⟨F2, S2, _⟩ := S'.top_frz
    rw [e] at S2
    cases S2.top
    exact ⟨i, rfl, k _ _ _ q' ⟨F2, ow, S2.pop⟩⟩, w⟩
abbrev RDS := D → Option Int → Option Int → (DV → Prop) → Prop
def SlD (K : PySem.W.Frag) (r : V → Option Int → Option Int → Hp → VK → Prop) (rd : RDS) : Prop := ∀ x a lo hi F H Q Qd, Same F H → Rep K F x a → rd a lo hi Qd → (∀ v dv F' H', Qd dv → Made K F H F' H' v dv → Q v H') → r x lo hi H Q
def sliceD (rd : RDS) (t : TD) (tl th : TDO) : TD := fun δ Q E => t δ (fun x δ1 => tl δ1 (fun l δ2 => th δ2 (fun h δ3 => rd x.toD l h fun z => Q z δ3) E) E) E
theorem pd_sliceR {e : Expr} {lo hi : Option Expr} {r : V → Option Int → Option Int → Hp → VK → Prop} {rd : RDS} {t : TD} {tl th : TDO} {p2 pos : Pos} (hr : SlR X r) (hd : SlD X.K r rd) (he : PE X e (LE X.K c W t)) (hl : PO X lo (LO X.K c W tl)) (hh : PO X hi (LO X.K c W th)) :
    PE X (.Subscript e (.Slice lo hi none p2) pos) (LE X.K c W (sliceD rd t tl th)) := PE_imp (pe_slice hr he hl hh) fun σ H Q ⟨δ, tmp, Qd, Ed, S, q, k, w⟩ =>
  ⟨δ, tmp, _, Ed, S, q, fun v x δ1 H1 q1 S1 => ⟨δ1, _, _, Ed, S1, q1, fun l δ2 H2 q2 S2 => ⟨δ2, _, _, Ed, S2, q2, fun h δ3 H3 q3 ⟨F, ow, S3⟩ => by
    obtain ⟨F2, S4, _⟩ := S3.top_frz
    exact hd v _ l h F2 H3 Q _ S4.fh S4.top q3 fun u dv F5 H5 q5 m => k _ _ _ _ q5 (m.stt S4.pop), w.push⟩, w.push⟩, w⟩
abbrev sliceL : RDS := fun a lo hi Q => ∃ xs, (a = .lst xs ∨ a = .ro xs) ∧ Q (.own (.lst (cutD xs lo hi)))
theorem sld_list {K : PySem.W.Frag} : SlD K (rSlL K) sliceL := fun x a lo hi F H Q Qd s r ⟨xs, e, q⟩ k => by
  rcases e with rfl | rfl
  · cases r with | lst s1 r1 => exact ⟨_, _, rfl, s.seq (SqL.of s1), fun p n => k _ _ _ _ q (made_list n s (r1.cut lo hi))⟩
  · cases r with | ro s1 r1 => exact ⟨_, _, rfl, s.seq s1, fun p n => k _ _ _ _ q (made_list n s (r1.cut lo hi))⟩
theorem pd_slice {e : Expr} {lo hi : Option Expr} {t : TD} {tl th : TDO} {p2 pos : Pos} (he : PE X e (LE X.K c W t)) (hl : PO X lo (LO X.K c W tl)) (hh : PO X hi (LO X.K c W th)) : PE X (.Subscript e (.Slice lo hi none p2) pos) (LE X.K c W (sliceD sliceL t tl th)) := pd_sliceR sl_list sld_list he hl hh
/-! ### dicts by tuples of ints and texts -/
/-- a tuple of ints and texts as a key -/
def keyD : List Key → D := fun ks => .tup (ks.map fun | .inl i => .int i | .inr x => .str x)
theorem keyD_V {K : PySem.W.Frag} {F H : Hp} {v : V} {ks : List Key} (s : Same F H) (r : Rep K F v (keyD ks)) : ∃ b, v = .ref b ∧ H b = some (.tup (ks.map kV)) := by
  unfold keyD at r
  cases r with
  | tup s1 r1 =>
    refine ⟨_, rfl, ?_⟩
    rw [s _ _ s1]
    congr 2
    exact repL_map (f := kV) (fun {F v a} r => by cases a <;> (cases r; rfl)) r1
def valD (kvs : List (List Key × D)) (k : List Key) : Option D := (kvs.find? fun p => decide (p.1 = k)).map (·.2)
def putT (kvs : List (List Key × D)) (k : List Key) (d : D) : List (List Key × D) := if (valD kvs k).isSome then kvs.map (fun p => if p.1 = k then (p.1, d) else p) else kvs ++ [(k, d)]
end
end DL

set_option Elab.async false
set_option linter.all false
set_option maxRecDepth 100000
/-! readings step by step -/
namespace DR
open PySem PySem.Spec PyProof.Rows L2 DL
section
variable {δ : DSt} {Q : DK} {E : XD} {D : EndsD}
theorem seq {t u : TDS} (h : t { D with nx := u D } δ) : seqD t u D δ := h
theorem next (h : D.nx δ) : nextD D δ := h
theorem brk (h : D.bk δ) : breakD D δ := h
theorem cont (h : D.ct δ) : contD D δ := h
theorem drop {t : TD} (h : t δ (fun _ δ1 => D.nx δ1) D.ex) : dropD t D δ := h
theorem ret {t : TD} (h : t δ D.rt D.ex) : retD t D δ := h
theorem retN (h : D.rt (.d .non) δ) : retND D δ := h
theorem set {i : Nat} {t : TD} (h : t δ (fun x δ1 => D.nx (δ1.set i (some (.d x.toD)))) D.ex) : setD i t D δ := h
theorem setO {i : Nat} {t : TD} (h : t δ (fun x δ1 => D.nx (δ1.set i (some x))) D.ex) : DL.setO i t D δ := h
theorem setLc {i : Nat} {o : Bool} {t : TD} (h : t δ (fun x δ1 => D.nx (δ1.set i (some (asD o x)))) D.ex) : setLcD i o t D δ := h
theorem par {i j : Nat} {oi oj : Bool} {t : TDK} (h : t δ (fun xs δ1 => ∃ x y, xs = [x, y] ∧ D.nx ((δ1.set j (some (asD oj y))).set i (some (asD oi x)))) D.ex) : parD i j oi oj t D δ := h
theorem unpack {t : TD} {g : TDG} (h : t δ (fun x δ1 => g x.toD δ1 D.nx) D.ex) : unpackD t g D δ := h
theorem nilk {Q : List DV → DSt → Prop} (h : Q [] δ) : nilK δ Q E := h
theorem consk {t : TD} {r : TDK} {Q : List DV → DSt → Prop} (h : t δ (fun x δ1 => r δ1 (fun xs δ2 => Q (x :: xs) δ2) E) E) : consK t r δ Q E := h
theorem if_ {c : TDT} {t u : TDS} (h : c δ (fun b δ1 => if b = true then t D δ1 else u D δ1) D.ex) : ifD c t u D δ := h
theorem ifE {c : TDT} {t u : TD} (h : c δ (fun b δ1 => if b = true then t δ1 Q E else u δ1 Q E) E) : ifExpD c t u δ Q E := h
theorem not {t : TDT} {Q : Bool → DSt → Prop} (h : t δ (fun b δ1 => Q (!b) δ1) E) : notD t δ Q E := h
theorem and {t u : TDT} {Q : Bool → DSt → Prop} (h : t δ (fun b δ1 => if b = true then u δ1 Q E else Q false δ1) E) : andD t u δ Q E := h
theorem or {t u : TDT} {Q : Bool → DSt → Prop} (h : t δ (fun b δ1 => if b = true then Q true δ1 else u δ1 Q E) E) : orD t u δ Q E := h
theorem tv {t : TD} {Q : Bool → DSt → Prop} (h : t δ (fun x δ1 => ∃ b, x = .d (.bl b) ∧ Q b δ1) E) : tvD t δ Q E := h
theorem boolE {t : TD} {k : Bool → DSt → Prop} (h : t δ (fun x δ1 => ∃ b, x = .d (.bl b) ∧ k b δ1) E) : DL.boolE t k E δ := h
theorem notv {t : TD} (h : t δ (fun x δ1 => ∃ b, x = .d (.bl b) ∧ Q (.d (.bl (!b))) δ1) E) : notV t δ Q E := h
theorem andv {t u : TD} (h : t δ (fun x δ1 => ∃ b, x = .d (.bl b) ∧ if b = true then u δ1 Q E else Q (.d (.bl false)) δ1) E) : andV t u δ Q E := h
theorem orv {t u : TD} (h : t δ (fun x δ1 => ∃ b, x = .d (.bl b) ∧ if b = true then Q (.d (.bl true)) δ1 else u δ1 Q E) E) : orV t u δ Q E := h
theorem const {d : DL.D} (h : Q (.d d) δ) : constD d δ Q E := h
theorem var {i : Nat} {x : DL.D} (e : δ[i]? = some (some (.d x))) (h : Q (.d x) δ) : varD i δ Q E := ⟨x, e, h⟩
theorem fvar {i : Nat} {x : DV} (e : δ[i]? = some (some x)) (h : Q (.d x.toD) (δ.set i (some (.d x.toD)))) : fvarD i δ Q E := ⟨x, e, h⟩
theorem mvar {i : Nat} {x : DV} (e : δ[i]? = some (some x)) (h : Q x (δ.set i none)) : mvarD i δ Q E := ⟨x, e, h⟩
theorem op {rd : RD2} {ta tb : TD} (h : ta δ (fun x δ1 => tb δ1 (fun y δ2 => rd x.toD y.toD fun z => Q z δ2) E) E) : opD rd ta tb δ Q E := h
theorem chain {rd rd' : RD2} {ta tb tc : TD} (h : ta δ (fun x δ1 => tb δ1 (fun y δ2 => rd x.toD y.toD fun z => ∃ k, z = .d (.bl k) ∧ if k = true then tc δ2 (fun w δ3 => rd' y.toD w.toD fun z' => Q z' δ3) E else Q (.d (.bl false)) δ2) E) E) : chainD rd rd' ta tb tc δ Q E := h
theorem neg {t : TD} (h : t δ (fun x δ1 => ∃ i, x.toD = .int i ∧ Q (.d (.int (-i))) δ1) E) : negD t δ Q E := h
theorem nil {Q : List AV → DSt → Prop} (h : Q [] δ) : nilD δ Q E := h
theorem cons {t : TD} {r : TDA} {Q : List AV → DSt → Prop} (h : t δ (fun x δ1 => r δ1 (fun as δ2 => Q (.d x.toD :: as) δ2) E) E) : consD t r δ Q E := h
theorem consO {i : Nat} {r : TDA} {Q : List AV → DSt → Prop} (h : r δ (fun as δ2 => Q (.o i :: as) δ2) E) : DL.consO i r δ Q E := h
theorem call {sd : SpD} {ta : TDA} (h : ta δ (fun as δ1 => ∃ xs, argsOf δ1 as xs ∧ (slotsOf as).Nodup ∧ sd xs (fun r os => Q r (putBack δ1 (slotsOf as) os)) (fun x os => E x (putBack δ1 (slotsOf as) os))) E) : callD sd ta δ Q E := h
theorem built {rd : RDN} {ta : TDA} (h : ta δ (fun as δ1 => ∃ ds, as = ds.map .d ∧ rd ds fun z => Q z δ1) E) : builtD rd ta δ Q E := h
theorem builtO {i : Nat} {rd : RDNs} {xs : List DL.D} (e : δ[i]? = some (some (.own (.lst xs)))) (h : rd [.lst xs] fun z => NoStr z ∧ Q (.d z) δ) : DL.builtO i rd δ Q E := ⟨xs, e, h⟩
theorem tup {ta : TDA} (h : ta δ (fun as δ1 => ∃ ds, as = ds.map .d ∧ ds.length ≤ sizeLine ∧ Q (.d (.tup ds)) δ1) E) : tupD ta δ Q E := h
theorem lst {ta : TDA} (h : ta δ (fun as δ1 => ∃ ds, as = ds.map .d ∧ ds.length ≤ sizeLine ∧ Q (.own (.lst ds)) δ1) E) : lstD ta δ Q E := h
theorem ixo {i : Nat} {t : TD} {o : OC} (e : δ[i]? = some (some (.own o))) (h : t δ (fun k δ1 => ∃ xs j d, δ1[i]? = some (some (.own (.lst xs))) ∧ k.toD = .int j ∧ atI xs j = some d ∧ Q (.d d) δ1) E) : ixO i t δ Q E := ⟨o, e, h⟩
theorem setItem {j : Nat} {ti te : TD} {o : OC} (e : δ[j]? = some (some (.own o))) (h : te δ (fun y δ1 => ti δ1 (fun k δ2 => ∃ xs n m, δ2[j]? = some (some (.own (.lst xs))) ∧ k.toD = .int n ∧ ixN xs.length n = some m ∧ D.nx (δ2.set j (some (.own (.lst (xs.set m y.toD)))))) D.ex) D.ex) : DL.setItem j ti te D δ := ⟨o, e, h⟩
theorem meth {j : Nat} {rd : RDM} {ta : TDA} {x0 : List DL.D} (e : δ[j]? = some (some (.own (.lst x0)))) (h : ta δ (fun as δ1 => ∃ ds xs, as = ds.map .d ∧ δ1[j]? = some (some (.own (.lst xs))) ∧ rd xs ds fun z zs => Q (.d z) (δ1.set j (some (.own (.lst zs))))) E) : methO j rd ta δ Q E := ⟨x0, e, h⟩
theorem fld {C : Addr} {f : Str} {t : TD} (h : t δ (fun o δ1 => ∃ fs d, o.toD = .obj C fs ∧ fs.lookup f = some d ∧ Q (.d d) δ1) E) : fldD C f t δ Q E := h
theorem fldo {C : Addr} {i : Nat} {f : Str} {fs : List (Str × DL.D)} {d : DL.D} (e : δ[i]? = some (some (.own (.ins C fs)))) (l : fs.lookup f = some d) (h : Q (.d d) δ) : fldO C i f δ Q E := ⟨fs, d, e, l, h⟩
theorem fldset {C : Addr} {i : Nat} {f : Str} {t : TD} (h : t δ (fun y δ1 => ∃ fs, δ1[i]? = some (some (.own (.ins C fs))) ∧ fs.length < 1000 ∧ D.nx (δ1.set i (some (.own (.ins C (putD f y.toD fs)))))) D.ex) : fldSet C i f t D δ := h
theorem make {C : Addr} {sd : SpD} {ta : TDA} (h : ta δ (fun as δ1 => ∃ xs, argsOf δ1 as xs ∧ (slotsOf as).Nodup ∧ sd (.own (.ins C []) :: xs)
  (fun r os => r = .d .non ∧ ∃ fs os', os = .ins C fs :: os' ∧ Q (.d (.obj C fs)) (putBack δ1 (slotsOf as) os')) (fun x os => ∃ o os', os = o :: os' ∧ E x (putBack δ1 (slotsOf as) os'))) E) : makeD C sd ta δ Q E := h
theorem methd {C : Addr} {m : Str} {sd : SpD} {to : TD} {ta : TDA} (h : to δ (fun o δ1 => ∃ fs, o.toD = .obj C fs ∧ fs.lookup m = none ∧ ta δ1 (fun as δ2 => ∃ xs, argsOf δ2 as xs ∧ (slotsOf as).Nodup ∧
  sd (.d (.obj C fs) :: xs) (fun r os => Q r (putBack δ2 (slotsOf as) os)) (fun x os => E x (putBack δ2 (slotsOf as) os))) E) E) : methD C m sd to ta δ Q E := h
theorem for_ {ti : TDI} {g : TDG} {tb : TDS} (h : ti δ (fun xs δ1 => forD g tb D xs δ1) D.ex) : forS ti g tb D δ := h
theorem comp {ti : TDI} {g : TDG} {tt : TDT} {te : TD} {vs : List Nat} (h : ti δ (fun xs δ1 => lcD g tt te vs xs [] (wipeD δ1 vs) fun acc δ2 => Q (.own (.lst acc)) δ2) E) : compD ti g tt te vs δ Q E := h
theorem yes {Q : Bool → DSt → Prop} (h : Q true δ) : yesD δ Q E := h
theorem nameg {i : Nat} {x : DL.D} {Q : DSt → Prop} (h : Q (δ.set i (some (.d x)))) : nameG i x δ Q := h
theorem tupg {is : List Nat} {xs : List DL.D} {Q : DSt → Prop} (h : namesG is xs δ Q) : tupG is (.tup xs) δ Q := ⟨xs, rfl, h⟩
theorem namesC {i : Nat} {is : List Nat} {x : DL.D} {xs : List DL.D} {Q : DSt → Prop} (h : namesG is xs (δ.set i (some (.d x))) Q) : namesG (i :: is) (x :: xs) δ Q := h
theorem namesN {Q : DSt → Prop} (h : Q δ) : namesG [] [] δ Q := h
theorem listi {t : TD} {Q : List DL.D → DSt → Prop} (h : t δ (fun x δ1 => ∃ xs, (x.toD = .lst xs ∨ x.toD = .ro xs) ∧ Q xs δ1) E) : listI t δ Q E := h
theorem tupi {t : TD} {Q : List DL.D → DSt → Prop} (h : t δ (fun x δ1 => ∃ xs, x.toD = .tup xs ∧ Q xs δ1) E) : tupI t δ Q E := h
theorem stri {t : TD} {Q : List DL.D → DSt → Prop} (h : t δ (fun x δ1 => ∃ z, x.toD = .str z ∧ Q (z.cps.toList.map fun ch => .str ⟨#[ch]⟩) δ1) E) : strI t δ Q E := h
theorem range1 {ta : TDA} {Q : List DL.D → DSt → Prop} (h : ta δ (fun as δ1 => ∃ j, as = [.d (.int j)] ∧ -(2 ^ 62) ≤ j ∧ j < 2 ^ 62 ∧ Q (upto 0 j.toNat) δ1) E) : range1I ta δ Q E := h
theorem raise {B : Addr} {ns : List Str} {ta : TDA} (h : ta δ (fun as δ1 => ∃ ds, as = ds.map .d ∧ ds.length = ns.length ∧ ds.length ≤ 1000 ∧ D.ex ⟨B, some (ns.zip ds)⟩ δ1) D.ex) : raiseD B ns ta D δ := h
theorem iteT {A B : Prop} (h : A) : if true = true then A else B := h
theorem iteF {A B : Prop} (h : B) : if false = true then A else B := h
theorem nit {A B : Prop} (h : B) : if (!true) = true then A else B := h
theorem nif {A B : Prop} (h : A) : if (!false) = true then A else B := h
/-- an open test -/
theorem split {p : Prop} [Decidable p] {A B : Prop} (h1 : p → A) (h2 : ¬ p → B) : if decide p = true then A else B := by
  by_cases h : p
  · rw [if_pos (decide_eq_true h)]; exact h1 h
  · rw [if_neg (by rw [decide_eq_false h]; exact Bool.false_ne_true)]; exact h2 h
theorem splitN {p : Prop} [Decidable p] {A B : Prop} (h1 : p → B) (h2 : ¬ p → A) : if (!decide p) = true then A else B := by
  by_cases h : p
  · rw [if_neg (by rw [decide_eq_true h]; exact Bool.false_ne_true)]; exact h1 h
  · rw [if_pos (by rw [decide_eq_false h]; rfl)]; exact h2 h
theorem splitB {b : Bool} {A B : Prop} (h1 : b = true → A) (h2 : b = false → B) : if b = true then A else B := by
  cases b
  · exact h2 rfl
  · exact h1 rfl
end
theorem args_n {δ : DSt} : argsOf δ [] [] := rfl
theorem args_d {δ : DSt} {x : DL.D} {r : List AV} {t : List DV} (h : argsOf δ r t) : argsOf δ (.d x :: r) (.d x :: t) := ⟨t, rfl, h⟩
theorem args_o {δ : DSt} {i : Nat} {o : OC} {r : List AV} {t : List DV} (e : δ[i]? = some (some (.own o))) (h : argsOf δ r t) : argsOf δ (.o i :: r) (.own o :: t) := ⟨o, t, e, rfl, h⟩
theorem nost_i {i : Int} : NoStr (.int i) := fun _ e => nomatch e
theorem nost_b {b : Bool} : NoStr (.bl b) := fun _ e => nomatch e
theorem nost_n : NoStr .non := fun _ e => nomatch e
theorem start {t : TDS} {D : EndsD} {δ δ' : DSt} (e : δ = δ') (h : t D δ') : t D δ := by rw [e]; exact h
theorem tk_n {δ : DSt} : takeB δ [] [] := rfl
theorem tk_c {δ : DSt} {i : Nat} {is : List Nat} {o : OC} {os : List OC} (e : δ[i]? = some (some (.own o))) (h : takeB δ is os) : takeB δ (i :: is) (o :: os) := ⟨o, os, rfl, e, h⟩
theorem rt {sl : List Nat} {Qd : DV → List OC → Prop} {Ed : Ex → List OC → Prop} {x : DV} {δ : DSt} {os : List OC} (t : takeB δ sl os) (q : Qd x os) : (endsD sl Qd Ed).rt x δ := ⟨os, t, q⟩
theorem nx {sl : List Nat} {Qd : DV → List OC → Prop} {Ed : Ex → List OC → Prop} {δ : DSt} {os : List OC} (t : takeB δ sl os) (q : Qd (.d .non) os) : (endsD sl Qd Ed).nx δ := ⟨os, t, q⟩
theorem ex {sl : List Nat} {Qd : DV → List OC → Prop} {Ed : Ex → List OC → Prop} {x : Ex} {δ : DSt} {os : List OC} (t : takeB δ sl os) (q : Ed x os) : (endsD sl Qd Ed).ex x δ := ⟨os, t, q⟩
theorem map1 {a : DL.D} : [AV.d a] = [a].map .d := rfl
end DR
namespace DL
open PySem PySem.Spec PyProof.Rows L2
/-- a def as its callers know it -/
structure DefD (P : Program) (w : World) (K : PySem.W.Frag) (mg : Str → Option Value) (base : Heap) (x : Str) (k : Nat) (ps : List Str) (sd : SpD) where
  f : Addr
  fd : FuncData
  ok : FnOk P w K mg base (L2.CX P w) k f fd ps (spOf K sd)
  mg : mg x = some (.ref f)
  kp : PySem.W.keepIn K (.ref f) = true
  b : Binds K fd ps []
end DL

set_option Elab.async false
set_option linter.all false
set_option maxRecDepth 100000
namespace DL
open PySem PySem.Spec PyProof.Rows L2
/-! ### dicts by tuples -/
section
variable {K : PySem.W.Frag} {F H : Hp}
theorem repT_get {k : List Key} : ∀ {vs : List (List Key × V)} {ds : List (List Key × D)}, RepT K F vs ds → (valD ds k = none → valV vs k = none) ∧ ∀ d, valD ds k = some d → ∃ v, valV vs k = some v ∧ Rep K F v d
  | _, _, .nil => ⟨fun _ => rfl, fun d h => nomatch h⟩
  | _, _, .cons (n := n) (v := v) (d := d) (vs := vs) (ds := ds) h t => by
    by_cases e : n = k
    · have e1 : valD ((n, d) :: ds) k = some d := by simp [valD, List.find?_cons, e]
      rw [e1, valV_pos (p := (n, v)) e]
      exact ⟨(fun z => nomatch z), fun d z => by cases z; exact ⟨v, rfl, h⟩⟩
    · have e1 : valD ((n, d) :: ds) k = valD ds k := by simp [valD, List.find?_cons, e]
      rw [e1, valV_neg (p := (n, v)) e]
      exact repT_get t
theorem repT_some {k : List Key} {vs : List (List Key × V)} {ds : List (List Key × D)} (r : RepT K F vs ds) : (valV vs k).isSome = (valD ds k).isSome := by
  cases q : valD ds k with
  | none => rw [(repT_get r).1 q]; rfl
  | some d => obtain ⟨v, e, _⟩ := (repT_get r).2 d q; rw [e]; rfl
theorem repT_len : ∀ {vs : List (List Key × V)} {ds : List (List Key × D)}, RepT K F vs ds → vs.length = ds.length
  | _, _, .nil => rfl
  | _, _, .cons _ t => congrArg (· + 1) (repT_len t)
theorem repT_map {k : List Key} {v : V} {d : D} (h : Rep K F v d) : ∀ {vs : List (List Key × V)} {ds : List (List Key × D)}, RepT K F vs ds → RepT K F (vs.map fun kv => if kv.1 = k then (kv.1, v) else kv) (ds.map fun p => if p.1 = k then (p.1, d) else p)
  | _, _, .nil => .nil
  | _, _, .cons (n := n) a t => by
    rw [List.map_cons, List.map_cons]
    by_cases e : n = k
    · rw [if_pos (show (n, _).1 = k from e), if_pos (show (n, _).1 = k from e)]; exact .cons h (repT_map h t)
    · rw [if_neg (show ¬ (n, _).1 = k from e), if_neg (show ¬ (n, _).1 = k from e)]; exact .cons a (repT_map h t)
theorem repT_app {k : List Key} {v : V} {d : D} (h : Rep K F v d) : ∀ {vs : List (List Key × V)} {ds : List (List Key × D)}, RepT K F vs ds → RepT K F (vs ++ [(k, v)]) (ds ++ [(k, d)])
  | _, _, .nil => .cons h .nil
  | _, _, .cons a t => .cons a (repT_app h t)
theorem repT_put {k : List Key} {v : V} {d : D} {vs : List (List Key × V)} {ds : List (List Key × D)} (h : Rep K F v d) (r : RepT K F vs ds) : RepT K F (putK vs k v) (putT ds k d) := by
  unfold putK putT
  rw [valV_any, repT_some r]
  cases (valD ds k).isSome
  · rw [if_neg Bool.false_ne_true, if_neg Bool.false_ne_true]; exact repT_app h r
  · rw [if_pos rfl, if_pos rfl]; exact repT_map h r
end
section
variable {X : Cx} {c : Fc} {W : WX}
def newTD : TD := fun δ Q _ => Q (.own (.dT [])) δ
theorem pd_newT {e : Expr} (h : PE X e tDNewT) : PE X e (LE X.K c W newTD) := PE_imp h fun σ H Q ⟨δ, tmp, Qd, Ed, ⟨F, ow, S⟩, q, k, w⟩ => fun p n =>
  k _ _ _ _ q ⟨F, _, S.pushNew (o := .dT []) n ⟨[], upd_same, .nil⟩⟩
def getO (j : Nat) (ti : TD) : TD := fun δ Q E => ∃ o, δ[j]? = some (some (.own o)) ∧ ti δ (fun k δ1 => ∃ kvs ks d, δ1[j]? = some (some (.own (.dT kvs))) ∧ k.toD = keyD ks ∧ valD kvs ks = some d ∧ Q (.d d) δ1) E
theorem pd_getO {j : Nat} {x : Str} {i : Expr} {ti : TD} {pos px : Pos} (h : ∀ {to ti : TE}, PE X (.Name x px) to → PE X i ti → PE X (.Subscript (.Name x px) i pos) (tDGet to ti)) (hv : PE X (.Name x px) (tVar j)) (hi : PE X i (LE X.K c W ti)) : PE X (.Subscript (.Name x px) i pos) (LE X.K c W (getO j ti)) :=
  PE_imp (h hv hi) fun σ H Q ⟨δ, tmp, Qd, Ed, ⟨F, ow, S⟩, ⟨o, eo, q⟩, k, w⟩ => by
    obtain ⟨v, e1, p, rfl, _⟩ := S.sl _ _ eo
    refine ⟨_, e1, δ, tmp, _, Ed, ⟨F, ow, S⟩, q, fun u y δ1 H1 ⟨kvs, ks, d, ej, ek, ed, q1⟩ ⟨F1, ow1, S1⟩ => ?_, w⟩
    obtain ⟨F2, S2, _⟩ := S1.top_frz
    obtain ⟨v', e2, p', rfl, _, _, _, vs, ep, r⟩ := S2.sl _ _ ej
    rw [e1] at e2
    cases e2
    rw [ek] at S2
    obtain ⟨b, rfl, eb⟩ := keyD_V S2.fh S2.top
    obtain ⟨z, ez, rz⟩ := (repT_get r).2 d ed
    refine ⟨p, z, rfl, ?_, k _ _ _ _ q1 ⟨F2, ow1, S2.pop.push rz⟩⟩
    rw [← ez]
    exact DGet.t ep eb
def getF (to ti : TD) : TD := fun δ Q E => to δ (fun o δ1 => ti δ1 (fun k δ2 => ∃ kvs ks d, o.toD = .dT kvs ∧ k.toD = keyD ks ∧ valD kvs ks = some d ∧ Q (.d d) δ2) E) E
theorem pd_get {o i : Expr} {to ti : TD} {pos : Pos} (h : ∀ {to ti : TE}, PE X o to → PE X i ti → PE X (.Subscript o i pos) (tDGet to ti)) (ho : PE X o (LE X.K c W to)) (hi : PE X i (LE X.K c W ti)) : PE X (.Subscript o i pos) (LE X.K c W (getF to ti)) :=
  PE_imp (h ho hi) fun σ H Q ⟨δ, tmp, Qd, Ed, S, q, k, w⟩ => ⟨δ, tmp, _, Ed, S, q, fun u x δ1 H1 q1 S1 => ⟨δ1, _, _, Ed, S1, q1, fun t y δ2 H2 ⟨kvs, ks, d, eo, ek, ed, q2⟩ ⟨F, ow, S2⟩ => by
    obtain ⟨F3, S3, _⟩ := S2.top_frz2
    rw [eo, ek] at S3
    obtain ⟨b, rfl, eb⟩ := keyD_V S3.fh S3.top
    have r0 := S3.pop.top
    cases r0 with
    | dT s r =>
      obtain ⟨z, ez, rz⟩ := (repT_get r).2 d ed
      exact ⟨_, z, rfl, .inr ⟨_, ks, b, rd_mono S3.fh s, rfl, eb, ez.symm⟩, k _ _ _ _ q2 ⟨F3, ow, S3.pop.pop.push rz⟩⟩, w.push⟩, w⟩
def putS (j : Nat) (te ti : TD) : TDS := fun D δ => te δ (fun v δ1 => (∃ o, δ1[j]? = some (some (.own o))) ∧ ti δ1 (fun k δ2 => ∃ kvs ks, δ2[j]? = some (some (.own (.dT kvs))) ∧ k.toD = keyD ks ∧ kvs.length < sizeLine ∧ D.nx (δ2.set j (some (.own (.dT (putT kvs ks v.toD)))))) D.ex) D.ex
theorem psd_put {j : Nat} {x : Str} {i e : Expr} {te ti : TD} {A : Prop} {pos pos' px : Pos} (hu : A) (h : ∀ {to ti tv : TE}, PE X (.Name x px) to → PE X i ti → PE X e tv → PS X (.Assign [.Subscript (.Name x px) i pos'] e pos) (sDPut to ti tv)) (hv : PE X (.Name x px) (tVar j)) (he : PE X e (LE X.K c W te)) (hi : PE X i (LE X.K c W ti)) :
    PS X (.Assign [.Subscript (.Name x px) i pos'] e pos) (LS X.K c W (putS j te ti)) :=
  PS_imp (h hv hi he) fun D σ H ⟨δ, tmp, Dd, S, q, k, kr, kb, kc, w⟩ => ⟨δ, tmp, _, _, S, q, fun u y δ1 H1 ⟨⟨o, eo⟩, q1⟩ ⟨F1, ow1, S1⟩ => by
    obtain ⟨F2, S2, _⟩ := S1.top_frz
    obtain ⟨v, e1, p, rfl, _⟩ := S2.sl _ _ eo
    refine ⟨_, e1, δ1, _, _, _, ⟨F2, ow1, S2⟩, q1, fun t z δ2 H2 ⟨kvs, ks, ej, ek, hl, q2⟩ ⟨F3, ow3, S3⟩ => ?_, w.push⟩
    obtain ⟨F4, S4, _⟩ := S3.top_frz
    rw [ek] at S4
    obtain ⟨b, rfl, eb⟩ := keyD_V S4.fh S4.top
    obtain ⟨v', e2, p', rfl, _, _, _, vs, ep, r⟩ := S4.sl _ _ ej
    rw [e1] at e2
    cases e2
    refine ⟨p, _, rfl, DPut.t ep eb (by rw [repT_len r]; exact hl), k _ _ _ q2 ⟨F4, ow3, ?_⟩⟩
    exact (S4.pop.write (o' := .dT (putT kvs ks y.toD)) ej e1 ⟨_, upd_same, repT_put S4.pop.top r⟩).pop, w⟩
def inO (j : Nat) (n : Bool) (ti : TD) : TD := fun δ Q E => ti δ (fun k δ1 => ∃ kvs ks, δ1[j]? = some (some (.own (.dT kvs))) ∧ k.toD = keyD ks ∧ Q (.d (.bl (n != (valD kvs ks).isSome))) δ1) E
theorem dget_o {K : PySem.W.Frag} {F H : Hp} {p b : Addr} {ks : List Key} {vs : List (List Key × V)} {ds : List (List Key × D)} (r : RepT K F vs ds) (ep : Rd H p (.dT vs)) (eb : H b = some (.tup (ks.map kV))) : ∃ o, DGet H p (.ref b) o ∧ o.isSome = (valD ds ks).isSome :=
  ⟨_, .inr ⟨vs, ks, b, ep, rfl, eb, rfl⟩, repT_some r⟩
theorem inO_run {K : PySem.W.Frag} {j : Nat} {n : Bool} {ti : TD} {f : Bool → Bool} (hf : ∀ b, f b = (n != b)) : ∀ σ H Q, LE K c W (inO j n ti) σ H Q → (LE K c W ti) σ H fun y H1 => tVar j σ H1 fun x H2 => ∃ a o, x = .ref a ∧ DGet H2 a y o ∧ Q (.bl (f o.isSome)) H2 := fun σ H Q ⟨δ, tmp, Qd, Ed, S, q, k, w⟩ =>
  ⟨δ, tmp, _, Ed, S, q, fun u y δ1 H1 ⟨kvs, ks, ej, ek, q1⟩ ⟨F1, ow1, S1⟩ => by
    obtain ⟨F2, S2, _⟩ := S1.top_frz
    rw [ek] at S2
    obtain ⟨b, rfl, eb⟩ := keyD_V S2.fh S2.top
    obtain ⟨v', e2, p', rfl, _, _, _, vs, ep, r⟩ := S2.sl _ _ ej
    obtain ⟨o, g, eo⟩ := dget_o r (.inl ep) eb
    exact ⟨_, e2, p', o, rfl, g, k _ _ _ _ (by rw [hf, eo]; exact q1) ⟨F2, ow1, S2.pop.push (.bl _)⟩⟩, w⟩
theorem pd_inO_t {j : Nat} {x : Str} {i : Expr} {ti : TD} {pos px : Pos} (h : ∀ {ty td : TE}, PE X i ty → PE X (.Name x px) td → PE X (.Compare i [.In] [.Name x px] pos) (tDIn ty td)) (hi : PE X i (LE X.K c W ti)) (hv : PE X (.Name x px) (tVar j)) : PE X (.Compare i [.In] [.Name x px] pos) (LE X.K c W (inO j false ti)) :=
  PE_imp (h hi hv) (inO_run (f := id) (fun b => by cases b <;> rfl))
theorem ptd_inO_t {j : Nat} {x : Str} {i : Expr} {ti : TD} {pos px : Pos} (h : ∀ {ty td : TE}, PE X i ty → PE X (.Name x px) td → PT X (.Compare i [.In] [.Name x px] pos) (tB (tDIn ty td))) (hi : PE X i (LE X.K c W ti)) (hv : PE X (.Name x px) (tVar j)) : PT X (.Compare i [.In] [.Name x px] pos) (LT X.K c W (tvD (inO j false ti))) :=
  PT_imp (h hi hv) fun σ H Q ⟨δ, tmp, Qd, Ed, S, q, k, w⟩ => inO_run (j := j) (n := false) (ti := ti) (f := id) (fun b => by cases b <;> rfl) σ H (fun v H1 => ∃ b, v = .bl b ∧ Q b H1) ⟨δ, tmp, (fun x δ1 => ∃ b, x = .d (.bl b) ∧ Qd b δ1), Ed, S, q, fun v x δ' H' ⟨b, e, q'⟩ ⟨F, ow, S'⟩ => by
    subst e
    cases S'.top
    exact ⟨b, rfl, k _ _ _ q' ⟨F, ow, S'.pop⟩⟩, w⟩
theorem ptd_inO_f {j : Nat} {x : Str} {i : Expr} {ti : TD} {pos px : Pos} (h : ∀ {ty td : TE}, PE X i ty → PE X (.Name x px) td → PT X (.Compare i [.NotIn] [.Name x px] pos) (tB (tDNotIn ty td))) (hi : PE X i (LE X.K c W ti)) (hv : PE X (.Name x px) (tVar j)) : PT X (.Compare i [.NotIn] [.Name x px] pos) (LT X.K c W (tvD (inO j true ti))) :=
  PT_imp (h hi hv) fun σ H Q ⟨δ, tmp, Qd, Ed, S, q, k, w⟩ => inO_run (j := j) (n := true) (ti := ti) (f := fun b => !b) (fun b => by cases b <;> rfl) σ H (fun v H1 => ∃ b, v = .bl b ∧ Q b H1) ⟨δ, tmp, (fun x δ1 => ∃ b, x = .d (.bl b) ∧ Qd b δ1), Ed, S, q, fun v x δ' H' ⟨b, e, q'⟩ ⟨F, ow, S'⟩ => by
    subst e
    cases S'.top
    exact ⟨b, rfl, k _ _ _ q' ⟨F, ow, S'.pop⟩⟩, w⟩
/-- a dict that changes no more -/
def inF (n : Bool) (ti td : TD) : TD := fun δ Q E => ti δ (fun k δ1 => td δ1 (fun o δ2 => ∃ kvs ks, o.toD = .dT kvs ∧ k.toD = keyD ks ∧ Q (.d (.bl (n != (valD kvs ks).isSome))) δ2) E) E
theorem inF_run {K : PySem.W.Frag} {n : Bool} {ti td : TD} {f : Bool → Bool} (hf : ∀ b, f b = (n != b)) : ∀ σ H Q, LE K c W (inF n ti td) σ H Q → (LE K c W ti) σ H fun y H1 => (LE K c W td) σ H1 fun x H2 => ∃ a o, x = .ref a ∧ DGet H2 a y o ∧ Q (.bl (f o.isSome)) H2 := fun σ H Q ⟨δ, tmp, Qd, Ed, S, q, k, w⟩ =>
  ⟨δ, tmp, _, Ed, S, q, fun u y δ1 H1 q1 S1 => ⟨δ1, _, _, Ed, S1, q1, fun t o δ2 H2 ⟨kvs, ks, eo, ek, q2⟩ ⟨F2, ow2, S2⟩ => by
    obtain ⟨F3, S3, _⟩ := S2.top_frz2
    rw [eo, ek] at S3
    obtain ⟨b, rfl, eb⟩ := keyD_V S3.fh S3.pop.top
    have r0 := S3.top
    cases r0 with
    | dT s r =>
      obtain ⟨ov, g, eov⟩ := dget_o r (rd_mono S3.fh s) eb
      exact ⟨_, ov, rfl, g, k _ _ _ _ (by rw [hf, eov]; exact q2) ⟨F3, ow2, S3.pop.pop.push (.bl _)⟩⟩, w.push⟩, w⟩
theorem ptd_inF_t {i o : Expr} {ti td : TD} {pos : Pos} (h : ∀ {ty td : TE}, PE X i ty → PE X o td → PT X (.Compare i [.In] [o] pos) (tB (tDIn ty td))) (hi : PE X i (LE X.K c W ti)) (ho : PE X o (LE X.K c W td)) : PT X (.Compare i [.In] [o] pos) (LT X.K c W (tvD (inF false ti td))) :=
  PT_imp (h hi ho) fun σ H Q ⟨δ, tmp, Qd, Ed, S, q, k, w⟩ => inF_run (n := false) (ti := ti) (td := td) (f := id) (fun b => by cases b <;> rfl) σ H (fun v H1 => ∃ b, v = .bl b ∧ Q b H1) ⟨δ, tmp, (fun x δ1 => ∃ b, x = .d (.bl b) ∧ Qd b δ1), Ed, S, q, fun v x δ' H' ⟨b, e, q'⟩ ⟨F, ow, S'⟩ => by
    subst e
    cases S'.top
    exact ⟨b, rfl, k _ _ _ q' ⟨F, ow, S'.pop⟩⟩, w⟩
theorem ptd_inF_f {i o : Expr} {ti td : TD} {pos : Pos} (h : ∀ {ty td : TE}, PE X i ty → PE X o td → PT X (.Compare i [.NotIn] [o] pos) (tB (tDNotIn ty td))) (hi : PE X i (LE X.K c W ti)) (ho : PE X o (LE X.K c W td)) : PT X (.Compare i [.NotIn] [o] pos) (LT X.K c W (tvD (inF true ti td))) :=
  PT_imp (h hi ho) fun σ H Q ⟨δ, tmp, Qd, Ed, S, q, k, w⟩ => inF_run (n := true) (ti := ti) (td := td) (f := fun b => !b) (fun b => by cases b <;> rfl) σ H (fun v H1 => ∃ b, v = .bl b ∧ Q b H1) ⟨δ, tmp, (fun x δ1 => ∃ b, x = .d (.bl b) ∧ Qd b δ1), Ed, S, q, fun v x δ' H' ⟨b, e, q'⟩ ⟨F, ow, S'⟩ => by
    subst e
    cases S'.top
    exact ⟨b, rfl, k _ _ _ q' ⟨F, ow, S'.pop⟩⟩, w⟩
/-! ### a property that raises nothing -/
def propD (C : Addr) (sd : SpD) (to : TD) : TD := fun δ Q E => to δ (fun o δ1 => ∃ fs, o.toD = .obj C fs ∧ sd [.d (.obj C fs)] (fun r os => Q r δ1) (fun _ _ => False)) E
theorem pd_prop {e : Expr} {C p f0 : Addr} {f : Str} {k : Nat} {fd : FuncData} {ps : List Str} {sd : SpD} {to : TD} {pos : Pos} (he : PE X e (LE X.K c W to)) (cl : Cls X.K C) (hp : PropOf X.K C f p f0) (G : FnOk X.prog X.w X.K X.mg X.base (L2.CX X.prog X.w) k f0 fd ps (spOf X.K sd)) (hr : Room (k + 1) X.A) (hb : Binds X.K fd ps [])
    (hab : attributeBase e f X.env (eval e X.env) = eval e X.env) : PE X (.Attribute e f pos) (LE X.K c W (propD C sd to)) :=
  PE_imp (pe_prop he cl hp G hr hb .nil (passL (X := X.nox)) hab) fun σ H Q ⟨δ, tmp, Qd, Ed, S, q, k, w⟩ => ⟨δ, tmp, _, Ed, S, q, fun v o δ1 H1 ⟨fs, eo, q1⟩ ⟨F, ow, S1⟩ => by
    obtain ⟨F2, S2, _⟩ := S1.top_frz
    rw [eo] at S2
    have r0 := S2.top
    cases r0 with
    | @obj a _ dx vs _ s h =>
      exact ⟨a, dx, vs, rfl, S2.fh _ _ s, F2, _, [], _, _, S2.fh, .d S2.top .nil, q1, fun v r os F' H' q P rr => k v r _ H' q (ret_push (is := []) S2.pop rfl (fun k i p e => by simp at e) List.nodup_nil P rr), fun _ _ _ _ _ _ z _ _ => z.elim⟩, w⟩
end
end DL

set_option Elab.async false
set_option linter.all false
set_option maxRecDepth 100000
/-! loops by what stays true -/
namespace DR
open PySem PySem.Spec PyProof.Rows L2 DL
theorem cut {t u : TDS} {D : EndsD} {δ : DSt} (I : DSt → Prop) (h1 : ∀ N : DSt → Prop, (∀ δ, I δ → N δ) → t { D with nx := N } δ) (h2 : ∀ δ, I δ → u D δ) : seqD t u D δ := h1 _ h2
theorem icut {ti : TDI} {E : XD} {δ : DSt} {Q : List DL.D → DSt → Prop} (I : List DL.D → DSt → Prop) (h1 : ∀ N : List DL.D → DSt → Prop, (∀ xs δ, I xs δ → N xs δ) → ti δ N E) (h2 : ∀ xs δ, I xs δ → Q xs δ) : ti δ Q E := h1 _ h2
theorem vcut {t : TD} {E : XD} {δ : DSt} {Q : DK} (I : DV → DSt → Prop) (h1 : ∀ N : DK, (∀ x δ, I x δ → N x δ) → t δ N E) (h2 : ∀ x δ, I x δ → Q x δ) : t δ Q E := h1 _ h2
theorem bcut {t : TDT} {E : XD} {δ : DSt} {Q : Bool → DSt → Prop} (I : Bool → DSt → Prop) (h1 : ∀ N : Bool → DSt → Prop, (∀ x δ, I x δ → N x δ) → t δ N E) (h2 : ∀ x δ, I x δ → Q x δ) : t δ Q E := h1 _ h2
theorem for_inv {g : TDG} {tb : TDS} {D : EndsD} {xs : List DL.D} {δ : DSt} (I : Nat → DSt → Prop) (h0 : I 0 δ)
    (hs : ∀ i x δ (N : DSt → Prop), xs[i]? = some x → I i δ → (∀ δ', I (i + 1) δ' → N δ') → g x δ (fun δ1 => tb { D with nx := N, ct := N, bk := D.nx } δ1))
    (hn : ∀ δ, I xs.length δ → D.nx δ) : forD g tb D xs δ := by
  have go : ∀ (m i : Nat) δ, i + m = xs.length → I i δ → forD g tb D (xs.drop i) δ := fun m => by
    induction m with
    | zero =>
      intro i δ e h
      have e : i = xs.length := e
      subst e
      rw [List.drop_length]
      exact hn δ h
    | succ m ih =>
      intro i δ e h
      have hl : i < xs.length := by omega
      rw [List.drop_eq_getElem_cons hl]
      exact hs i _ δ _ (List.getElem?_eq_getElem hl) h fun δ' h' => ih (i + 1) δ' (by omega) h'
  exact go xs.length 0 δ (Nat.zero_add _) h0
theorem lc_inv {g : TDG} {tt : TDT} {te : TD} {vs : List Nat} {xs : List DL.D} {δ : DSt} {Q : List DL.D → DSt → Prop} (J : Nat → List DL.D → DSt → Prop) (h0 : J 0 [] δ)
    (hs : ∀ i x acc δ (N : List DL.D → DSt → Prop), xs[i]? = some x → J i acc δ → (∀ acc' δ', J (i + 1) acc' δ' → N acc' δ') →
      g x δ (fun δ1 => tt δ1 (fun b δ2 => if b = true then te δ2 (fun y δ3 => acc.length < sizeLine ∧ N (acc ++ [y.toD]) (wipeD δ3 vs)) noX else N acc (wipeD δ2 vs)) noX))
    (hn : ∀ acc δ, J xs.length acc δ → Q acc δ) : lcD g tt te vs xs [] δ Q := by
  have go : ∀ (m i : Nat) acc δ, i + m = xs.length → J i acc δ → lcD g tt te vs (xs.drop i) acc δ Q := fun m => by
    induction m with
    | zero =>
      intro i acc δ e h
      have e : i = xs.length := e
      subst e
      rw [List.drop_length]
      exact hn acc δ h
    | succ m ih =>
      intro i acc δ e h
      have hl : i < xs.length := by omega
      rw [List.drop_eq_getElem_cons hl]
      exact hs i _ acc δ (fun a d => lcD g tt te vs (xs.drop (i + 1)) a d Q) (List.getElem?_eq_getElem hl) h fun acc' δ' h' => ih (i + 1) acc' δ' (by omega) h'
  exact go xs.length 0 [] δ (Nat.zero_add _) h0
/-- each item gives one or none, and nothing else changes -/
theorem lc_filter {g : TDG} {tt : TDT} {te : TD} {vs : List Nat} {xs : List DL.D} {δ : DSt} {Q : List DL.D → DSt → Prop} (f : DL.D → Option DL.D)
    (hs : ∀ x (acc : List DL.D) (N : List DL.D → DSt → Prop), x ∈ xs → acc.length < xs.length → N (acc ++ (f x).toList) δ →
      g x δ (fun δ1 => tt δ1 (fun b δ2 => if b = true then te δ2 (fun y δ3 => acc.length < sizeLine ∧ N (acc ++ [y.toD]) (wipeD δ3 vs)) noX else N acc (wipeD δ2 vs)) noX))
    (hn : Q (xs.filterMap f) δ) : lcD g tt te vs xs [] δ Q := by
  refine lc_inv (fun i acc δ' => δ' = δ ∧ acc = (xs.take i).filterMap f) ⟨rfl, by rw [List.take_zero]; rfl⟩ (fun i x acc δ' N hx ⟨e1, e2⟩ k => ?_) fun acc δ' ⟨e1, e2⟩ => by subst e1; rw [e2, List.take_length]; exact hn
  subst e1
  have hl : i < xs.length := by
    rcases Nat.lt_or_ge i xs.length with h | h
    · exact h
    · rw [List.getElem?_eq_none h] at hx; cases hx
  have hle : acc.length ≤ i := by
    rw [e2]
    exact Nat.le_trans (List.length_filterMap_le ..) (by rw [List.length_take]; exact Nat.min_le_left ..)
  refine hs x acc N (List.mem_of_getElem? hx) (by omega) (k _ _ ⟨rfl, ?_⟩)
  rw [List.take_succ, hx, List.filterMap_append, ← e2]
  show _ = acc ++ [x].filterMap f
  cases e : f x <;> simp [e]
theorem lc_map {g : TDG} {tt : TDT} {te : TD} {vs : List Nat} {xs : List DL.D} {δ : DSt} {Q : List DL.D → DSt → Prop} (f : DL.D → DL.D)
    (hs : ∀ x (acc : List DL.D) (N : List DL.D → DSt → Prop), x ∈ xs → acc.length < xs.length → N (acc ++ [f x]) δ →
      g x δ (fun δ1 => tt δ1 (fun b δ2 => if b = true then te δ2 (fun y δ3 => acc.length < sizeLine ∧ N (acc ++ [y.toD]) (wipeD δ3 vs)) noX else N acc (wipeD δ2 vs)) noX))
    (hn : Q (xs.map f) δ) : lcD g tt te vs xs [] δ Q :=
  lc_filter (fun x => some (f x)) (fun x acc N hx hl n => hs x acc N hx hl n) (by rw [List.filterMap_eq_map']; exact hn)
end DR

set_option Elab.async false
set_option linter.all false
set_option maxRecDepth 100000
namespace DR
open PySem PySem.Spec PyProof.Rows L2 DL
theorem map_at {α β : Type} {f : α → β} {l : List α} {i : Nat} {y : β} (h : (l.map f)[i]? = some y) : ∃ x, l[i]? = some x ∧ y = f x := by
  rw [List.getElem?_map] at h
  cases q : l[i]? with
  | none => rw [q] at h; cases h
  | some x => rw [q] at h; cases h; exact ⟨x, rfl, rfl⟩
theorem at_lt {α : Type} {l : List α} {i : Nat} {x : α} (h : l[i]? = some x) : i < l.length := by
  rcases Nat.lt_or_ge i l.length with h1 | h1
  · exact h1
  · rw [List.getElem?_eq_none h1] at h; cases h
/-- the items stand for others -/
theorem lc_filterM {α : Type} {g : TDG} {tt : TDT} {te : TD} {vs : List Nat} {l : List α} {r : α → DL.D} {δ : DSt} {Q : List DL.D → DSt → Prop} (f : α → Option DL.D)
    (hs : ∀ x (acc : List DL.D) (N : List DL.D → DSt → Prop), x ∈ l → acc.length < l.length → N (acc ++ (f x).toList) δ →
      g (r x) δ (fun δ1 => tt δ1 (fun b δ2 => if b = true then te δ2 (fun y δ3 => acc.length < sizeLine ∧ N (acc ++ [y.toD]) (wipeD δ3 vs)) noX else N acc (wipeD δ2 vs)) noX))
    (hn : Q (l.filterMap f) δ) : lcD g tt te vs (l.map r) [] δ Q := by
  refine lc_inv (fun i acc δ' => δ' = δ ∧ acc = (l.take i).filterMap f) ⟨rfl, by rw [List.take_zero]; rfl⟩ (fun i x acc δ' N hx ⟨e1, e2⟩ k => ?_) fun acc δ' ⟨e1, e2⟩ => by subst e1; rw [e2, List.length_map, List.take_length]; exact hn
  subst e1
  obtain ⟨x, hy, rfl⟩ := map_at hx
  have hl := at_lt hy
  have hle : acc.length ≤ i := by
    rw [e2]
    exact Nat.le_trans (List.length_filterMap_le ..) (by rw [List.length_take]; exact Nat.min_le_left ..)
  refine hs x acc N (List.mem_of_getElem? hy) (by omega) (k _ _ ⟨rfl, ?_⟩)
  rw [List.take_succ, hy, List.filterMap_append, ← e2]
  show _ = acc ++ [x].filterMap f
  cases e : f x <;> simp [e]
theorem lc_mapM {α : Type} {g : TDG} {tt : TDT} {te : TD} {vs : List Nat} {l : List α} {r : α → DL.D} {δ : DSt} {Q : List DL.D → DSt → Prop} (f : α → DL.D)
    (hs : ∀ x (acc : List DL.D) (N : List DL.D → DSt → Prop), x ∈ l → acc.length < l.length → N (acc ++ [f x]) δ →
      g (r x) δ (fun δ1 => tt δ1 (fun b δ2 => if b = true then te δ2 (fun y δ3 => acc.length < sizeLine ∧ N (acc ++ [y.toD]) (wipeD δ3 vs)) noX else N acc (wipeD δ2 vs)) noX))
    (hn : Q (l.map f) δ) : lcD g tt te vs (l.map r) [] δ Q :=
  lc_filterM (fun x => some (f x)) (fun x acc N hx hl n => hs x acc N hx hl n) (by rw [List.filterMap_eq_map']; exact hn)
end DR
namespace DR
open PySem PySem.Spec PyProof.Rows L2 DL
section
variable {δ : DSt} {Q : DK} {E : XD} {D : EndsD}
theorem newT (h : Q (.own (.dT [])) δ) : newTD δ Q E := h
theorem getO {j : Nat} {ti : TD} {o : OC} (e : δ[j]? = some (some (.own o))) (h : ti δ (fun k δ1 => ∃ kvs ks d, δ1[j]? = some (some (.own (.dT kvs))) ∧ k.toD = keyD ks ∧ valD kvs ks = some d ∧ Q (.d d) δ1) E) : DL.getO j ti δ Q E := ⟨o, e, h⟩
theorem getF {to ti : TD} (h : to δ (fun o δ1 => ti δ1 (fun k δ2 => ∃ kvs ks d, o.toD = .dT kvs ∧ k.toD = keyD ks ∧ valD kvs ks = some d ∧ Q (.d d) δ2) E) E) : DL.getF to ti δ Q E := h
theorem put {j : Nat} {te ti : TD} (h : te δ (fun v δ1 => (∃ o, δ1[j]? = some (some (.own o))) ∧ ti δ1 (fun k δ2 => ∃ kvs ks, δ2[j]? = some (some (.own (.dT kvs))) ∧ k.toD = keyD ks ∧ kvs.length < sizeLine ∧ D.nx (δ2.set j (some (.own (.dT (putT kvs ks v.toD)))))) D.ex) D.ex) : putS j te ti D δ := h
theorem inO {j : Nat} {n : Bool} {ti : TD} (h : ti δ (fun k δ1 => ∃ kvs ks, δ1[j]? = some (some (.own (.dT kvs))) ∧ k.toD = keyD ks ∧ Q (.d (.bl (n != (valD kvs ks).isSome))) δ1) E) : DL.inO j n ti δ Q E := h
theorem inF {n : Bool} {ti td : TD} (h : ti δ (fun k δ1 => td δ1 (fun o δ2 => ∃ kvs ks, o.toD = .dT kvs ∧ k.toD = keyD ks ∧ Q (.d (.bl (n != (valD kvs ks).isSome))) δ2) E) E) : DL.inF n ti td δ Q E := h
theorem prop {C : Addr} {sd : SpD} {to : TD} (h : to δ (fun o δ1 => ∃ fs, o.toD = .obj C fs ∧ sd [.d (.obj C fs)] (fun r os => Q r δ1) (fun _ _ => False)) E) : propD C sd to δ Q E := h
theorem key2 {a b : Str} : (DV.d (DL.D.tup [.str a, .str b])).toD = keyD [.inr a, .inr b] := rfl
theorem key1 {a b : Str} : (DV.d (DL.D.tup [(DV.d (.str a)).toD, (DV.d (.str b)).toD])).toD = keyD [.inr a, .inr b] := rfl
end
end DR
/-! own objects lent to a def that doesn't change them, for an answer without addresses -/
namespace DL
open PySem PySem.Spec PyProof.Rows L2
def Pln : D → Prop
  | .non => True
  | .bl _ => True
  | .int _ => True
  | .str _ => True
  | .ty _ => True
  | .adr _ => True
  | _ => False
def PlnV : DV → Prop
  | .d x => Pln x
  | .own (.lst ds) => ∀ d ∈ ds, Pln d
  | .own (.ins _ fs) => ∀ p ∈ fs, Pln p.2
  | .own (.dT kvs) => ∀ p ∈ kvs, Pln p.2
  | .own (.dK kvs) => ∀ p ∈ kvs, Pln p.2
section
variable {K : PySem.W.Frag} {F F' F'' H H' : Hp}
theorem Pln.rep {v : V} {d : D} (p : Pln d) (r : Rep K F v d) : Rep K F' v d := by
  cases r with
  | non => exact .non
  | bl b => exact .bl b
  | int i => exact .int i
  | str k => exact .str k
  | ty n => exact .ty n
  | adr a => exact .adr a
  | _ => exact p.elim
theorem pln_l : ∀ {vs : List V} {ds : List D}, (∀ d ∈ ds, Pln d) → RepL K F vs ds → RepL K F' vs ds
  | _, _, _, .nil => .nil
  | _, _, h, .cons r t => .cons ((h _ List.mem_cons_self).rep r) (pln_l (fun d hd => h d (List.mem_cons_of_mem _ hd)) t)
theorem pln_f : ∀ {vs : List (Str × V)} {ds : List (Str × D)}, (∀ p ∈ ds, Pln p.2) → RepF K F vs ds → RepF K F' vs ds
  | _, _, _, .nil => .nil
  | _, _, h, .cons r t => .cons ((h _ List.mem_cons_self).rep r) (pln_f (fun d hd => h d (List.mem_cons_of_mem _ hd)) t)
theorem pln_t : ∀ {vs : List (List Key × V)} {ds : List (List Key × D)}, (∀ p ∈ ds, Pln p.2) → RepT K F vs ds → RepT K F' vs ds
  | _, _, _, .nil => .nil
  | _, _, h, .cons r t => .cons ((h _ List.mem_cons_self).rep r) (pln_t (fun d hd => h d (List.mem_cons_of_mem _ hd)) t)
theorem pln_k : ∀ {vs : List (Key × V)} {ds : List (Key × D)}, (∀ p ∈ ds, Pln p.2) → RepK K F vs ds → RepK K F' vs ds
  | _, _, _, .nil => .nil
  | _, _, h, .cons r t => .cons ((h _ List.mem_cons_self).rep r) (pln_k (fun d hd => h d (List.mem_cons_of_mem _ hd)) t)
theorem PlnV.own {p : Addr} {o : OC} (h : PlnV (.own o)) (r : OwnRep K F H p o) : OwnRep K F' H p o := by
  cases o with
  | lst ds => obtain ⟨vs, e, r⟩ := r; exact ⟨vs, e, pln_l h r⟩
  | ins C fs => obtain ⟨dx, vs, e, r⟩ := r; exact ⟨dx, vs, e, pln_f h r⟩
  | dT kvs => obtain ⟨vs, e, r⟩ := r; exact ⟨vs, e, pln_t h r⟩
  | dK kvs => obtain ⟨vs, e, r⟩ := r; exact ⟨vs, e, pln_k h r⟩
/-- the own objects among the arguments -/
def ownsIn : List DV → List OC
  | [] => []
  | .d _ :: r => ownsIn r
  | .own o :: r => o :: ownsIn r
def frzV (x : DV) : DV := .d x.toD
theorem lend : ∀ {vs : List V} {as : List DV} {ps : List Addr}, Same F H → ArgsRep K F H vs as ps →
    ∃ F1, Same F F1 ∧ Same F1 H ∧ ArgsRep K F1 H vs (as.map frzV) [] ∧ (∀ a, F1 a ≠ none → F a ≠ none ∨ a ∈ ps) ∧ OwnsRep K F H ps (ownsIn as) ∧ (∀ p ∈ ps, F p = none)
  | _, _, _, s, .nil => ⟨F, Same.refl F, s, .nil, fun a h => .inl h, .nil, fun p h => nomatch h⟩
  | _, _, _, s, .d h t => by
    obtain ⟨F1, s1, s2, a, n, o, q⟩ := lend s t
    exact ⟨F1, s1, s2, .d (h.mono s1) a, n, o, q⟩
  | _, _, _, s, .own (p := p) (o := o) n h np t => by
    obtain ⟨F1, s1, s2, a, n1, os, q⟩ := lend s t
    have hp : F1 p = none := by
      cases z : F1 p with
      | none => rfl
      | some u => exact ((n1 p (by rw [z]; exact fun y => nomatch y)).elim (fun y => y n) np).elim
    obtain ⟨u, eu, r⟩ := (h.mono (H' := H) s1 rfl).freeze hp s2
    have sF : Same F1 (upd F1 p u) := same_upd (Same.refl F1) hp
    refine ⟨upd F1 p u, s1.trans sF, same_upd1 s2 eu, .d r ?_, fun b hb => ?_, .cons n h os, fun b hb => (List.mem_cons.mp hb).elim (fun e => by rw [e]; exact n) (q b)⟩
    · exact go sF a
    · by_cases e : b = p
      · exact .inr (by rw [e]; exact List.mem_cons_self)
      · rw [upd_ne e] at hb
        exact (n1 b hb).imp id (List.mem_cons_of_mem _)
where
  go {F1 F2 : Hp} (s : Same F1 F2) : ∀ {vs : List V} {as : List DV} {ps : List Addr}, ArgsRep K F1 H vs (as.map frzV) ps → ArgsRep K F2 H vs (as.map frzV) ps
    | _, [], _, .nil => .nil
    | _, _ :: _, _, .d h t => .d (h.mono s) (go s t)
/-- a promise for lent arguments -/
def lent (sd : SpD) : SpD := fun as Q _ => sd (as.map frzV) (fun r os => os = [] ∧ PlnV r ∧ Q r (ownsIn as)) (fun _ _ => False)
theorem spOf_lent {sd : SpD} (vs : List V) (H : Hp) (Q : VK) (E : XK) (h : spOf K (lent sd) vs H Q E) : spOf K sd vs H Q E := by
  obtain ⟨F, as, ps, Qd, Ed, s, ar, hs, kq, ke⟩ := h
  obtain ⟨F1, s1, s2, a, n1, os, np⟩ := lend s ar
  refine ⟨F1, as.map frzV, [], _, _, s2, a, hs, fun v x os' F' H' ⟨_, hp, hq⟩ P r => ?_, fun _ _ _ _ _ _ z _ _ => z.elim⟩
  have sFF' := s1.trans P.f
  let F'' : Hp := fun b => if b ∈ ps then none else F' b
  have f1 : ∀ b, b ∈ ps → F'' b = none := fun b h => if_pos h
  have f2 : ∀ b, b ∉ ps → F'' b = F' b := fun b h => if_neg h
  have sF : Same F F'' := fun b u e => by
    have hb : b ∉ ps := fun z => by rw [np b z] at e; cases e
    rw [f2 b hb]
    exact sFF' _ _ e
  refine kq v x _ F'' H' hq ⟨sF, fun b u e => ?_, fun b u e _ => P.fr b u e (fun z => nomatch z), P.up, fun b hb => ?_, ?_⟩ ?_
  · by_cases hb : b ∈ ps
    · rw [f1 b hb] at e; cases e
    · rw [f2 b hb] at e; exact P.fh _ _ e
  · by_cases hb' : b ∈ ps
    · rw [f1 b hb'] at hb; exact (hb rfl).elim
    · rw [f2 b hb'] at hb
      exact (P.nw b hb).elim (fun z => (n1 b z).elim .inl fun y => (hb' y).elim) .inr
  · have go : ∀ {qs : List Addr} {us : List OC}, (∀ q ∈ qs, q ∈ ps) → OwnsRep K F H qs us → OwnsRep K F'' H' qs us := fun {qs us} hq o => by
      induction o with
      | nil => exact .nil
      | @cons q o qs us n h t ih =>
        refine .cons (f1 _ (hq _ List.mem_cons_self)) (h.mono sF ?_) (ih fun q h => hq q (List.mem_cons_of_mem _ h))
        cases e : H q with
        | none => exact absurd e h.has
        | some u => exact P.fr q u e (fun z => nomatch z)
    exact go (fun _ h => h) os
  · cases x with
    | d y => exact hp.rep r
    | own o =>
      obtain ⟨p, e, n, b, q⟩ := r
      refine ⟨p, e, n, ?_, hp.own q⟩
      by_cases hb : p ∈ ps
      · exact f1 p hb
      · rw [f2 p hb]; exact b
theorem FnOk.lent {P : Program} {w : World} {mg : Str → Option Value} {base : Heap} {k : Nat} {f : Addr} {fd : FuncData} {ps : List Str} {sd : SpD} (G : FnOk P w K mg base (L2.CX P w) k f fd ps (spOf K sd)) : FnOk P w K mg base (L2.CX P w) k f fd ps (spOf K (lent sd)) := G.imp spOf_lent
end
end DL

set_option Elab.async false
set_option linter.all false
set_option maxRecDepth 100000
namespace DL
open PySem PySem.Spec PyProof.Rows L2
section
variable {X : Cx} {c : Fc} {W : WX}
/-! ### a list or a tuple -/
def seqO (t : TD) : TDI := fun δ Q E => listI t δ Q E ∨ tupI t δ Q E
theorem pid_seq {tg e : Expr} {t : TD} (he : PE X e (LE X.K c W t)) : PI X tg e (LI X.K c W (seqO t)) :=
  ⟨fun pins s σ H R I ⟨δ, tmp, Qd, Ed, S, q, k, w⟩ => q.elim (fun q => (pid_list he).run pins s σ H R I ⟨δ, tmp, Qd, Ed, S, q, k, w⟩) fun q => (pid_tup he).run pins s σ H R I ⟨δ, tmp, Qd, Ed, S, q, k, w⟩⟩
/-! ### zip -/
theorem zip_at {xs ys : List D} {i : Nat} {d : D} (h : (zipL xs ys)[i]? = some d) : ∃ x y, xs[i]? = some x ∧ ys[i]? = some y ∧ d = .tup [x, y] := by
  unfold zipL at h
  rw [List.getElem?_map] at h
  cases q : (xs.zip ys)[i]? with
  | none => rw [q] at h; cases h
  | some p =>
    rw [q] at h
    cases h
    obtain ⟨a, b⟩ := p
    obtain ⟨h1, h2⟩ := List.getElem?_zip_eq_some.mp q
    exact ⟨a, b, h1, h2, rfl⟩
theorem zip_len {xs ys : List D} : (zipL xs ys).length = min xs.length ys.length := by simp [zipL]
theorem row_l {K : PySem.W.Frag} {F H : Hp} {p : Addr} {x : D} {xs : List D} (e : x = .lst xs ∨ x = .ro xs) (s : Same F H) (r : Rep K F (.ref p) x) : ∃ vs, SqL K H p vs ∧ RepL K F vs xs := by
  rcases e with rfl | rfl
  · cases r with | lst s1 r1 => exact ⟨_, s.seq (SqL.of s1), r1⟩
  · cases r with | ro s1 r1 => exact ⟨_, s.seq s1, r1⟩
theorem row_t {K : PySem.W.Frag} {F H : Hp} {p : Addr} {xs : List D} (s : Same F H) (r : Rep K F (.ref p) (.tup xs)) : ∃ vs, SqT K H p vs ∧ RepL K F vs xs := by
  cases r with | tup s1 r1 => exact ⟨_, SqT.of (s _ _ s1), r1⟩
theorem gho2 {K : PySem.W.Frag} {F : Hp} {v : V} {a b : V} {x y : D} (r : Rep K F v (.gho [a, b] [x, y])) : Rep K F a x ∧ Rep K F b y := by
  cases r with
  | gho h =>
    cases h with
    | cons h1 t =>
      cases t with
      | cons h2 t => exact ⟨h1, h2⟩
theorem serve_zip {K : PySem.W.Frag} {a b : Addr} {x y : D} {xs ys : List D} (ex : x = .lst xs ∨ x = .ro xs) (ey : y = .lst ys ∨ y = .ro ys) : Serve K (Itz K a b) (.int 0) (.gho [.ref a, .ref b] [x, y]) (zipL xs ys) := by
  refine ⟨fun i F H s r hi => ?_, fun i F H s r hi => ?_, fun i F H z H' s r q d hd => ?_⟩
  · obtain ⟨vs, h1, l1⟩ := row_l ex s (gho2 r).1
    obtain ⟨us, h2, l2⟩ := row_l ey s (gho2 r).2
    rw [zip_len] at hi
    obtain ⟨v, e1, _⟩ := l1.get (List.getElem?_eq_getElem (show i < xs.length by omega))
    obtain ⟨u, e2, _⟩ := l2.get (List.getElem?_eq_getElem (show i < ys.length by omega))
    exact ⟨vs, us, v, u, h1, h2, e1, e2⟩
  · obtain ⟨vs, h1, l1⟩ := row_l ex s (gho2 r).1
    obtain ⟨us, h2, l2⟩ := row_l ey s (gho2 r).2
    rw [zip_len] at hi
    exact ⟨vs, us, h1, h2, by rw [l1.len, l2.len]; omega⟩
  · obtain ⟨vs, h1, l1⟩ := row_l ex s (gho2 r).1
    obtain ⟨us, h2, l2⟩ := row_l ey s (gho2 r).2
    obtain ⟨T, v, u, rfl, nT, rfl, y1, y2⟩ := q
    obtain ⟨d1, d2, g1, g2, rfl⟩ := zip_at hd
    obtain ⟨v', e1, r1⟩ := l1.get g1
    obtain ⟨u', e2, r2⟩ := l2.get g2
    rw [y1 vs h1] at e1
    rw [y2 us h2] at e2
    cases e1; cases e2
    have sF : Same F (upd F T (.tup [v, u])) := same_upd (Same.refl F) (s.free nT)
    exact ⟨_, Ext.new s nT, .tup upd_same (.cons (r1.mono sF) (.cons (r2.mono sF) .nil))⟩
theorem serve_zipT {K : PySem.W.Frag} {a b : Addr} {xs ys : List D} : Serve K (RZ.ItzT K a b) (.int 0) (.gho [.ref a, .ref b] [.tup xs, .tup ys]) (zipL xs ys) := by
  refine ⟨fun i F H s r hi => ?_, fun i F H s r hi => ?_, fun i F H z H' s r q d hd => ?_⟩
  · obtain ⟨vs, h1, l1⟩ := row_t s (gho2 r).1
    obtain ⟨us, h2, l2⟩ := row_t s (gho2 r).2
    rw [zip_len] at hi
    obtain ⟨v, e1, _⟩ := l1.get (List.getElem?_eq_getElem (show i < xs.length by omega))
    obtain ⟨u, e2, _⟩ := l2.get (List.getElem?_eq_getElem (show i < ys.length by omega))
    exact ⟨vs, us, v, u, h1, h2, e1, e2⟩
  · obtain ⟨vs, h1, l1⟩ := row_t s (gho2 r).1
    obtain ⟨us, h2, l2⟩ := row_t s (gho2 r).2
    rw [zip_len] at hi
    exact ⟨vs, us, h1, h2, by rw [l1.len, l2.len]; omega⟩
  · obtain ⟨vs, h1, l1⟩ := row_t s (gho2 r).1
    obtain ⟨us, h2, l2⟩ := row_t s (gho2 r).2
    obtain ⟨T, v, u, rfl, nT, rfl, y1, y2⟩ := q
    obtain ⟨d1, d2, g1, g2, rfl⟩ := zip_at hd
    obtain ⟨v', e1, r1⟩ := l1.get g1
    obtain ⟨u', e2, r2⟩ := l2.get g2
    rw [y1 vs h1] at e1
    rw [y2 us h2] at e2
    cases e1; cases e2
    have sF : Same F (upd F T (.tup [v, u])) := same_upd (Same.refl F) (s.free nT)
    exact ⟨_, Ext.new s nT, .tup upd_same (.cons (r1.mono sF) (.cons (r2.mono sF) .nil))⟩
def zipI (ta : TDA) : TDI := fun δ Q E => ta δ (fun as δ1 => ∃ x y xs ys, as = [.d x, .d y] ∧ (((x = .lst xs ∨ x = .ro xs) ∧ (y = .lst ys ∨ y = .ro ys)) ∨ (x = .tup xs ∧ y = .tup ys)) ∧ Q (zipL xs ys) δ1) E
theorem pid_zip {e e2 : Expr} {ta : TDA} {p pos tpos : Pos} {elts : List Expr} {kk : Nat} (hg : Gl X "zip") (hm : X.mg "zip" = none) (ha : PA X [e, e2] (LA X.K c W ta))
    (hs : starEach [e, e2] X.env = (false, eval e X.env) :: starEach [e2] X.env := by rfl) (hpl : (backTo pos (starEach [e2] X.env)).any (·.1) = false := by rfl) : PI X (.Tuple elts kk tpos) (.Call (.Name "zip" p) [e, e2] [] pos) (LI X.K c W (zipI ta)) :=
  PI_imp (RZ.pi_zipA hg hm ha hs hpl) fun σ H R ⟨δ, tmp, Qd, Ed, S, q, k, w⟩ => ⟨δ, tmp, _, _, S, q, fun vs as δ' F ow H' ⟨x, y, xs, ys, e, hx, q'⟩ S' ra => by
    subst e
    cases ra with
    | d h t =>
      cases t with
      | d h2 t =>
        cases t
        rcases hx with ⟨hx, hy⟩ | ⟨rfl, rfl⟩
        · have h0 := h
          have h20 := h2
          obtain ⟨a, us, rfl, g1, _⟩ := h.row (xs := xs) (by rcases hx with e | e <;> rw [e] <;> rfl)
          obtain ⟨b, ws, rfl, g2, _⟩ := h2.row (xs := ys) (by rcases hy with e | e <;> rw [e] <;> rfl)
          obtain ⟨us, g1, _⟩ := row_l hx S'.fh h
          obtain ⟨ws, g2, _⟩ := row_l hy S'.fh h2
          exact ⟨a, b, us, ws, rfl, .inl ⟨g1, g2, k _ _ _ _ _ _ q' (serve_zip hx hy) ⟨F, ow, S'.push (.gho (.cons h0 (.cons h20 .nil)))⟩⟩⟩
        · have h0 := h
          have h20 := h2
          cases h with
          | tup s1 r1 =>
            cases h2 with
            | tup s2 r2 => exact ⟨_, _, _, _, rfl, .inr ⟨SqT.of (S'.fh _ _ s1), SqT.of (S'.fh _ _ s2), k _ _ _ _ _ _ q' serve_zipT ⟨F, ow, S'.push (.gho (.cons h0 (.cons h20 .nil)))⟩⟩⟩, w⟩
end
end DL
namespace DR
open PySem PySem.Spec PyProof.Rows L2 DL
section
variable {δ : DSt} {E : XD} {Q : List DL.D → DSt → Prop}
theorem zipi {ta : TDA} (h : ta δ (fun as δ1 => ∃ x y xs ys, as = [.d x, .d y] ∧ (((x = .lst xs ∨ x = .ro xs) ∧ (y = .lst ys ∨ y = .ro ys)) ∨ (x = .tup xs ∧ y = .tup ys)) ∧ Q (zipL xs ys) δ1) E) : zipI ta δ Q E := h
theorem seqL {t : TD} (h : listI t δ Q E) : seqO t δ Q E := .inl h
theorem seqT {t : TD} (h : tupI t δ Q E) : seqO t δ Q E := .inr h
end
end DR

set_option Elab.async false
set_option linter.all false
set_option maxRecDepth 100000
namespace DL
open PySem PySem.Spec PyProof.Rows L2
section
variable {K : PySem.W.Frag} {F : Hp}
abbrev isiTS (K : PySem.W.Frag) : RDNs := fun ds Q => ∃ x cs t us b, ds = [x, .tup cs] ∧ ClsDs cs us ∧ TyD K x t ∧ PySem.W.kitAny K t us = some b ∧ Q (.bl b)
theorem cn_isiT : CallNs K (rIsiT K) (isiTS K) := fun xs ds F H Q Qd s r ⟨x, cs, t, us, b, e, hc, ht, hk, q⟩ k => by
  subst e
  cases r with
  | cons r t =>
    cases t with
    | cons r2 t =>
      cases t
      cases r2 with
      | tup s1 r1 => exact ⟨_, _, _, _, us, b, rfl, s _ _ s1, clsDs_v r1 hc, tyD_x s r ht, hk, k _ _ q rfl⟩
end
end DL

set_option Elab.async false
set_option linter.all false
set_option maxRecDepth 100000
namespace DL
open PySem PySem.Spec PyProof.Rows L2
theorem repL_str {K : PySem.W.Frag} {F : Hp} {l : List Str} {vs : List V} (r : RepL K F vs (l.map .str)) : vs = l.map V.str := repL_map (fun r => by cases r; rfl) r
section
variable {X : Cx} {c : Fc} {W : WX}
/-- len(set(t)) of a tuple of texts -/
def lenSetD (t : TD) : TD := fun δ Q E => t δ (fun x δ1 => ∃ xs : List Str, x.toD = .tup (xs.map .str) ∧ xs.length ≤ 1000 ∧ Q (.d (.int ((RS.uniq xs).length : Nat))) δ1) E
theorem pd_lenSet {e a : Expr} {t : TD} (h : ∀ {ta : TE}, PE X a ta → PE X e (RS.tLenSetT X.K ta)) (ha : PE X a (LE X.K c W t)) : PE X e (LE X.K c W (lenSetD t)) :=
  PE_imp (h ha) fun σ H Q ⟨δ, tmp, Qd, Ed, S, q, k, w⟩ => ⟨δ, tmp, _, Ed, S, q, fun v x δ1 H1 ⟨xs, ex, hl, q1⟩ ⟨F, ow, S1⟩ => by
    obtain ⟨F2, S2, _⟩ := S1.top_frz
    rw [ex] at S2
    have r := S2.top
    cases r with
    | tup s1 r1 =>
      have e := repL_str r1
      subst e
      exact ⟨_, xs, rfl, SqT.of (S2.fh _ _ s1), hl, k _ _ _ _ q1 ⟨F2, ow, S2.pop.push (.int _)⟩⟩, w⟩
end
end DL
namespace DR
open PySem PySem.Spec PyProof.Rows L2 DL
theorem lenSet {δ : DSt} {Q : DK} {E : XD} {t : TD} (h : t δ (fun x δ1 => ∃ xs : List Str, x.toD = .tup (xs.map .str) ∧ xs.length ≤ 1000 ∧ Q (.d (.int ((RS.uniq xs).length : Nat))) δ1) E) : lenSetD t δ Q E := h
end DR

set_option Elab.async false
set_option linter.all false
set_option maxRecDepth 100000
namespace DL
open PySem PySem.Spec PyProof.Rows L2
def lc2D (g : TDG) (tt : TDT) (ti1 : TDI) (g1 : TDG) (tt1 : TDT) (te : TD) (vs vs1 : List Nat) : List DL.D → List DL.D → DSt → (List DL.D → DSt → Prop) → Prop
  | [], acc, δ, Q => Q acc δ
  | x :: xs, acc, δ, Q => g x δ fun δ1 => tt δ1 (fun b δ2 => if b = true then ti1 δ2 (fun ys δ3 => lcD g1 tt1 te vs1 ys acc (wipeD δ3 vs1) fun acc' δ4 => lc2D g tt ti1 g1 tt1 te vs vs1 xs acc' (wipeD δ4 vs) Q) noX else lc2D g tt ti1 g1 tt1 te vs vs1 xs acc (wipeD δ2 vs) Q) noX
def comp2D (ti : TDI) (g : TDG) (tt : TDT) (ti1 : TDI) (g1 : TDG) (tt1 : TDT) (te : TD) (vs vs1 : List Nat) : TD := fun δ Q E => ti δ (fun xs δ1 => lc2D g tt ti1 g1 tt1 te vs vs1 xs [] (wipeD δ1 vs) fun acc δ2 => Q (.own (.lst acc)) δ2) E
section
variable {K : PySem.W.Frag} {c : Fc} {W : WX} {F H : Hp} {ow : Addr → Option Hold} {δ : DSt} {tmp : List (V × DV)} {σ : L2.St} {p : Addr} {o : OC} {v : V} {d : D}
/-- data beneath an own object -/
theorem SttF.swap (S : SttF K c F ow δ ((v, .d d) :: (.ref p, .own o) :: tmp) σ H) : ∃ ow', SttF K c F ow' δ ((.ref p, .own o) :: (v, .d d) :: tmp) σ H := by
  obtain ⟨p', e0, e, b, n, r⟩ := S.tm.2.1
  cases e0
  have S5 := S.pop.pop.reown (ow' := owSet ow p (.t (tmp.length + 1))) (fun k a z _ => owSet_ne fun y => by subst y; rw [e] at z; cases z) (fun k a hk z _ => owSet_ne fun y => by
    subst y; rw [e] at z; cases z
    exact absurd hk (Nat.lt_irrefl _))
  have S6 := S5.push S.top
  exact ⟨_, { S6 with tm := ⟨⟨p, rfl, owSet_at, b, .inl n.t, r⟩, S6.tm⟩ }⟩
/-- the own object on top moves down over data -/
theorem SttF.down (S : SttF K c F ow δ ((.ref p, .own o) :: (v, .d d) :: tmp) σ H) : ∃ ow', SttF K c F ow' δ ((.ref p, .own o) :: tmp) σ H := by
  obtain ⟨p', e0, e, b, n, r⟩ := S.tm.1
  cases e0
  have S5 := S.pop.pop.reown (ow' := owSet ow p (.t tmp.length)) (fun k a z _ => owSet_ne fun y => by subst y; rw [e] at z; cases z) (fun k a hk z _ => owSet_ne fun y => by
    subst y; rw [e] at z; cases z
    have : tmp.length + 1 < tmp.length := hk
    omega)
  exact ⟨_, { S5 with tm := ⟨⟨p, rfl, owSet_at, b, .inl n.t, r⟩, S5.tm⟩ }⟩
theorem wipe_idem {σ : L2.St} {vs : List Nat} : ∀ (l : List Nat), (∀ i ∈ l, i ∈ vs) → wipe (wipe σ l) vs = wipe σ vs := fun l => by
  induction l with
  | nil => exact fun _ => rfl
  | cons a r ih =>
    intro h
    show wipe ((wipe σ r).set a none) vs = _
    rw [wipe_set (h a List.mem_cons_self)]
    exact ih fun i hi => h i (List.mem_cons_of_mem _ hi)
/-- the loop of a comprehension, the list on top of the stack -/
theorem lc_loop {g : TDG} {tt : TDT} {te : TD} {vs : List Nat} {J : It} {src : D} {items acc0 : List D} {δ0 : DSt} {Qf : List D → DSt → Prop} {Nx : Hp → Prop} {D : Addr} (hv : ∀ i ∈ vs, i ∉ c.sl) (sv : Serve K J v src items)
    (S0 : Stt K c (wipeD δ0 vs) ((.ref D, .own (.lst acc0)) :: (v, .d src) :: tmp) (wipe σ vs) H) (q0 : lcD g tt te vs items acc0 (wipeD δ0 vs) Qf)
    (fin : ∀ acc δ H', Qf acc (wipeD δ vs) → Stt K c (wipeD δ vs) ((.ref D, .own (.lst acc)) :: (v, .d src) :: tmp) (wipe σ vs) H' → Nx H') :
    ∃ W1 : Nat → Nat → Hp → Prop, (∃ m, W1 0 m H) ∧ ∀ j k H, W1 j k H →
      (J.stop j H ∧ Nx H) ∨ (J.go j H ∧ ∃ Nx1 : Hp → Prop, (∀ H', Nx1 H' → ∃ k', k' < k ∧ W1 (j + 1) k' H') ∧ ∀ x H', J.yld j H x H' → LG K c vs g x (wipe σ vs) H' fun σ3 H5 => wipe σ3 vs = wipe σ vs ∧ LT K c W0 tt σ3 H5 fun b H6 =>
        if b = true then LE K c W0 te σ3 H6 fun y H7 => ∃ acc, H7 D = some (.lst acc) ∧ acc.length < sizeLine ∧ Nx1 (upd H7 D (.lst (acc ++ [y]))) else Nx1 H6) := by
  refine ⟨fun i m H => m = items.length - i ∧ i ≤ items.length ∧ ∃ δ acc, Stt K c (wipeD δ vs) ((.ref D, .own (.lst acc)) :: (v, .d src) :: tmp) (wipe σ vs) H ∧ lcD g tt te vs (items.drop i) acc (wipeD δ vs) Qf,
    ⟨items.length, by simp, Nat.zero_le _, δ0, acc0, S0, q0⟩, ?_⟩
  rintro i m H2 ⟨rfl, hi, δ2, acc, ⟨F2, ow2, S3⟩, q2⟩
  have src2 : Rep K F2 v src := S3.tm.2.1
  by_cases hlt : i < items.length
  · refine .inr ⟨sv.go i F2 H2 S3.fh src2 hlt, fun H => i + 1 ≤ items.length ∧ ∃ δ acc, Stt K c (wipeD δ vs) ((.ref D, .own (.lst acc)) :: (v, .d src) :: tmp) (wipe σ vs) H ∧ lcD g tt te vs (items.drop (i + 1)) acc (wipeD δ vs) Qf,
      fun H' h => ⟨items.length - (i + 1), by omega, rfl, h⟩, fun x H' y => ?_⟩
    obtain ⟨F3, e3, r3⟩ := sv.yld i F2 H2 x H' S3.fh src2 y _ (List.getElem?_eq_getElem hlt)
    rw [List.drop_eq_getElem_cons hlt] at q2
    refine ⟨wipeD δ2 vs, (.ref D, .own (.lst acc)) :: (v, .d src) :: tmp, _, _, ⟨F3, ow2, (S3.ext e3).push r3⟩, q2, fun δ4 σ4 H4 q4 S4 hw => ?_⟩
    have hw' : wipe σ4 vs = wipe σ vs := by
      rw [hw]
      exact wipe_idem vs fun _ h => h
    refine ⟨hw', δ4, _, _, noX, S4, q4, fun b δ5 H5 q5 ⟨F5, ow5, S5⟩ => ?_, fun _ _ _ _ _ _ _ _ z => z.elim⟩
    cases b with
    | false =>
      have S6 := S5.wipe hv
      rw [hw'] at S6
      exact ⟨hlt, δ5, acc, ⟨_, _, S6⟩, q5⟩
    | true =>
      refine ⟨δ5, _, _, noX, ⟨F5, ow5, S5⟩, q5, fun u z δ6 H6 ⟨hz, q6⟩ ⟨F6, ow6, S6⟩ => ?_, fun _ _ _ _ _ _ _ _ z => z.elim⟩
      obtain ⟨F7, S7, s7⟩ := S6.top_frz
      obtain ⟨p', e0, _, _, _, ws, ep, rw'⟩ := S7.tm.2.1
      cases e0
      have S8 := S7.pop.writeT (o' := .lst (acc ++ [z.toD])) (ob := .lst (ws ++ [u])) ⟨_, upd_same, rw'.app (.cons S7.top .nil)⟩
      have S9 := S8.wipe hv
      rw [hw'] at S9
      exact ⟨ws, ep, by rw [rw'.len]; exact hz, hlt, δ6, _, ⟨_, _, S9⟩, q6⟩
  · have e : i = items.length := by omega
    subst e
    rw [List.drop_length] at q2
    exact .inl ⟨sv.stop _ F2 H2 S3.fh src2 (Nat.le_refl _), fin acc δ2 H2 q2 ⟨_, _, S3⟩⟩
theorem lift_comp2 {ti ti1 : TDI} {g g1 : TDG} {tt tt1 : TDT} {te : TD} {vs vs1 : List Nat} (hv : ∀ i ∈ vs, i ∉ c.sl) (h1 : ∀ i ∈ vs1, i ∈ vs) : ∀ σ H Q, LE K c W (comp2D ti g tt ti1 g1 tt1 te vs vs1) σ H Q →
    tLc2 (LI K c W ti) (LG K c vs g) (LT K c W0 tt) (LI K c W0 ti1) (LG K c vs1 g1) (LT K c W0 tt1) (LE K c W0 te) vs vs1 σ H Q := fun σ H Q ⟨δ, tmp, Qd, Ed, S, q, k, w⟩ => by
  have hv1 : ∀ i ∈ vs1, i ∉ c.sl := fun i hi => hv i (h1 i hi)
  refine ⟨δ, tmp, _, _, S, q, fun J v src items δ1 H1 q1 sv ⟨F1, ow1, S1⟩ => ?_, w⟩
  intro D nD
  have S2 := (S1.wipe hv).pushNew (o := .lst []) nD ⟨[], upd_same, .nil⟩
  refine ⟨fun i m H => m = items.length - i ∧ i ≤ items.length ∧ ∃ δ acc, Stt K c (wipeD δ vs) ((.ref D, .own (.lst acc)) :: (v, .d src) :: tmp) (wipe σ vs) H ∧ lc2D g tt ti1 g1 tt1 te vs vs1 (items.drop i) acc (wipeD δ vs) fun acc δ2 => Qd (.own (.lst acc)) δ2,
    ⟨items.length, by simp, Nat.zero_le _, δ1, [], ⟨_, _, S2⟩, q1⟩, ?_⟩
  rintro i m H2 ⟨rfl, hi, δ2, acc, ⟨F2, ow2, S3⟩, q2⟩
  have src2 : Rep K F2 v src := S3.tm.2.1
  by_cases hlt : i < items.length
  · refine .inr ⟨sv.go i F2 H2 S3.fh src2 hlt, fun H => i + 1 ≤ items.length ∧ ∃ δ acc, Stt K c (wipeD δ vs) ((.ref D, .own (.lst acc)) :: (v, .d src) :: tmp) (wipe σ vs) H ∧ lc2D g tt ti1 g1 tt1 te vs vs1 (items.drop (i + 1)) acc (wipeD δ vs) fun acc δ2 => Qd (.own (.lst acc)) δ2,
      fun H' h => ⟨items.length - (i + 1), by omega, rfl, h⟩, fun x H' y => ?_⟩
    obtain ⟨F3, e3, r3⟩ := sv.yld i F2 H2 x H' S3.fh src2 y _ (List.getElem?_eq_getElem hlt)
    rw [List.drop_eq_getElem_cons hlt] at q2
    refine ⟨wipeD δ2 vs, (.ref D, .own (.lst acc)) :: (v, .d src) :: tmp, _, _, ⟨F3, ow2, (S3.ext e3).push r3⟩, q2, fun δ4 σ4 H4 q4 S4 hw => ?_⟩
    have hw' : wipe σ4 vs = wipe σ vs := by
      rw [hw]
      exact wipe_idem vs fun _ h => h
    refine ⟨hw', δ4, _, _, noX, S4, q4, fun b δ5 H5 q5 ⟨F5, ow5, S5⟩ => ?_, fun _ _ _ _ _ _ _ _ z => z.elim⟩
    cases b with
    | false =>
      have S6 := S5.wipe hv
      rw [hw'] at S6
      exact ⟨hlt, δ5, acc, ⟨_, _, S6⟩, q5⟩
    | true =>
      refine ⟨δ5, _, _, noX, ⟨F5, ow5, S5⟩, q5, fun J1 v1 src1 items1 δ6 H6 q6 sv1 ⟨F6, ow6, S6⟩ => ?_, fun _ _ _ _ _ _ _ _ z => z.elim⟩
      obtain ⟨ow7, S7⟩ := S6.swap
      refine lc_loop hv1 sv1 ⟨F6, ow7, S7.wipe hv1⟩ q6 fun acc' δ8 H8 q8 ⟨F8, ow8, S8⟩ => ?_
      obtain ⟨ow9, S9⟩ := S8.down
      have S10 := S9.wipe hv
      rw [wipe_idem vs1 h1, hw'] at S10
      exact ⟨hlt, _, acc', ⟨_, _, S10⟩, q8⟩
  · have e : i = items.length := by omega
    subst e
    rw [List.drop_length] at q2
    refine .inl ⟨sv.stop _ F2 H2 S3.fh src2 (Nat.le_refl _), k _ _ _ _ q2 ?_⟩
    obtain ⟨ow4, S4⟩ := (S3.unwipe hv).down
    exact ⟨F2, ow4, S4⟩
end
section
variable {X : Cx} {c : Fc} {W : WX}
theorem pd_lc2 {elt tg iter tg1 iter1 : Expr} {ifs ifs1 : List Expr} {scope : Scope} {own : List (Str × Nat)} {vs1 : List Nat} {pos : Pos} {ti ti1 : TDI} {g g1 : TDG} {tt tt1 : TDT} {te : TD} (hc : X.calm = true) (hN : X.N.Nodup) (hi : PI X tg iter (LI X.K c W ti)) (ok : BlkOk X.N X.env.scope scope own) (hv1 : ∀ i ∈ vs1, i ∈ own.map (·.2))
    (hg : ∀ (s : Shared) (H : Hp) (C : Addr) (cl : List (Str × Addr)) (fp : List Addr), PG (X.blk s H scope (compEnvC scope cl C X.env) fp) tg (LG X.K c (own.map (·.2)) g)) (ht : ∀ (s : Shared) (H : Hp) (C : Addr) (cl : List (Str × Addr)) (fp : List Addr), PTs (X.blk s H scope (compEnvC scope cl C X.env) fp) ifs (LT X.K c W0 tt))
    (hi1 : ∀ (s : Shared) (H : Hp) (C : Addr) (cl : List (Str × Addr)) (fp : List Addr), PI (X.blk s H scope (compEnvC scope cl C X.env) fp) tg1 iter1 (LI X.K c W0 ti1))
    (hg1 : ∀ (s : Shared) (H : Hp) (C : Addr) (cl : List (Str × Addr)) (fp : List Addr), PG (X.blk s H scope (compEnvC scope cl C X.env) fp) tg1 (LG X.K c vs1 g1)) (ht1 : ∀ (s : Shared) (H : Hp) (C : Addr) (cl : List (Str × Addr)) (fp : List Addr), PTs (X.blk s H scope (compEnvC scope cl C X.env) fp) ifs1 (LT X.K c W0 tt1))
    (he : ∀ (s : Shared) (H : Hp) (C : Addr) (cl : List (Str × Addr)) (fp : List Addr), PE (X.blk s H scope (compEnvC scope cl C X.env) fp) elt (LE X.K c W0 te)) (hv : ∀ i ∈ own.map (·.2), i ∉ c.sl) (hs : ∀ x, foldedSetIterable iter X.env x = pure x := by intro _; rfl) (hs1 : ∀ env x, foldedSetIterable iter1 env x = pure x := by intro _ _; rfl) :
    PE X (.ListComp elt [⟨tg, iter, ifs, 0⟩, ⟨tg1, iter1, ifs1, 0⟩] scope pos) (LE X.K c W (comp2D ti g tt ti1 g1 tt1 te (own.map (·.2)) vs1)) := PE_imp (pe_lc2 hc hN hi ok hv1 hg ht hi1 hg1 ht1 he hs hs1) (lift_comp2 hv hv1)
end
end DL
namespace DR
open PySem PySem.Spec PyProof.Rows L2 DL
theorem comp2 {δ : DSt} {Q : DK} {E : XD} {ti ti1 : TDI} {g g1 : TDG} {tt tt1 : TDT} {te : TD} {vs vs1 : List Nat} (h : ti δ (fun xs δ1 => lc2D g tt ti1 g1 tt1 te vs vs1 xs [] (wipeD δ1 vs) fun acc δ2 => Q (.own (.lst acc)) δ2) E) : comp2D ti g tt ti1 g1 tt1 te vs vs1 δ Q E := h
/-- behind what is there already -/
theorem lc_filterA {α : Type} {g : TDG} {tt : TDT} {te : TD} {vs : List Nat} {r : α → DL.D} {δ : DSt} (f : α → Option DL.D) {n : Nat} : ∀ {l : List α} {acc0 : List DL.D} {Q : List DL.D → DSt → Prop}, acc0.length + l.length ≤ n →
    (∀ x (acc : List DL.D) (N : List DL.D → DSt → Prop), x ∈ l → acc.length < n → N (acc ++ (f x).toList) δ →
      g (r x) δ (fun δ1 => tt δ1 (fun b δ2 => if b = true then te δ2 (fun y δ3 => acc.length < sizeLine ∧ N (acc ++ [y.toD]) (wipeD δ3 vs)) noX else N acc (wipeD δ2 vs)) noX)) →
    Q (acc0 ++ l.filterMap f) δ → lcD g tt te vs (l.map r) acc0 δ Q
  | [], acc0, Q, _, _, hn => by rw [List.filterMap_nil, List.append_nil] at hn; exact hn
  | x :: l, acc0, Q, hl, hs, hn => by
    rw [List.length_cons] at hl
    refine hs x acc0 (fun a d => lcD g tt te vs (l.map r) a d Q) List.mem_cons_self (by omega) ?_
    refine lc_filterA f (n := n) (l := l) ?_ (fun y acc N hy => hs y acc N (List.mem_cons_of_mem _ hy)) ?_
    · rw [List.length_append]
      cases f x <;> (simp; omega)
    · rw [List.append_assoc]
      have e : (f x).toList ++ l.filterMap f = (x :: l).filterMap f := by
        rw [List.filterMap_cons]
        cases f x <;> rfl
      rw [e]
      exact hn
theorem lc2_flatM {α : Type} {g : TDG} {tt : TDT} {ti1 : TDI} {g1 : TDG} {tt1 : TDT} {te : TD} {vs vs1 : List Nat} {r : α → DL.D} {δ : DSt} (f : α → List DL.D) : ∀ {l : List α} {acc0 : List DL.D} {Q : List DL.D → DSt → Prop},
    (∀ x (acc : List DL.D) (N : List DL.D → DSt → Prop), x ∈ l → acc.length ≤ acc0.length + (l.flatMap f).length → N (acc ++ f x) δ →
      g (r x) δ (fun δ1 => tt δ1 (fun b δ2 => if b = true then ti1 δ2 (fun ys δ3 => lcD g1 tt1 te vs1 ys acc (wipeD δ3 vs1) fun acc' δ4 => N acc' (wipeD δ4 vs)) noX else N acc (wipeD δ2 vs)) noX)) →
    Q (acc0 ++ l.flatMap f) δ → lc2D g tt ti1 g1 tt1 te vs vs1 (l.map r) acc0 δ Q
  | [], acc0, Q, _, hn => by rw [List.flatMap_nil, List.append_nil] at hn; exact hn
  | x :: l, acc0, Q, hs, hn => by
    refine hs x acc0 (fun a d => lc2D g tt ti1 g1 tt1 te vs vs1 (l.map r) a d Q) List.mem_cons_self (by omega) ?_
    refine lc2_flatM f (fun y acc N hy hl => hs y acc N (List.mem_cons_of_mem _ hy) ?_) ?_
    · rw [List.flatMap_cons, List.length_append]
      rw [List.length_append] at hl
      omega
    · rw [List.append_assoc, ← List.flatMap_cons]
      exact hn
end DR

set_option Elab.async false
set_option linter.all false
set_option maxRecDepth 100000
namespace DL
open PySem PySem.Spec PyProof.Rows L2
theorem units65 {k : Nat} {A : Around} (r : Room k A) : A.units + 65 < cLine := by have := r.un; omega
section
variable {X : Cx} {c : Fc} {W : WX}
/-- x in xs, xs the own list in slot j: items of any depth -/
def inLO (j : Nat) (n : Bool) (ti : TD) : TD := fun δ Q E => ti δ (fun x δ1 => ∃ xs, δ1[j]? = some (some (.own (.lst xs))) ∧ Cmp x.toD ∧ Cmp (.lst xs) ∧ Q (.d (.bl (n != ((pyL xs).any fun z => PyData.eqv z x.toD.py)))) δ1) E
theorem inLO_run {K : PySem.W.Frag} {j : Nat} {n : Bool} {ti : TD} {r : R2} (hr : ∀ x y H Q d ds, Dp K H x d → Dp K H y (.list ds) → SeqAt.shaped d = true → SeqAt.shaped (.list ds) = true → Q (V.bl (n != (ds.any fun z => PyData.eqv z d))) H → r x y H Q) : ∀ σ H Q, LE K c W (inLO j n ti) σ H Q → tOp r (LE K c W ti) (tVar j) σ H Q :=
  fun σ H Q ⟨δ, tmp, Qd, Ed, S, q, k, w⟩ => ⟨δ, tmp, _, Ed, S, q, fun u y δ1 H1 ⟨xs, ej, cx, cl, q1⟩ ⟨F1, ow1, S1⟩ => by
    obtain ⟨F2, S2, _⟩ := S1.top_frz
    obtain ⟨v', e2, p', rfl, _, _, _, vs, ep, rl⟩ := S2.sl _ _ ej
    have hl : isPyL xs = true := cl.1
    have lay : SeqAt.shaped (D.py (.lst xs)) = true := by
      unfold SeqAt.shaped
      rw [decide_eq_true cl.2]
      have := rl.lay hl
      simp only [D.py, PyData.canLay0]
      rw [this]
      rfl
    exact ⟨_, e2, hr u (.ref p') H1 Q y.toD.py (pyL xs) (dp_mono S2.fh (S2.top.dp cx.1)) (.lst (SqL.of ep) (dpAll_mono S2.fh (rl.dp hl))) (S2.top.shp cx) lay (k _ _ _ _ q1 ⟨F2, ow1, S2.pop.push (.bl _)⟩)⟩, w⟩
theorem ptd_inLO_t {j : Nat} {x : Str} {i : Expr} {ti : TD} {pos px : Pos} (hu : X.A.units + 65 < cLine) (hi : PE X i (LE X.K c W ti)) (hv : PE X (.Name x px) (tVar j)) : PT X (.Compare i [.In] [.Name x px] pos) (LT X.K c W (tvD (inLO j false ti))) :=
  PT_imp (pt_cmpR (op_inD hu) hi hv rfl) fun σ H Q ⟨δ, tmp, Qd, Ed, S, q, k, w⟩ => inLO_run (j := j) (n := false) (ti := ti) (fun x y H Q d ds h1 h2 h3 h4 h5 => ⟨d, ds, h1, h2, h3, h4, by rw [Bool.false_bne] at h5; exact h5⟩) σ H _ ⟨δ, tmp, (fun x δ1 => ∃ b, x = .d (.bl b) ∧ Qd b δ1), Ed, S, q, fun v x δ' H' ⟨b, e, q'⟩ ⟨F, ow, S'⟩ => by
    subst e
    cases S'.top
    exact ⟨b, rfl, k _ _ _ q' ⟨F, ow, S'.pop⟩⟩, w⟩
end
end DL
namespace DR
open PySem PySem.Spec PyProof.Rows L2 DL
theorem inLO {δ : DSt} {Q : DK} {E : XD} {j : Nat} {n : Bool} {ti : TD} (h : ti δ (fun x δ1 => ∃ xs, δ1[j]? = some (some (.own (.lst xs))) ∧ Cmp x.toD ∧ Cmp (.lst xs) ∧ Q (.d (.bl (n != ((pyL xs).any fun z => PyData.eqv z x.toD.py)))) δ1) E) : DL.inLO j n ti δ Q E := h
theorem enumi {δ : DSt} {E : XD} {Q : List DL.D → DSt → Prop} {ta : TDA} (h : ta δ (fun as δ1 => ∃ x xs, as = [.d x] ∧ (x = .lst xs ∨ x = .ro xs) ∧ Q (enumL xs) δ1) E) : enumI ta δ Q E := h
theorem enum_at {xs : List DL.D} {i : Nat} {d : DL.D} (h : (enumL xs)[i]? = some d) : ∃ x, xs[i]? = some x ∧ d = .tup [.int (i : Nat), x] := by
  unfold enumL at h
  rw [List.getElem?_map, List.getElem?_zipIdx] at h
  cases q : xs[i]? with
  | none => rw [q] at h; cases h
  | some x =>
    rw [q] at h
    refine ⟨x, rfl, ?_⟩
    simpa using h.symm
theorem enum_len {xs : List DL.D} : (enumL xs).length = xs.length := by simp [enumL]
end DR

set_option Elab.async false
set_option linter.all false
set_option maxRecDepth 100000
/-! several except clauses, each with a name -/
namespace DL
open PySem PySem.Spec PyProof.Rows L2
/-- an except clause: its class, the slot of its name, its suite -/
structure Clause where
  cv : Value
  ix : Nat
  su : Addr → Value → Option Addr → TS
/-- the ends of a suite whose name goes -/
def sunk (i : Nat) (D : Ends) : Ends := { nx := fun τ G => D.nx (τ.set i none) G, rt := D.rt, bk := fun τ G => D.bk (τ.set i none) G, ct := fun τ G => D.ct (τ.set i none) G }
def wishes (K : PySem.W.Frag) (out : WX) (D : Ends) : List Clause → WX
  | [] => out
  | q :: r => fun cv dd τ G => ∃ yes, PySem.W.exmOne K cv q.cv = some yes ∧ (yes = true → ∀ a, G a = none → q.su a cv dd (sunk q.ix D) (τ.set q.ix (some (.ref a))) G) ∧ (yes = false → wishes K out D r cv dd τ G)
inductive Clauses (X : Cx) : List ExceptHandler → List Clause → Prop
  | nil : Clauses X [] []
  | cons {x n : Str} {cv : Value} {i : Nat} {su : Addr → Value → Option Addr → TS} {s0 : Stmt} {more : List Stmt} {np pp : Pos} {hs : List ExceptHandler} {qs : List Clause} (hi : X.N[i]? = some n) (hl : X.env.kindOf n = some .local) (hn : Names X x cv)
      (hb : ∀ (a : Addr) (ob : Obj) (cls : Value) (dd : Option Addr) (pn : List (Addr × Obj)), Zc cls dd ob → (∃ vs, ob.data = .fields vs) → PSs (X.suite a ((a, ob) :: pn)) (s0 :: more) (su a cls dd)) (r : Clauses X hs qs) :
      Clauses X (.ExceptHandler (some (.Name x np)) (some n) (s0 :: more) pp :: hs) (⟨cv, i, su⟩ :: qs)
section
variable {X : Cx} {bd : List Stmt} {g : ExceptHandler} {gs : List ExceptHandler} {qs : List Clause} {pos : Pos} {tb : WX → TS} {out : WX}
theorem ps_tryC (hst : X.stack = X.env :: X.outer) (hfr : X.env.frame = some X.env.locals) (nd : X.N.Nodup) (tk : Takes X out)
    (hb : ∀ (W : WX) (pn : List (Addr × Obj)) (xe : Value → Shared → Prop), Takes (X.tr pn xe) W → PassesOwn (model X.prog X.w) X.A X.env xe → PSs (X.tr pn xe) bd (tb W))
    (hh : Clauses X (g :: gs) qs) : PS X (.Try bd (g :: gs) [] [] pos) (fun D τ G => tb (wishes X.K out D qs) D τ G) := by
  refine ⟨fun pins st τ G D I hw => ?_⟩
  have okX := I.ok
  have frX : X.A.frames = some (X.env :: X.outer) := okX.frames.trans (by rw [hst])
  apply wpAny_Try_except
  have run := (hb (wishes X.K out D qs) (X.pn ++ pins) (fun e t1 => wpAny (model X.prog X.w) X.A (noteFrame e X.env) (fun _ t2 => wpAny (model X.prog X.w) X.A (setFlight e none) (fun _ t3 =>
    wpAny (model X.prog X.w) X.A (handleBy e X.env (g :: gs)) (SP X pins D) X.xe t3) X.xe t2) X.xe t1) (fun u t y => ?_) PassesOwn.looking).run [] st τ G D (I.toTry _) hw
  · refine wpAny_mono run (fun fl t1 q => ?_) (fun e t1 q => q)
    cases fl with
    | next => obtain ⟨τ2, G2, J, q⟩ := q; exact wpAny_execs_nil ⟨_, _, J.ofTry okX, q⟩
    | brk => obtain ⟨τ2, G2, J, q⟩ := q; exact ⟨_, _, J.ofTry okX, q⟩
    | cont => obtain ⟨τ2, G2, J, q⟩ := q; exact ⟨_, _, J.ofTry okX, q⟩
    | ret u => obtain ⟨v2, τ2, G2, J, rr, q⟩ := q; exact ⟨_, _, _, J.ofTry okX, rr, q⟩
  · obtain ⟨a, B, tI, pins2, τ2, G2, cv, dd, rfl, J0, nb, up, sk, na, os, ag, ww⟩ := y
    have J1 : Inv X pins τ2 G2 tI := J0.ofTry okX
    have sk2 : Sky B (X.env :: X.outer) a (Zc cv dd) X.env.locals t.heap := by rw [hst] at sk; exact sk
    refine Sky.land Zc.steady frX hfr sk2 fun k3 fl3 up3 => ?_
    have J3 : Inv X pins τ2 G2 { t with heap := k3 } := J1.landed nb fl3.1 (up.trans up3) os ag
    obtain ⟨o3, w3, ho3, hz3, hd3⟩ := fl3.there
    have out3 : ∀ {k : Heap} {ob : Obj} {ws : Array Value}, k.FunFrames B (X.env :: X.outer) → k.get? a = some ob → ob.data = .fields ws → ¬ a ∈ frs (X.env :: X.outer) := fun {k ob ws} ff he hd hm => by
      obtain ⟨_, ob2, he2, nof⟩ := ff.mem hm
      cases he.symm.trans he2
      exact nof _ hd
    have nfr := out3 fl3.2.2.1 ho3 hd3
    have nloc : a ≠ X.env.locals := fun z => nfr (List.mem_filterMap.mpr ⟨_, List.mem_cons_self, by rw [z]; exact hfr⟩)
    have nfs : a ∉ X.fs := fun hm => by
      obtain ⟨en, he, q⟩ := List.mem_filterMap.mp hm
      exact nfr (List.mem_filterMap.mpr ⟨en, .tail _ he, q⟩)
    have S3 := J3.suite ho3 hd3 na nloc nfs
    have each : ∀ {hs : List ExceptHandler} {rs : List Clause}, Clauses X hs rs → wishes X.K out D rs cv dd τ2 G2 →
        wpAny (model X.prog X.w) X.A (handleBy (.ref a) X.env hs) (SP X pins D) X.xe { t with heap := k3 } := fun {hs rs} hk => by
      induction hk with
      | nil =>
        intro wo
        refine wpAny_handleBy_nil ?_
        obtain ⟨_, _, _, ob, vs, T, oT, ts2, he, _, hd, h1, _⟩ := id fl3
        unfold PySem.passOn
        refine wpAny_bind (wpAny_field he hd h1 ?_)
        rw [if_neg (show ¬ ((Value.ref T == Value.none) = true) by simp)]
        have last : wpAny (model X.prog X.w) X.A (setFlight (.ref a) X.env.frame) (fun _ t4 => wpAny (model X.prog X.w) X.A (throw (.ref a) : Sem Flow) (SP X pins D) X.xe t4) X.xe { t with heap := k3 } := by
          rw [hfr]
          refine HandSPX.setFlight_upZ fl3 fun k4 hk4 up4 => wpAny_throw (tk _ _ ?_)
          exact ⟨a, B, tI, pins, τ2, G2, cv, dd, rfl, J1, nb, (up.trans up3).trans up4, .inr (.inr (hst ▸ hk4)), na, os, ag, wo⟩
        first
          | exact wpAny_bind (wpAny_pure (wpAny_bind last))
          | exact wpAny_bind last
      | @cons x n c i su s0 more np pp hs2 rs2 hi hl hn hb r ih =>
        rintro ⟨yes, hx, hy, hno⟩
        have look : PySem.W.Looks (model X.prog X.w) k3 (typeOf (.ref a)) cv := fun A Q E u f q => wpAny_typeOf_ref (f _ _ ho3) (hz3.1.symm ▸ q)
        have exm := PySem.W.exm_one (M := model X.prog X.w) J3.kIn look hx
        have name : ∀ {Q E : Value → Shared → Prop}, Q c { t with heap := k3 } → wpAny (model X.prog X.w) (X.A.mark (some (.ref a))) (eval (.Name x np) X.env) Q E { t with heap := k3 } := fun {Q E} q => by
          rcases hn with ⟨h1, h2, h3 | ⟨h3, h4, h5⟩⟩
          · exact ld_glob (X := X.suite a ((a, o3) :: (X.pn ++ pins))) S3 h1 h3 q h2
          · exact ld_blt (X := X.suite a ((a, o3) :: (X.pn ++ pins))) S3 h1 h3 h4 q h5 h2
        refine wpAny_handleBy_cons (codeAny_handlers_test (name (exm.here ?_))) (fun z => nomatch z)
        cases yes with
        | false => exact ih (hno rfl)
        | true =>
          refine codeAny_handlers_suite_as (HandSPX.lands_againZ fl3 fun k4 fl4 up4 => ?_)
          have J4 : Inv X pins τ2 G2 { t with heap := k4 } := J1.landed nb fl4.1 ((up.trans up3).trans up4) os ag
          obtain ⟨o4, w4, ho4, hz4, hd4⟩ := fl4.there
          refine store_ok (X := X.suite a ((a, o4) :: (X.pn ++ pins))) (v := .ref a) (J4.suite ho4 hd4 na nloc nfs) nd hi (.inl hl) rfl (fun t5 S5 => ?_) (.inr hl)
          have sinks : ∀ {τ6 : L2.St} {G6 : Hp} {Q : Shared → Prop} {t6 : Shared}, Inv (X.suite a ((a, o4) :: (X.pn ++ pins))) [] τ6 G6 t6 → (∀ t7, Inv X pins (τ6.set i none) G6 t7 → Q t7) →
              wpAny (model X.prog X.w) X.A (do bindName X.env n .none; unbindBehindTheSuite X.env n pp) (fun _ t7 => Q t7) X.xe t6 := fun {τ6 G6 Q t6} S6 f => gone_ok (S6.unsuite okX) nd hi hl f
          refine wpAny_mono ((hb a o4 cv dd (X.pn ++ pins) hz4 ⟨_, hd4⟩).run [] t5 _ G2 _ S5 (hy rfl a na)) (fun fl t6 q => ?_) (fun _ _ z => z.elim)
          cases fl with
          | next => obtain ⟨τ6, G6, S6, q6⟩ := q; exact sinks S6 fun t7 J7 => ⟨_, _, J7, q6⟩
          | brk => obtain ⟨τ6, G6, S6, q6⟩ := q; exact sinks S6 fun t7 J7 => ⟨_, _, J7, q6⟩
          | cont => obtain ⟨τ6, G6, S6, q6⟩ := q; exact sinks S6 fun t7 J7 => ⟨_, _, J7, q6⟩
          | ret u => obtain ⟨v6, τ6, G6, S6, r6, q6⟩ := q; exact sinks S6 fun t7 J7 => ⟨_, _, _, J7, r6, q6⟩
    exact each hh ww
end
/-! in data -/
structure ClauseD where
  cv : Value
  ix : Nat
  su : TDS
def sunkD (i : Nat) (D : EndsD) : EndsD := { nx := fun δ => D.nx (δ.set i none), rt := D.rt, ex := noX, bk := fun δ => D.bk (δ.set i none), ct := fun δ => D.ct (δ.set i none) }
def catchD (K : PySem.W.Frag) (D : EndsD) : List ClauseD → XD
  | [] => D.ex
  | q :: r => fun x δ => ∃ yes, PySem.W.exmOne K (.ref x.C) q.cv = some yes ∧ (yes = true → ∀ a dd, q.su (sunkD q.ix D) (δ.set q.ix (some (.d (.exc a (.ref x.C) dd x.C x.fs))))) ∧ (yes = false → catchD K D r x δ)
def tryC (K : PySem.W.Frag) (qs : List ClauseD) (tb : TDS) : TDS := fun D δ => tb { D with ex := catchD K D qs } δ
inductive ClausesD (X : Cx) (c : Fc) : List ExceptHandler → List ClauseD → Prop
  | nil : ClausesD X c [] []
  | cons {x n : Str} {cv : Value} {i : Nat} {su : TDS} {s0 : Stmt} {more : List Stmt} {np pp : Pos} {hs : List ExceptHandler} {qs : List ClauseD} (ni : i ∉ c.sl) (hi : X.N[i]? = some n) (hl : X.env.kindOf n = some .local) (hn : Names X x cv)
      (hb : ∀ (a : Addr) (ob : Obj) (cls : Value) (dd : Option Addr) (pn : List (Addr × Obj)), Zc cls dd ob → (∃ vs, ob.data = .fields vs) → PSs (X.suite a ((a, ob) :: pn)) (s0 :: more) (LS X.K c W0 su)) (r : ClausesD X c hs qs) :
      ClausesD X c (.ExceptHandler (some (.Name x np)) (some n) (s0 :: more) pp :: hs) (⟨cv, i, su⟩ :: qs)
def ClauseD.up (K : PySem.W.Frag) (c : Fc) (q : ClauseD) : Clause := ⟨q.cv, q.ix, fun _ _ _ => LS K c W0 q.su⟩
theorem ClausesD.up {X : Cx} {c : Fc} {hs : List ExceptHandler} {qs : List ClauseD} (h : ClausesD X c hs qs) : Clauses X hs (qs.map (ClauseD.up X.K c)) := by
  induction h with
  | nil => exact .nil
  | cons ni hi hl hn hb r ih => exact .cons hi hl hn hb ih
theorem psd_tryC {X : Cx} {c : Fc} {W : WX} {bd : List Stmt} {g : ExceptHandler} {gs : List ExceptHandler} {qs : List ClauseD} {pos : Pos} {tb : TDS} (hst : X.stack = X.env :: X.outer) (hfr : X.env.frame = some X.env.locals) (nd : X.N.Nodup) (tk : Takes X W)
    (hb : ∀ (W : WX) (pn : List (Addr × Obj)) (xe : Value → Shared → Prop), Takes (X.tr pn xe) W → PassesOwn (model X.prog X.w) X.A X.env xe → PSs (X.tr pn xe) bd (LS X.K c W tb))
    (hh : ClausesD X c (g :: gs) qs) : PS X (.Try bd (g :: gs) [] [] pos) (LS X.K c W (tryC X.K qs tb)) :=
  PS_imp (ps_tryC (tb := fun W => LS X.K c W tb) hst hfr nd tk hb hh.up) fun D σ H ⟨δ, tmp, Dd, S, q, k, kr, kb, kc, w⟩ => by
    refine ⟨δ, tmp, _, S, q, k, kr, kb, kc, ?_⟩
    have go : ∀ {hs : List ExceptHandler} {rs : List ClauseD}, ClausesD X c hs rs → WD X.K c (wishes X.K W D (rs.map (ClauseD.up X.K c))) tmp (catchD X.K Dd rs) := fun {hs rs} h => by
      induction h with
      | nil => exact w
      | @cons x n cv i su s0 more np pp hs2 rs2 ni hi hl hn hb r ih =>
        rintro ⟨C, fs⟩ δ1 σ1 H1 F ow cls d ⟨yes, ey, hy, hno⟩ S1 er
        obtain ⟨rfl, er2⟩ := id er
        refine ⟨yes, ey, fun e a na => ?_, fun e => ih _ _ _ _ F ow _ d (hno e) S1 er⟩
        have rx : Rep X.K F (.ref a) (.exc a (.ref C) d C fs) := by
          cases fs with
          | none => obtain rfl : d = none := er2; exact .exc0
          | some fs => obtain ⟨dd, vs, rfl, e2, e3⟩ := er2; exact .exc e2 e3
        exact ⟨_, tmp, _, (S1.push rx).set' ni, hy e a d, fun δ2 σ2 H2 q2 ⟨F2, ow2, S2⟩ => k _ _ _ q2 ⟨F2, ow2, S2.del ni⟩, kr, fun δ2 σ2 H2 q2 ⟨F2, ow2, S2⟩ => kb _ _ _ q2 ⟨F2, ow2, S2.del ni⟩, fun δ2 σ2 H2 q2 ⟨F2, ow2, S2⟩ => kc _ _ _ q2 ⟨F2, ow2, S2.del ni⟩, fun _ _ _ _ _ _ _ _ z => z.elim⟩
    exact go hh
end DL
namespace DR
open PySem PySem.Spec PyProof.Rows L2 DL
theorem tryc {K : PySem.W.Frag} {qs : List ClauseD} {tb : TDS} {D : EndsD} {δ : DSt} (h : tb { D with ex := catchD K D qs } δ) : tryC K qs tb D δ := h
end DR

set_option Elab.async false
set_option linter.all false
set_option maxRecDepth 100000
/-! operators, subscripts and comparisons by own defs -/
namespace DL
open PySem PySem.Spec PyProof.Rows L2
section
variable {X : Cx} {k : Nat} {f C : Addr} {fd : FuncData} {ps : List Str} {sp : Sp} {E : L2.St → XK} {a b : Expr} {ta tb : TE} {pos : Pos} {r : L2.St → R2}
/-- as OpR, but what is raised may be wished for at the slots -/
def OpS (X : Cx) (g : Value → Value → Sem Value) (r : L2.St → R2) : Prop := ∀ (pins : List (Addr × Obj)) (t : Shared) (τ : L2.St) (G : Hp) (x y : V) (v u : Value) (Q : VK), Inv X pins τ G t → RelV x v → RelV y u → r τ x y G Q → wpAny (model X.prog X.w) X.A (g v u) (EP X pins τ Q) X.xe t
def tOpS (r : L2.St → R2) (ta tb : TE) : TE := fun τ G Q => ta τ G fun x G1 => tb τ G1 fun y G2 => r τ x y G2 Q
theorem pe_opS {op : Operator} (ho : OpS X (binaryOp op) r) (ha : PE X a ta) (hb : PE X b tb) : PE X (.BinOp a op b pos) (tOpS r ta tb) :=
  ⟨fun pins t τ G Q I h => wpAny_BinOp (binT ha hb I h fun v u t2 x y G2 I2 rx ry q => ho pins t2 τ G2 x y v u Q I2 rx ry q)⟩
/-- both of the class C -/
def rBoth (C : Addr) (sp : Sp) (E : L2.St → XK) : L2.St → R2 := fun τ x y G Q => ∃ p d us q e ws, x = .ref p ∧ y = .ref q ∧ G p = some (.ins C d us) ∧ G q = some (.ins C e ws) ∧ sp [x, y] G Q (E τ)
theorem op_both {op : Operator} (sf : PySem.W.selfFirst X.K C = true) (hs : PySem.W.findIn X.K (.ref C) (PySem.dunder op.info.2) = some (some (.ref f))) (hf : PySem.W.isFn X.K (.ref f) = true) (F : FnOk X.prog X.w X.K X.mg X.base (L2.CX X.prog X.w) k f fd ps sp) (room : Room k X.A) (bd : Binds X.K fd ps [])
    (hx : ∀ τ, PassesAt (L2.CX X.prog X.w) X τ (E τ)) : OpS X (binaryOp op) (rBoth C sp E) := by
  rintro pins t τ G x y v u Q I rx ry ⟨p, d, us, q, e, ws, rfl, rfl, hp, hq, h⟩
  obtain rfl : v = Value.ref p := rx
  obtain rfl : u = Value.ref q := ry
  obtain ⟨_, O, _⟩ := ins_get I.hok hp
  obtain ⟨_, J, _⟩ := O.look
  obtain ⟨_, O2, _⟩ := ins_get I.hok hq
  obtain ⟨_, J2, _⟩ := O2.look
  obtain ⟨_, fr⟩ := I.fr
  refine PySem.W.binop_K (op := op) fr I.ok.mod.kin J J2.type sf hs hf ?_
  exact wpAny_mono (run_fnS (E := E) F room bd (hx τ) I (.cons (show RelV (V.ref p) (Value.ref p) from rfl) (.cons (show RelV (V.ref q) (Value.ref q) from rfl) .nil)) h) (fun z t2 ⟨y, G2, I2, ry, qy⟩ => SlX.cmpback ry ⟨y, G2, I2, ry, qy⟩) fun _ _ z => z
/-- x[y] by an own __getitem__ -/
def rGetI (C : Addr) (sp : Sp) (E : L2.St → XK) : L2.St → R2 := fun τ x y G Q => ∃ p d us, x = .ref p ∧ G p = some (.ins C d us) ∧ sp [x, y] G Q (E τ)
structure GetI (K : PySem.W.Frag) (C f : Addr) : Prop where
  at_ : PySem.W.findIn K (.ref C) "__getitem__" = some (some (.ref f))
  fi : PySem.W.fnIn K f = true
  fn : PySem.W.isFn K (.ref f) = true
theorem pe_getI (gi : GetI X.K C f) (F : FnOk X.prog X.w X.K X.mg X.base (L2.CX X.prog X.w) k f fd ps sp) (room : Room (k + 1) X.A) (bd : Binds X.K fd ps []) (hx : ∀ τ, PassesAt (L2.CX X.prog X.w) X τ (E τ)) (ha : PE X a ta) (hb : PE X b tb)
    (hs : ∀ p (i : Value), subscripted b true (.ref p) i = runValue (.builtin "lifetime.subscript" ⟨[.ref p, i], []⟩)) : PE X (.Subscript a b pos) (tOpS (rGetI C sp E) ta tb) := by
  refine ⟨fun pins t τ G Q I h => Subscript_ (binT ha hb I h fun v u t2 x y G2 I2 rx ry q => ?_)⟩
  obtain ⟨p, d, us, rfl, hp, h⟩ := q
  obtain rfl : v = Value.ref p := rx
  obtain ⟨_, O, _⟩ := ins_get I2.hok hp
  obtain ⟨_, J, _⟩ := O.look
  obtain ⟨_, fr⟩ := I2.fr
  refine PySem.W.sub_K fr I2.ok.mod.kin J gi.at_ gi.fi gi.fn ?_ (hs p u)
  have rr : Vals [V.ref p, y] [Value.ref p, u] := .cons rfl (.cons ry .nil)
  have hl : [Value.ref p, u].length = ps.length := by rw [← rr.length]; exact F.len _ _ _ _ h
  have b' := bd t2 [Value.ref p, u] I2.kIn (by rw [List.append_nil]; exact hl)
  rw [List.append_nil] at b'
  refine wpAny_call (codeAny_mono (F.run X.A.in1 X.stack t2 G2 ⟨[Value.ref p, u], []⟩ _ _ _ (E τ) room.in1 I2.env0.in1 b' rr h) fun fin t3 hq => ?_)
  cases fin with
  | error e => exact hx τ pins _ _ e t3 I2 hq
  | ok fl =>
    cases fl with
    | ret z => exact I2.after hq
    | next => exact hq.elim
    | brk => exact hq.elim
    | cont => exact hq.elim
end
section
variable {K : PySem.W.Frag} {c : Fc} {W : WX} {F H : Hp} {ow : Addr → Option Hold} {δ : DSt} {tmp : List (V × DV)} {σ : L2.St} {Q : VK} {Qd : DK} {Ed : XD} {sd : SpD}
theorem RepL.args : ∀ {vs : List V} {ds : List D}, RepL K F vs ds → ArgsRep K F H vs (ds.map .d) []
  | _, _, .nil => .nil
  | _, _, .cons h t => .d h t.args
/-- a call with data alone -/
theorem lift_data {vs : List V} {ds : List D} (S : SttF K c F ow δ tmp σ H) (r : RepL K F vs ds) (h : sd (ds.map .d) (fun r _ => Qd r δ) (fun x _ => Ed x δ)) (k : ∀ v x δ' H', Qd x δ' → Stt K c δ' ((v, x) :: tmp) σ H' → Q v H') (w : WD K c W tmp Ed) : spOf K sd vs H Q (WE W σ) :=
  ⟨F, _, [], _, _, S.fh, r.args, h, fun v x os F' H' q P rr => k v x δ H' q (ret_push (is := []) (ps := []) S rfl (fun _ _ _ z => nomatch z) .nil P rr), fun cls d x os F' H' q P er => w x δ σ H' F' ow cls d q (S.called (is := []) (ps := []) rfl (fun _ _ _ z => nomatch z) .nil P) er⟩
end
section
variable {X : Cx} {c : Fc} {W : WX} {k : Nat} {f C : Addr} {fd : FuncData} {ps : List Str} {sd : SpD} {a b : Expr} {ta tb : TD} {pos : Pos}
/-- a op b by an own def of the class of both -/
def bothD (C : Addr) (sd : SpD) (ta tb : TD) : TD := fun δ Q E => ta δ (fun x δ1 => tb δ1 (fun y δ2 => ∃ fs gs, x.toD = .obj C fs ∧ y.toD = .obj C gs ∧ sd [.d (.obj C fs), .d (.obj C gs)] (fun r _ => Q r δ2) (fun x _ => E x δ2)) E) E
structure BinOf (K : PySem.W.Frag) (C : Addr) (op : Operator) (f : Addr) : Prop where
  sf : PySem.W.selfFirst K C = true
  at_ : PySem.W.findIn K (.ref C) (PySem.dunder op.info.2) = some (some (.ref f))
  fn : PySem.W.isFn K (.ref f) = true
theorem pd_both {op : Operator} (B : BinOf X.K C op f) (G : FnOk X.prog X.w X.K X.mg X.base (L2.CX X.prog X.w) k f fd ps (spOf X.K sd)) (hr : Room k X.A) (hb : Binds X.K fd ps []) (tk : Takes X W) (he : PE X a (LE X.K c W ta)) (hg : PE X b (LE X.K c W tb)) :
    PE X (.BinOp a op b pos) (LE X.K c W (bothD C sd ta tb)) :=
  PE_imp (pe_opS (op_both (E := WE W) B.sf B.at_ B.fn G hr hb fun τ => passAt tk τ) he hg) fun σ H Q ⟨δ, tmp, Qd, Ed, S, t, k, w⟩ =>
    ⟨δ, tmp, _, Ed, S, t, fun v x δ1 H1 t1 S1 => ⟨δ1, _, _, Ed, S1, t1, fun u y δ2 H2 ⟨fs, gs, ex, ey, t2⟩ ⟨F, ow, S2⟩ => by
      obtain ⟨F', S3, _⟩ := S2.top_frz2
      rw [ex, ey] at S3
      have r1 := S3.pop.top
      have r2 := S3.top
      have both : ∃ p q, v = .ref p ∧ u = .ref q := by
        cases r1; cases r2; exact ⟨_, _, rfl, rfl⟩
      obtain ⟨p, q, rfl, rfl⟩ := both
      have s1 : ∃ d us, H2 p = some (.ins C d us) := by cases r1 with | obj s _ => exact ⟨_, _, S3.fh _ _ s⟩
      have s2 : ∃ d us, H2 q = some (.ins C d us) := by cases r2 with | obj s _ => exact ⟨_, _, S3.fh _ _ s⟩
      obtain ⟨d1, us1, h1⟩ := s1
      obtain ⟨d2, us2, h2⟩ := s2
      exact ⟨p, d1, us1, q, d2, us2, rfl, rfl, h1, h2, lift_data (ds := [.obj C fs, .obj C gs]) S3.pop.pop (.cons r1 (.cons r2 .nil)) t2 k w⟩, w.push⟩, w⟩
/-- a[b] by an own def -/
def subD (C : Addr) (sd : SpD) (ta tb : TD) : TD := fun δ Q E => ta δ (fun x δ1 => tb δ1 (fun y δ2 => ∃ fs, x.toD = .obj C fs ∧ sd [.d (.obj C fs), .d y.toD] (fun r _ => Q r δ2) (fun x _ => E x δ2)) E) E
theorem pd_sub (gi : GetI X.K C f) (G : FnOk X.prog X.w X.K X.mg X.base (L2.CX X.prog X.w) k f fd ps (spOf X.K sd)) (hr : Room (k + 1) X.A) (hb : Binds X.K fd ps []) (tk : Takes X W) (he : PE X a (LE X.K c W ta)) (hg : PE X b (LE X.K c W tb))
    (hs : ∀ p (i : Value), subscripted b true (.ref p) i = runValue (.builtin "lifetime.subscript" ⟨[.ref p, i], []⟩)) : PE X (.Subscript a b pos) (LE X.K c W (subD C sd ta tb)) :=
  PE_imp (pe_getI (E := WE W) gi G hr hb (fun τ => passAt tk τ) he hg hs) fun σ H Q ⟨δ, tmp, Qd, Ed, S, t, k, w⟩ =>
    ⟨δ, tmp, _, Ed, S, t, fun v x δ1 H1 t1 S1 => ⟨δ1, _, _, Ed, S1, t1, fun u y δ2 H2 ⟨fs, ex, t2⟩ ⟨F, ow, S2⟩ => by
      obtain ⟨F', S3, _⟩ := S2.top_frz2
      rw [ex] at S3
      have r1 := S3.pop.top
      have r2 := S3.top
      have one : ∃ p, v = .ref p := by cases r1; exact ⟨_, rfl⟩
      obtain ⟨p, rfl⟩ := one
      have s1 : ∃ d us, H2 p = some (.ins C d us) := by cases r1 with | obj s _ => exact ⟨_, _, S3.fh _ _ s⟩
      obtain ⟨d1, us1, h1⟩ := s1
      exact ⟨p, d1, us1, rfl, h1, lift_data (ds := [.obj C fs, y.toD]) S3.pop.pop (.cons r1 (.cons r2 .nil)) t2 k w⟩, w.push⟩, w⟩
end
end DL
namespace DR
open PySem PySem.Spec PyProof.Rows L2 DL
theorem both {C : Addr} {sd : SpD} {ta tb : TD} {δ : DSt} {Q : DK} {E : XD} (h : ta δ (fun x δ1 => tb δ1 (fun y δ2 => ∃ fs gs, x.toD = .obj C fs ∧ y.toD = .obj C gs ∧ sd [.d (.obj C fs), .d (.obj C gs)] (fun r _ => Q r δ2) (fun x _ => E x δ2)) E) E) : bothD C sd ta tb δ Q E := h
theorem sub {C : Addr} {sd : SpD} {ta tb : TD} {δ : DSt} {Q : DK} {E : XD} (h : ta δ (fun x δ1 => tb δ1 (fun y δ2 => ∃ fs, x.toD = .obj C fs ∧ sd [.d (.obj C fs), .d y.toD] (fun r _ => Q r δ2) (fun x _ => E x δ2)) E) E) : subD C sd ta tb δ Q E := h
end DR

set_option Elab.async false
set_option linter.all false
set_option maxRecDepth 100000
/-! == and != by an own def; classes called with keywords; defs with a star; classmethods -/
namespace DL
open PySem PySem.Spec PyProof.Rows L2
/-! ### == -/
/-- what stands on the right -/
inductive RightV (K : PySem.W.Frag) (G : Hp) (C : Addr) : V → Value → Prop where
  | val {y : V} {t : Value} (h : TyX K G y t) : RightV K G C y t
  | own {q e : Addr} {ws : List (Str × V)} (h : G q = some (.ins C e ws)) : RightV K G C (.ref q) (.ref C)
def rEqC (K : PySem.W.Frag) (C : Addr) (sp : Sp) : R2 := fun x y G Q => ∃ p d us t, x = .ref p ∧ G p = some (.ins C d us) ∧ RightV K G C y t ∧ PySem.W.notFirst K C t = true ∧ sp [x, y] G Q (fun _ _ _ => False)
section
variable {X : Cx} {k : Nat} {f C : Addr} {fd : FuncData} {ps : List Str} {sp : Sp}
theorem op_eqC (hs : PySem.W.findIn X.K (.ref C) "__eq__" = some (some (.ref f))) (hf : PySem.W.isFn X.K (.ref f) = true) (F : FnOk X.prog X.w X.K X.mg X.base (L2.CX X.prog X.w) k f fd ps sp) (room : Room k X.A) (bd : Binds X.K fd ps []) : OpR X (compareOp .Eq) (rEqC X.K C sp) := by
  rintro pins t τ G x y v u Q I rx ry ⟨p, d, us, ty, rfl, hp, hy, hn, h⟩
  obtain rfl : v = Value.ref p := rx
  obtain ⟨_, O, _⟩ := ins_get I.hok hp
  obtain ⟨_, J, _⟩ := O.look
  obtain ⟨_, fr⟩ := I.fr
  have look : PySem.W.Looks (model X.prog X.w) t.heap (typeOf u) ty := by
    cases hy with
    | val z =>
      obtain ⟨_, Z, z, _⟩ := kit_of I ry z
      exact Z.ty _ _ I.kIn z
    | own z =>
      obtain rfl : u = Value.ref _ := ry
      obtain ⟨_, O2, _⟩ := ins_get I.hok z
      obtain ⟨_, J2, _⟩ := O2.look
      exact J2.type
  refine PySem.W.cmp_K (op := .Eq) room.units0 fr I.ok.mod.kin J look hn hs hf ?_
  have run := run_fnS (E := WE W0) (CX := L2.CX X.prog X.w) (σ := τ) F room bd (passAt takes0 τ) I (.cons (show RelV (V.ref p) (Value.ref p) from rfl) (.cons ry .nil)) h
  exact wpAny_mono run (fun z t2 ⟨y, G2, I2, ry, qy⟩ => SlX.cmpback ry ⟨y, G2, I2, ry, qy⟩) fun _ _ z => z
end
/-! ### != -/
theorem ns_mg {K : PySem.W.Frag} {h : Heap} {N : Addr} {mg : Str → Option Value} {n : Str} {v : Value} (hX : K.In h) (hG : h.Ns N mg) (e : PySem.W.nsIn K N n = some (some v)) : mg n = some v := by
  obtain ⟨ob, es, ep, ho, hd, _, hf⟩ := hG
  unfold PySem.W.nsIn at e
  split at e
  · rename_i c d es2 n2 sl q
    cases ho.symm.trans (hX _ _ q)
    cases hd
    split at e
    · rename_i en he
      cases e
      rw [← hf]
      unfold nsFind findBy
      rw [← Array.find?_toList, he]
      rfl
    · split at e <;> cases e
  · cases e
/-- the class's own dict has __eq__ and no __ne__ -/
structure NeOf (K : PySem.W.Frag) (C f : Addr) : Prop where
  cls : ∃ nm q N bs hdct sn sub ab col dd k0 k1 k2 k3 k5 newId, K.lookup C = some (excClassObj nm q C N bs [.type "object"] hdct sn sub ab col dd k0 k1 k2 k3 k5 newId) ∧ PySem.W.nsOkIn K N = true ∧ PySem.W.nsIn K N "__eq__" = some (some (.ref f)) ∧ PySem.W.nsIn K N "__ne__" = some none
  fn : ∃ of, K.lookup f = some of ∧ of.cls = .type "function"
def rNeC (C : Addr) (sp : Sp) : R2 := fun x y G Q => ∃ p d us q e ws, x = .ref p ∧ y = .ref q ∧ G p = some (.ins C d us) ∧ G q = some (.ins C e ws) ∧ sp [x, y] G (fun z G2 => ∃ b, z = .bl b ∧ Q (.bl (!b)) G2) (fun _ _ _ => False)
section
variable {X : Cx} {k : Nat} {f C : Addr} {fd : FuncData} {ps : List Str} {sp : Sp}
theorem op_neC (N : NeOf X.K C f) (F : FnOk X.prog X.w X.K X.mg X.base (L2.CX X.prog X.w) k f fd ps sp) (room : Room (k + 1) X.A) (bd : Binds X.K fd ps []) : OpR X (compareOp .NotEq) (rNeC C sp) := by
  rintro pins t τ G x y v u Q I rx ry ⟨p, d, us, q, e, ws, rfl, rfl, hp, hq, h⟩
  obtain rfl : v = Value.ref p := rx
  obtain rfl : u = Value.ref q := ry
  obtain ⟨_, O, _⟩ := ins_get I.hok hp
  obtain ⟨_, J, _⟩ := O.look
  obtain ⟨_, O2, _⟩ := ins_get I.hok hq
  obtain ⟨_, J2, _⟩ := O2.look
  obtain ⟨nm, qn, NS, bs, hdct, sn, sub, ab, col, dd, k0, k1, k2, k3, k5, newId, hC, hN, hE, hNe⟩ := N.cls
  obtain ⟨of, hf, hfc⟩ := N.fn
  have ns : t.heap.Ns NS (t.heap.nsMap NS) := .of_isNs (PySem.W.isNs_of_in I.kIn hN)
  have own : t.heap.OwnEqNoNe p C f "object" [.type "object"] := ⟨_, of, nm, qn, NS, bs, hdct, sn, sub, ab, col, dd, k0, k1, k2, k3, k5, newId, _, _, J.1, J.2, I.kIn _ _ hC, ns, ns_mg I.kIn ns hE, I.kIn _ _ hf, hfc, PySem.F.cmp_object.mro, PySem.F.cmp_object.eq.lookup, PySem.W.ns_none_of I.kIn ns hNe⟩
  have rr : Vals [V.ref p, V.ref q] [Value.ref p, Value.ref q] := .cons rfl (.cons rfl .nil)
  have hl : [Value.ref p, Value.ref q].length = ps.length := by rw [← rr.length]; exact F.len _ _ _ _ h
  have b' := bd t [Value.ref p, Value.ref q] I.kIn (by rw [List.append_nil]; exact hl)
  rw [List.append_nil] at b'
  have run : wpAny (model X.prog X.w) X.A.in1 (call (.ref f) [.ref p, .ref q]) (fun z t2 => ∃ b, z = .bool b ∧ EP X pins τ Q (.bool (!b)) t2) X.xe t := by
    refine wpAny_call (codeAny_mono (F.run X.A.in1 X.stack t G ⟨[Value.ref p, Value.ref q], []⟩ _ _ _ _ room.in1 I.env0.in1 b' rr h) fun fin t2 z => ?_)
    cases fin with
    | error e => exact passAt (W := W0) takes0 τ pins _ _ e t2 I z
    | ok fl =>
      cases fl with
      | ret w =>
        obtain ⟨y, G2, J3, ry, b, ey, q2⟩ := I.after z
        subst ey
        exact ⟨b, ry, ⟨V.bl (!b), G2, J3, rfl, q2⟩⟩
      | next => exact z.elim
      | brk => exact z.elim
      | cont => exact z.elim
  obtain ⟨hh, gl, gd, tk, os⟩ := t
  exact compareOp_ne_ownEq PySem.F.cmp_object own J2.1 J2.2 (by have := room.units; omega) run
end
section
variable {K : PySem.W.Frag} {F H F' H' : Hp} {C : Addr} {sd : SpD}
theorem Post.ext (P : Post K F H [] [] F' H') : Ext F H F' H' := ⟨P.f, fun a u e => P.fr a u e (fun z => nomatch z), P.fh, P.nw⟩
theorem Post.nil {os : List OC} (P : Post K F H [] os F' H') : os = [] := by cases P.os; rfl
/-- what may stand on the right of an own == -/
def RightD (K : PySem.W.Frag) (C : Addr) (b : D) : Prop := (∃ gs, b = .obj C gs ∧ PySem.W.notFirst K C (.ref C) = true) ∨ ∃ t, TyD K b t ∧ PySem.W.notFirst K C t = true
abbrev eqC (K : PySem.W.Frag) (C : Addr) (sd : SpD) : RD2 := fun a b Q => ∃ fs, a = .obj C fs ∧ RightD K C b ∧ sd [.d a, .d b] (fun r _ => ∃ t, r = .d (.bl t) ∧ Q (.d (.bl t))) (fun _ _ => False)
theorem op2_eqC : Op2 K (rEqC K C (spOf K sd)) (eqC K C sd) := fun x y a b F H Q Qd s rx ry ⟨fs, ea, hb, h⟩ kq => by
  subst ea
  have one : ∃ p, x = .ref p := by cases rx; exact ⟨_, rfl⟩
  obtain ⟨p, rfl⟩ := one
  have s1 : ∃ d us, H p = some (.ins C d us) := by cases rx with | obj s1 _ => exact ⟨_, _, s _ _ s1⟩
  obtain ⟨d, us, hp⟩ := s1
  have hy : ∃ t, RightV K H C y t ∧ PySem.W.notFirst K C t = true := by
    rcases hb with ⟨gs, rfl, hn⟩ | ⟨t, ht, hn⟩
    · cases ry with | obj s2 _ => exact ⟨_, .own (s _ _ s2), hn⟩
    · exact ⟨t, .val (tyD_x s ry ht), hn⟩
  obtain ⟨t, h1, h2⟩ := hy
  refine ⟨p, d, us, t, rfl, hp, h1, h2, F, _, [], _, _, s, (RepL.cons rx (.cons ry .nil)).args, h, fun v r os F' H' ⟨t, er, q⟩ P rr => ?_, fun _ _ _ _ _ _ z _ _ => z.elim⟩
  subst er
  cases P.nil
  exact kq _ _ F' H' q (.d P.ext rr)
abbrev neC (K : PySem.W.Frag) (C : Addr) (sd : SpD) : RD2 := fun a b Q => ∃ fs gs, a = .obj C fs ∧ b = .obj C gs ∧ sd [.d a, .d b] (fun r _ => ∃ t, r = .d (.bl t) ∧ Q (.d (.bl (!t)))) (fun _ _ => False)
theorem op2_neC : Op2 K (rNeC C (spOf K sd)) (neC K C sd) := fun x y a b F H Q Qd s rx ry ⟨fs, gs, ea, eb, h⟩ kq => by
  subst ea eb
  have two : ∃ p q, x = .ref p ∧ y = .ref q := by cases rx; cases ry; exact ⟨_, _, rfl, rfl⟩
  obtain ⟨p, q, rfl, rfl⟩ := two
  have s1 : ∃ d us, H p = some (.ins C d us) := by cases rx with | obj s1 _ => exact ⟨_, _, s _ _ s1⟩
  have s2 : ∃ d us, H q = some (.ins C d us) := by cases ry with | obj s1 _ => exact ⟨_, _, s _ _ s1⟩
  obtain ⟨d, us, hp⟩ := s1
  obtain ⟨e, ws, hq⟩ := s2
  refine ⟨p, d, us, q, e, ws, rfl, rfl, hp, hq, F, _, [], _, _, s, (RepL.cons rx (.cons ry .nil)).args, h, fun v r os F' H' ⟨t, er, q⟩ P rr => ?_, fun _ _ _ _ _ _ z _ _ => z.elim⟩
  subst er
  cases P.nil
  cases (show Rep K F' v (.bl t) from rr)
  exact ⟨t, rfl, kq _ _ F' H' q (.d P.ext (.bl _))⟩
end
end DL

set_option Elab.async false
set_option linter.all false
set_option maxRecDepth 100000
/-! classes called with keywords, defs with a star, classmethods -/
namespace DL
open PySem PySem.Spec PyProof.Rows L2
section
variable {X : Cx} {k n : Nat} {f g C : Addr} {fd : FuncData} {ps ks : List Str} {sp : Sp} {E : L2.St → XK} {x m : Str} {p pos apos : Pos} {e o : Expr} {es : List Expr} {kws : List Keyword} {t tk : TA} {to : TE} {gU : List Value → List Value → List Value} {gV : List V → List V → List V} {i : Nat}
/-- a new instance by keywords too; what __init__ raises is wished for at the slots -/
def tNewK (C : Addr) (n m : Nat) (sp : Sp) (gV : List V → List V → List V) (E : L2.St → XK) (t tk : TA) : TE := fun τ G Q => t τ G fun vs G1 => tk τ G1 fun zs G2 => vs.length = n ∧ zs.length = m ∧ ∀ x dx, G2 x = none → G2 dx = none → dx ≠ x →
  sp (gV (.ref x :: vs) zs) (upd (upd G2 dx (.own x)) x (.ins C dx [])) (fun v G3 => v = .non ∧ Q (.ref x) G3) (E τ)
theorem run_newK {pins : List (Addr × Obj)} {τ : L2.St} {G : Hp} {s : Shared} {Q : VK} {us ws : List Value} {vs zs : List V} (M : Mk X.K C f) (F : FnOk X.prog X.w X.K X.mg X.base (L2.CX X.prog X.w) k f fd ps sp) (room : Room (k + 1) X.A) (kb : KBn X.K fd ps (n + 1) ks gU gV) (hx : PassesAt (L2.CX X.prog X.w) X τ (E τ))
    (I : Inv X pins τ G s) (rv : Vals vs us) (rz : Vals zs ws) (lv : vs.length = n) (lz : zs.length = ks.length)
    (h : ∀ x dx, G x = none → G dx = none → dx ≠ x → sp (gV (.ref x :: vs) zs) (upd (upd G dx (.own x)) x (.ins C dx [])) (fun v G2 => v = .non ∧ Q (.ref x) G2) (E τ)) :
    wpAny (model X.prog X.w) X.A (call (.ref C) us (ks.zip ws)) (EP X pins τ Q) X.xe s := by
  let z := s.heap.objs.size
  have q0 := h (z + 1) z (I.hok.fresh (Nat.le_succ _)) (I.hok.fresh (Nat.le_refl _)) (Nat.ne_of_lt (Nat.lt_succ_self _))
  have J := Inv.made (C := C) I
  have rr : Vals (V.ref (z + 1) :: vs) (Value.ref (z + 1) :: us) := .cons rfl rv
  have hn : (Value.ref (z + 1) :: us).length = n + 1 := congrArg (· + 1) (rv.length.symm.trans lv)
  have run := F.run _ X.stack _ _ ⟨Value.ref (z + 1) :: us, ks.zip ws⟩ (gU (Value.ref (z + 1) :: us) ws) _ _ (E τ) (room.make C us (ks.zip ws)) (J.env0.make C us (ks.zip ws)) (kb.to _ (Value.ref (z + 1) :: us) ws J.kIn hn (rz.length.symm.trans lz)) (kb.rel rr rz) q0
  refine wpAny_call (make_map (f := f) I.kIn M.makes M.init (beq_iff_eq.mp M.fn) (codeAny_mono run fun fin s2 y => ?_))
  cases fin with
  | error er => exact hx pins _ _ er s2 J y
  | ok fl =>
    cases fl with
    | next => exact y.elim
    | brk => exact y.elim
    | cont => exact y.elim
    | ret u =>
      obtain ⟨v, G2, J2, rv2, ev, q3⟩ := J.after y
      subst ev
      exact ⟨rv2, ⟨V.ref (z + 1), G2, J2, rfl, q3⟩⟩
theorem pe_newK (M : Mk X.K C f) (F : FnOk X.prog X.w X.K X.mg X.base (L2.CX X.prog X.w) k f fd ps sp) (room : Room (k + 1) X.A) (hg : Gl X x) (hm : X.mg x = some (.ref C)) (kb : KBn X.K fd ps (n + 1) ks gU gV) (hx : ∀ τ, PassesAt (L2.CX X.prog X.w) X τ (E τ)) (ha : PA X (e :: es) t) (hk : PK X kws tk)
    (hall : (backToKw pos (keywordEach kws X.env)).all (·.1.isSome) = true := by rfl) (hks : (backToKw pos (keywordEach kws X.env)).filterMap (·.1) = ks := by rfl) (hdb : (x == ("__debug__" : Str)) = false := by decide)
    (he : starEach (e :: es) X.env = (false, eval e X.env) :: starEach es X.env := by rfl) (hpl : ((backTo pos (starEach (e :: es) X.env)).any (·.1) || (backToKw pos (keywordEach kws X.env)).any (·.1.isNone)) = false := by rfl) :
    PE X (.Call (.Name x p) (e :: es) kws pos) (tNewK C n ks.length sp gV E t tk) :=
  ⟨fun pins s τ G Q I h => wpAny_Call_Name_kw (ld_glob I hg hm (PySem.W.callWith_KW (h₀ := X.base) I.ok.mod.kin M.kp hall (thn (ha.run pos pins s τ G _ I h) fun us s1 ⟨vs, G1, I1, rv, q⟩ =>
    thn (hk.run pos pins s1 τ G1 _ I1 q) fun ws s2 ⟨zs, G2, I2, rz, lv, lz, q2⟩ => ⟨I2.kIn, by rw [hks]; exact run_newK M F room kb (hx τ) I2 rv rz lv lz q2⟩) hpl he) hdb)⟩
/-- .. the class in a slot -/
def tNewL (i : Nat) (C : Addr) (n m : Nat) (sp : Sp) (gV : List V → List V → List V) (E : L2.St → XK) (t tk : TA) : TE := fun τ G Q => τ[i]? = some (some (.ref C)) ∧ tNewK C n m sp gV E t tk τ G Q
theorem pe_newL (M : Mk X.K C f) (F : FnOk X.prog X.w X.K X.mg X.base (L2.CX X.prog X.w) k f fd ps sp) (room : Room (k + 1) X.A) (hN : X.N[i]? = some x) (hv : Vis X.env.scope x) (kb : KBn X.K fd ps (n + 1) ks gU gV) (hx : ∀ τ, PassesAt (L2.CX X.prog X.w) X τ (E τ)) (ha : PA X (e :: es) t) (hk : PK X kws tk)
    (hall : (backToKw pos (keywordEach kws X.env)).all (·.1.isSome) = true := by rfl) (hks : (backToKw pos (keywordEach kws X.env)).filterMap (·.1) = ks := by rfl) (hdb : (x == ("__debug__" : Str)) = false := by decide) (hcd : (x == ("__classdict__" : Str)) = false := by decide)
    (he : starEach (e :: es) X.env = (false, eval e X.env) :: starEach es X.env := by rfl) (hpl : ((backTo pos (starEach (e :: es) X.env)).any (·.1) || (backToKw pos (keywordEach kws X.env)).any (·.1.isNone)) = false := by rfl) :
    PE X (.Call (.Name x p) (e :: es) kws pos) (tNewL i C n ks.length sp gV E t tk) := by
  refine ⟨fun pins s τ G Q I ⟨hs, h⟩ => ?_⟩
  refine wpAny_Call_Name_kw (thn ((pe_var (pos := p) hN hv hdb hcd).run pins s τ G (fun v G1 => v = .ref C ∧ G1 = G) I ⟨.ref C, hs, rfl, rfl⟩) fun u s0 ⟨v, G0, I0, r0, q0⟩ => ?_)
  obtain ⟨rfl, rfl⟩ := q0
  obtain rfl : u = Value.ref C := r0
  exact PySem.W.callWith_KW (h₀ := X.base) I.ok.mod.kin M.kp hall (thn (ha.run pos pins s0 τ _ _ I0 h) fun us s1 ⟨vs, G1, I1, rv, q⟩ =>
    thn (hk.run pos pins s1 τ G1 _ I1 q) fun ws s2 ⟨zs, G2, I2, rz, lv, lz, q2⟩ => ⟨I2.kIn, by rw [hks]; exact run_newK M F room kb (hx τ) I2 rv rz lv lz q2⟩) hpl he
/-! ### a def by what its values are (a star among its parameters) -/
theorem run_R {pins : List (Addr × Obj)} {τ : L2.St} {G : Hp} {s : Shared} {Q : VK} {us : List Value} {vs : List V} (F : FnR X.prog X.w X.K X.mg X.base (L2.CX X.prog X.w) k f sp) (room : Room k X.A) (hx : PassesAt (L2.CX X.prog X.w) X τ (E τ)) (I : Inv X pins τ G s) (rv : Vals vs us) (h : sp vs G Q (E τ)) :
    codeAny (model X.prog X.w) X.A (.call (.ref f) ⟨us, []⟩) (fun fin s2 => match fin with | .ok (.ret v) => EP X pins τ Q v s2 | .ok _ => False | .error er => X.xe er s2) s := by
  refine codeAny_mono (F X.A X.stack s G us vs Q (E τ) room I.env0 rv h) fun fin s2 y => ?_
  cases fin with
  | error er => exact hx pins G s er s2 I y
  | ok fl =>
    cases fl with
    | next => exact y.elim
    | brk => exact y.elim
    | cont => exact y.elim
    | ret u => exact I.after y
theorem pe_callR (F : FnR X.prog X.w X.K X.mg X.base (L2.CX X.prog X.w) k f sp) (room : Room k X.A) (hg : Gl X x) (hm : X.mg x = some (.ref f)) (kp : PySem.W.keepIn X.K (.ref f) = true) (hx : ∀ τ, PassesAt (L2.CX X.prog X.w) X τ (E τ)) (ha : PA X (e :: es) t)
    (hdb : (x == ("__debug__" : Str)) = false := by decide) (he : starEach (e :: es) X.env = (false, eval e X.env) :: starEach es X.env := by rfl) (hpl : (backTo pos (starEach es X.env)).any (·.1) = false := by rfl) :
    PE X (.Call (.Name x p) (e :: es) [] pos) (fun τ G Q => t τ G fun vs G1 => sp vs G1 Q (E τ)) :=
  ⟨fun pins s τ G Q I h => wpAny_Call_Name_kw (ld_glob I hg hm (PySem.W.callWith_K (h₀ := X.base) I.ok.mod.kin kp (thn (ha.run pos pins s τ G _ I h) fun us s1 ⟨vs, G1, I1, rv, q⟩ => ⟨I1.kIn, wpAny_call (run_R F room (hx τ) I1 rv q)⟩) he hpl) hdb)⟩
theorem pe_callRS (F : FnR X.prog X.w X.K X.mg X.base (L2.CX X.prog X.w) k f sp) (room : Room k X.A) (hg : Gl X x) (hm : X.mg x = some (.ref f)) (kp : PySem.W.keepIn X.K (.ref f) = true) (hx : ∀ τ, PassesAt (L2.CX X.prog X.w) X τ (E τ)) (ha : PA X (e :: es) t)
    (hdb : (x == ("__debug__" : Str)) = false := by decide) (he : starEach (e :: es) X.env = (false, eval e X.env) :: starEach es X.env := by rfl) (hst : (backTo pos (starEach es X.env)).any (·.1) = true := by rfl) :
    PE X (.Call (.Name x p) (e :: es) [] pos) (fun τ G Q => t τ G fun vs G1 => sp vs G1 Q (E τ)) :=
  ⟨fun pins s τ G Q I h => wpAny_Call_Name_kw (ld_glob I hg hm (PySem.W.callWith_S2 (h₀ := X.base) I.ok.mod.kin kp (thn (ha.run pos pins s τ G _ I h) fun us s1 ⟨vs, G1, I1, rv, q⟩ => ⟨I1.kIn, wpAny_call (run_R F room (hx τ) I1 rv q)⟩) he hst) hdb)⟩
/-! ### C.m(..), m a classmethod -/
theorem pe_clsm {mc : Value} {rp : Addr} {pl : Sem Bool} (ho : PE X o to) (cr : ClX.CRead X.K C mc) (cm : ClX.CMet X.K C mc m rp g) (F : FnR X.prog X.w X.K X.mg X.base (L2.CX X.prog X.w) k g sp) (room : Room k X.A) (hx : ∀ τ, PassesAt (L2.CX X.prog X.w) X τ (E τ)) (ha : PA X (e :: es) t)
    (hst : starEach (e :: es) X.env = (false, eval e X.env) :: starEach es X.env := by rfl) (hpl : (backTo pos (starEach es X.env)).any (·.1) = false := by rfl)
    (ht : eval (.Call (.Attribute o m apos) (e :: es) [] pos) X.env = (do
      let y ← eval o X.env
      standAt apos.atName
      let (u, ahead) ← holding [y] (getMethod y m pl)
      callWith pos u ahead (backTo pos (starEach (e :: es) X.env)) (backToKw pos (keywordEach [] X.env))) := by rfl) :
    PE X (.Call (.Attribute o m apos) (e :: es) [] pos) (fun τ G Q => to τ G fun x G1 => x = .ref C ∧ t τ G1 fun vs G2 => sp (.ref C :: vs) G2 Q (E τ)) := by
  refine ⟨fun pins s τ G Q I h => PySem.W.methodCall_KW (pl := pl) (thn (ho.run pins s τ G _ I h) fun u s1 ⟨x, G1, I1, rx, ex, q⟩ => ?_) ht⟩
  subst ex
  obtain rfl : u = Value.ref C := rx
  refine ClX.getmethcm_ok I1 cr cm fun s2 I2 => ?_
  refine ClX.callwith_cm I2 (ClX.base_none I1 (Nat.le_refl _)) cm.fi (thn (ha.run pos _ s2 τ G1 _ I2 q) fun us s3 ⟨vs, G2, I3, rv, q2⟩ => ⟨⟨ClX.pin_at I3, I3.kIn⟩, ?_⟩) hst hpl
  exact thn (wpAny_call (PySem.W.method_call (ClX.pin_at I3) (run_R (us := .ref C :: us) (vs := .ref C :: vs) F room (hx τ) I3 (.cons rfl rv) q2))) fun _ _ y => ClX.unpinE y
end
end DL

set_option Elab.async false
set_option linter.all false
set_option maxRecDepth 100000
/-! the same in data -/
namespace DL
open PySem PySem.Spec PyProof.Rows L2
section
variable {K : PySem.W.Frag} {c : Fc} {W : WX} {F H : Hp} {ow : Addr → Option Hold} {δ : DSt} {tmp : List (V × DV)} {σ : L2.St}
theorem SttF.pushL : ∀ {vs : List V} {ds : List D} {tmp : List (V × DV)}, SttF K c F ow δ tmp σ H → RepL K F vs ds → SttF K c F ow δ (vs.zip (ds.map .d) ++ tmp) σ H
  | _, _, _, S, .nil => S
  | _, _, _, S, .cons h t => (SttF.pushL S t).push h
theorem SttF.popL : ∀ {vs : List V} {ds : List D} {tmp : List (V × DV)}, vs.length = ds.length → SttF K c F ow δ (vs.zip (ds.map .d) ++ tmp) σ H → RepL K F vs ds ∧ SttF K c F ow δ tmp σ H
  | [], [], _, _, S => ⟨.nil, S⟩
  | v :: vs, d :: ds, tmp, hl, S => by
    have S' : SttF K c F ow δ ((v, .d d) :: (vs.zip (ds.map .d) ++ tmp)) σ H := S
    obtain ⟨r, S2⟩ := SttF.popL (Nat.succ.inj hl) S'.pop
    exact ⟨.cons S'.top r, S2⟩
theorem WD.pushL {Ed : XD} {l : List (V × DV)} (w : WD K c W tmp Ed) : WD K c W (l ++ tmp) Ed := by
  induction l with
  | nil => exact w
  | cons a l ih => obtain ⟨v, x⟩ := a; exact ih.push
theorem RepL.avs : ∀ {vs : List V} {ds : List D}, RepL K F vs ds → RepArgs K F σ vs (ds.map .d)
  | _, _, .nil => .nil
  | _, _, .cons h t => .d h t.avs
theorem argsOf_d : ∀ {ds : List D}, argsOf δ (ds.map .d) (ds.map .d)
  | [] => rfl
  | _ :: _ => ⟨_, rfl, argsOf_d⟩
theorem slots_d : ∀ {ds : List D}, slotsOf (ds.map .d) = []
  | [] => rfl
  | _ :: ds => slots_d (ds := ds)
end
section
variable {X : Cx} {c : Fc} {W : WX} {k n : Nat} {f g C : Addr} {fd : FuncData} {ps ks : List Str} {sd : SpD} {x m : Str} {p pos apos kpos : Pos} {e o : Expr} {es : List Expr} {kws : List Keyword} {t : TD} {ta tk : TDA} {nm : Option Str} {gU : List Value → List Value → List Value} {gV : List V → List V → List V} {i : Nat}
theorem PK_imp {t t' : TA} (h : PK X kws t) (f : ∀ σ H Q, t' σ H Q → t σ H Q) : PK X kws t' := ⟨fun pos pins s σ H Q I q => h.run pos pins s σ H Q I (f _ _ _ q)⟩
theorem pkd_nil : PK X [] (LA X.K c W nilD) := PK_imp pk_nil fun σ H Q ⟨δ, tmp, Qd, Ed, ⟨F, ow, S⟩, q, k, w⟩ => k [] [] δ F ow H q S .nil
theorem pkd_cons (he : PE X e (LE X.K c W t)) (hr : PK X kws (LA X.K c W tk)) : PK X (⟨nm, e, kpos⟩ :: kws) (LA X.K c W (consD t tk)) :=
  PK_imp (pk_cons he hr) fun σ H Q ⟨δ, tmp, Qd, Ed, S, t, k, w⟩ => ⟨δ, tmp, _, Ed, S, t, fun v x δ1 H1 q1 ⟨F, ow, S1⟩ => by
    obtain ⟨F', S2, _⟩ := S1.top_frz
    exact ⟨δ1, _, _, Ed, ⟨F', ow, S2⟩, q1, fun vs as δ2 F2 ow2 H2 q2 S3 ra => k _ _ _ _ _ _ q2 S3.pop (.d S3.top ra), w.push⟩, w⟩
/-- C(.., k = v, ..) of data alone; dd: the defaults behind -/
def newKD (C : Addr) (n m : Nat) (dd : List D) (sd : SpD) (ta tk : TDA) : TD := fun δ Q E => ta δ (fun as δ1 => ∃ ds, as = ds.map .d ∧ ds.length = n ∧ tk δ1 (fun zs δ2 => ∃ es, zs = es.map .d ∧ es.length = m ∧
  sd (.own (.ins C []) :: (ds ++ es ++ dd).map .d) (fun r os => r = .d .non ∧ ∃ fs os', os = .ins C fs :: os' ∧ Q (.d (.obj C fs)) δ2) (fun x os => ∃ o os', os = o :: os' ∧ E x δ2)) E) E
theorem lift_newK {K : PySem.W.Frag} {dv : List V} {dd : List D} {tA tB : TA} {m : Nat} (hA : tA = LA K c W ta) (hB : tB = LA K c W tk) (hd : ∀ F, RepL K F dv dd) (hg : ∀ v vs zs, gV (v :: vs) zs = v :: (vs ++ zs ++ dv)) : ∀ σ H Q, LE K c W (newKD C n m dd sd ta tk) σ H Q → tNewK C n m (spOf K sd) gV (WE W) tA tB σ H Q := by
  subst hA hB
  rintro σ H Q ⟨δ, tmp, Qd, Ed, S, t, k, w⟩
  refine ⟨δ, tmp, _, Ed, S, t, fun vs as δ1 F ow H1 ⟨ds, ea, ln, t1⟩ S1 ra => ?_, w⟩
  subst ea
  have r1 := args_d ra
  refine ⟨δ1, vs.zip (ds.map .d) ++ tmp, _, Ed, ⟨F, ow, S1.pushL r1⟩, t1, fun zs bs δ2 F2 ow2 H2 ⟨es, eb, lm, h⟩ S2 rb => ?_, w.pushL⟩
  subst eb
  have r2 := args_d rb
  obtain ⟨r1, S3⟩ := S2.popL r1.len
  refine ⟨r1.len.trans ln, r2.len.trans lm, fun y dy ny ndy ne => ?_⟩
  rw [hg]
  refine lift_make (as := (ds ++ es ++ dd).map .d) (xs := (ds ++ es ++ dd).map .d) (Qd := Qd) (Ed := Ed) S3 ((r1.app r2).app (hd F2)).avs argsOf_d (by rw [slots_d]; exact .nil) ?_ k w y dy ny ndy ne
  rw [slots_d]
  exact h
/-- the class called by its name -/
theorem pd_newK {dv : List V} {dd : List D} (M : Mk X.K C f) (G : FnOk X.prog X.w X.K X.mg X.base (L2.CX X.prog X.w) k f fd ps (spOf X.K sd)) (hr : Room (k + 1) X.A) (hg : Gl X x) (hm : X.mg x = some (.ref C)) (kb : KBn X.K fd ps (n + 1) ks gU gV) (hd : ∀ F, RepL X.K F dv dd) (hv : ∀ v vs zs, gV (v :: vs) zs = v :: (vs ++ zs ++ dv)) (tk0 : Takes X W)
    (ha : PA X (e :: es) (LA X.K c W ta)) (hk : PK X kws (LA X.K c W tk))
    (hall : (backToKw pos (keywordEach kws X.env)).all (·.1.isSome) = true := by rfl) (hks : (backToKw pos (keywordEach kws X.env)).filterMap (·.1) = ks := by rfl) (hdb : (x == ("__debug__" : Str)) = false := by decide)
    (he : starEach (e :: es) X.env = (false, eval e X.env) :: starEach es X.env := by rfl) (hpl : ((backTo pos (starEach (e :: es) X.env)).any (·.1) || (backToKw pos (keywordEach kws X.env)).any (·.1.isNone)) = false := by rfl) :
    PE X (.Call (.Name x p) (e :: es) kws pos) (LE X.K c W (newKD C n ks.length dd sd ta tk)) :=
  PE_imp (pe_newK (E := WE W) M G hr hg hm kb (fun τ => passAt tk0 τ) ha hk hall hks hdb he hpl) (lift_newK rfl rfl hd hv)
/-- the class in slot i -/
def newLD (i : Nat) (C : Addr) (n m : Nat) (dd : List D) (sd : SpD) (ta tk : TDA) : TD := fun δ Q E => δ[i]? = some (some (.d (.adr C))) ∧ newKD C n m dd sd ta tk δ Q E
theorem pd_newL {dv : List V} {dd : List D} (M : Mk X.K C f) (G : FnOk X.prog X.w X.K X.mg X.base (L2.CX X.prog X.w) k f fd ps (spOf X.K sd)) (hr : Room (k + 1) X.A) (hN : X.N[i]? = some x) (hvi : Vis X.env.scope x) (kb : KBn X.K fd ps (n + 1) ks gU gV) (hd : ∀ F, RepL X.K F dv dd) (hv : ∀ v vs zs, gV (v :: vs) zs = v :: (vs ++ zs ++ dv)) (tk0 : Takes X W)
    (ha : PA X (e :: es) (LA X.K c W ta)) (hk : PK X kws (LA X.K c W tk))
    (hall : (backToKw pos (keywordEach kws X.env)).all (·.1.isSome) = true := by rfl) (hks : (backToKw pos (keywordEach kws X.env)).filterMap (·.1) = ks := by rfl) (hdb : (x == ("__debug__" : Str)) = false := by decide) (hcd : (x == ("__classdict__" : Str)) = false := by decide)
    (he : starEach (e :: es) X.env = (false, eval e X.env) :: starEach es X.env := by rfl) (hpl : ((backTo pos (starEach (e :: es) X.env)).any (·.1) || (backToKw pos (keywordEach kws X.env)).any (·.1.isNone)) = false := by rfl) :
    PE X (.Call (.Name x p) (e :: es) kws pos) (LE X.K c W (newLD i C n ks.length dd sd ta tk)) :=
  PE_imp (pe_newL (E := WE W) (i := i) M G hr hN hvi kb (fun τ => passAt tk0 τ) ha hk hall hks hdb hcd he hpl) fun σ H Q ⟨δ, tmp, Qd, Ed, ⟨F, ow, S⟩, ⟨ei, t⟩, k, w⟩ => by
    obtain ⟨v, e1, r⟩ := S.sl _ _ ei
    cases (show Rep X.K F v (.adr C) from r)
    exact ⟨e1, lift_newK rfl rfl hd hv σ H Q ⟨δ, tmp, Qd, Ed, ⟨F, ow, S⟩, t, k, w⟩⟩
/-! ### by values alone -/
def callRD (sd : SpD) (ta : TDA) : TD := fun δ Q E => ta δ (fun as δ1 => ∃ ds : List D, as = ds.map .d ∧ sd (ds.map .d) (fun r _ => Q r δ1) (fun x _ => E x δ1)) E
theorem lift_R : ∀ σ H Q, LE X.K c W (callRD sd ta) σ H Q → LA X.K c W ta σ H fun vs H1 => spOf X.K sd vs H1 Q (WE W σ) := fun σ H Q ⟨δ, tmp, Qd, Ed, S, t, k, w⟩ =>
  ⟨δ, tmp, _, Ed, S, t, fun vs as δ1 F ow H1 ⟨ds, ea, h⟩ S1 ra => by
    subst ea
    exact lift_data S1 (args_d ra) h k w, w⟩
theorem pd_callR (G : FnR X.prog X.w X.K X.mg X.base (L2.CX X.prog X.w) k f (spOf X.K sd)) (hr : Room k X.A) (hg : Gl X x) (hm : X.mg x = some (.ref f)) (kp : PySem.W.keepIn X.K (.ref f) = true) (tk0 : Takes X W) (ha : PA X (e :: es) (LA X.K c W ta))
    (hdb : (x == ("__debug__" : Str)) = false := by decide) (he : starEach (e :: es) X.env = (false, eval e X.env) :: starEach es X.env := by rfl) (hpl : (backTo pos (starEach es X.env)).any (·.1) = false := by rfl) :
    PE X (.Call (.Name x p) (e :: es) [] pos) (LE X.K c W (callRD sd ta)) :=
  PE_imp (pe_callR (E := WE W) G hr hg hm kp (fun τ => passAt tk0 τ) ha hdb he hpl) lift_R
/-- C.m(..) -/
def clsmD (C : Addr) (sd : SpD) (to : TD) (ta : TDA) : TD := fun δ Q E => to δ (fun o δ1 => o.toD = .adr C ∧ ta δ1 (fun as δ2 => ∃ ds : List D, as = ds.map .d ∧ sd (.d (.adr C) :: ds.map .d) (fun r _ => Q r δ2) (fun x _ => E x δ2)) E) E
theorem pd_clsm {mc : Value} {rp : Addr} {pl : Sem Bool} {to : TD} (ho : PE X o (LE X.K c W to)) (cr : ClX.CRead X.K C mc) (cm : ClX.CMet X.K C mc m rp g) (G : FnR X.prog X.w X.K X.mg X.base (L2.CX X.prog X.w) k g (spOf X.K sd)) (hr : Room k X.A) (tk0 : Takes X W) (ha : PA X (e :: es) (LA X.K c W ta))
    (hst : starEach (e :: es) X.env = (false, eval e X.env) :: starEach es X.env := by rfl) (hpl : (backTo pos (starEach es X.env)).any (·.1) = false := by rfl)
    (ht : eval (.Call (.Attribute o m apos) (e :: es) [] pos) X.env = (do
      let y ← eval o X.env
      standAt apos.atName
      let (u, ahead) ← holding [y] (getMethod y m pl)
      callWith pos u ahead (backTo pos (starEach (e :: es) X.env)) (backToKw pos (keywordEach [] X.env))) := by rfl) :
    PE X (.Call (.Attribute o m apos) (e :: es) [] pos) (LE X.K c W (clsmD C sd to ta)) :=
  PE_imp (pe_clsm (E := WE W) ho cr cm G hr (fun τ => passAt tk0 τ) ha hst hpl ht) fun σ H Q ⟨δ, tmp, Qd, Ed, S, t, k, w⟩ =>
    ⟨δ, tmp, _, Ed, S, t, fun v y δ1 H1 ⟨ey, t1⟩ ⟨F, ow, S1⟩ => by
      obtain ⟨F', S2, _⟩ := S1.top_frz
      rw [ey] at S2
      have r := S2.top
      cases r
      exact ⟨rfl, δ1, tmp, _, Ed, ⟨F', ow, S2.pop⟩, t1, fun vs as δ2 F2 ow2 H2 ⟨ds, ea, h⟩ S3 ra => by
        subst ea
        exact lift_data (ds := .adr C :: ds) S3 (.cons (.adr C) (args_d ra)) h k w, w⟩, w⟩
end
/-! ### a def with a star -/
def starD (n : Nat) (sd : SpD) : SpD := fun as Q E => ∃ ds es : List D, as = (ds ++ es).map .d ∧ ds.length = n ∧ es.length ≤ sizeLine ∧ sd ((ds ++ [D.tup es]).map .d) (fun r _ => Q r []) (fun x _ => E x [])
section
variable {P : Program} {w : World} {K : PySem.W.Frag} {mg : Str → Option Value} {base : Heap}
theorem repL_split {F : Hp} : ∀ {ds es : List D} {vs : List V}, RepL K F vs (ds ++ es) → ∃ us ws, vs = us ++ ws ∧ RepL K F us ds ∧ RepL K F ws es
  | [], _, vs, r => ⟨[], vs, rfl, .nil, r⟩
  | _ :: _, _, _, .cons h t => by
    obtain ⟨us, ws, e, r1, r2⟩ := repL_split t
    exact ⟨_ :: us, ws, congrArg _ e, .cons h r1, r2⟩
theorem argsRep_d {F H : Hp} : ∀ {ds : List D} {vs : List V} {ps : List Addr}, ArgsRep K F H vs (ds.map .d) ps → RepL K F vs ds ∧ ps = []
  | [], _, _, .nil => ⟨.nil, rfl⟩
  | _ :: _, _, _, .d h t => ⟨.cons h (argsRep_d t).1, (argsRep_d t).2⟩
theorem okStar {x qual pv : Str} {st : Stmt} {f : Addr} {fd : FuncData} {N ps : List Str} {k : Nat} {sd : SpD} (G : Fun K x qual st f fd) (S : FnScope N (ps ++ [pv]) (defScope st)) (len : ∀ as Q E, sd as Q E → ownIx as 0 = [])
    (hb : ∀ (kV doc pm : Value) (an : Option Addr) (cdv ct : Value) (us rest : List Value), us.length = ps.length → bindArgs (PySem.W.fnOf x qual (defArgs st) (defBody st) (defScope st) .none kV doc pm an cdv ct) ⟨us ++ rest, []⟩ = (newTuple rest >>= fun t => pure (ps.zip us ++ [(pv, t)])))
    (hbody : ∃ t : TDS, (∀ (cdv : Value) (A : Around) (outer : List Env) (s : Shared) (H : Hp) (E : XK) (ad : List Addr) (F0 H0 : Hp), Room k (A.deeper (envOfC qual (defScope st) s.heap.objs.size f cdv)) →
        PSs (cxOf (L2.CX P w) P w K mg base N qual (defScope st) f cdv A outer s H E) (defBody st) (LS K ⟨[], ad, F0, H0⟩ (fun cls d _ H => E cls d H) t)) ∧
      ∀ as Qd Ed, sd as Qd Ed → t (endsD [] Qd Ed) (startD N.length as)) :
    FnR P w K mg base (L2.CX P w) (k + 1) f (spOf K (starD ps.length sd)) := by
  obtain ⟨t, ht, hq⟩ := hbody
  obtain ⟨oc, od, kV, doc, pm, an, cdv, ct, osl, rfl, lk, hcd⟩ := G.ex
  have body := StX.fn_star (CX := L2.CX P w) (sp := spOf K sd) (k := k) (mg := mg) (base := base) (w := w) (P := P) lk hcd S StX.cxUp (fun us rest hl => hb kV doc pm an cdv ct us rest hl) (fun A outer s H vs Q E hr ⟨F, as, qs, Qd, Ed, sm, ar, h, kq, ke⟩ => by
    have hsl := len _ _ _ h
    have S0 := entry (N := N) sm ar
    rw [hsl] at S0
    have hpl : qs.length = ([] : List Nat).length := by rw [← hsl]; exact ar.plen
    have hqs : qs = [] := List.length_eq_zero_iff.mp hpl
    subst hqs
    have post : ∀ {δ' : DSt} {tmp : List (V × DV)} {σ' : L2.St} {F' H' : Hp} {ow' : Addr → Option Hold} {os : List OC}, SttF K ⟨[], [], F, H⟩ F' ow' δ' tmp σ' H' → takeB δ' [] os → Post K F H [] os F' H' := fun {δ' tmp σ' F' H' ow' os} S' tb =>
      ⟨S'.f0, S'.fh, S'.fr, S'.up, S'.fn, takeB_reps S' hpl S'.ps tb⟩
    refine ⟨_, ht cdv A outer s H E [] F H hr, startD N.length as, [], endsD [] Qd Ed, ⟨F, _, S0⟩, hq as Qd Ed h, fun δ' σ' H' ⟨os, tb, q⟩ ⟨F', ow', S'⟩ => ?_, fun v x δ' σ' H' ⟨os, tb, q⟩ ⟨F', ow', S'⟩ => ?_, fun _ _ _ z => z.elim, fun _ _ _ z => z.elim, fun x δ' σ' H' F' ow' cls d ⟨os, tb, q⟩ S' er => ?_⟩
    · exact kq .non (.d .non) os F' H' q (post S' tb) .non
    · refine kq v x os F' H' q (post S' tb) ?_
      cases x with
      | d y => exact S'.top
      | own o =>
        obtain ⟨p, rfl, e, b, n, r⟩ := S'.tm.1
        exact ⟨p, rfl, n.t, b, r⟩
    · exact ke cls d x os F' H' q (post S' tb) er)
  refine body.imp fun vs H Q E ⟨F, as, qs, Qd, Ed, sm, ar, ⟨ds, es, ea, hn, hz, h⟩, kq, ke⟩ => ?_
  subst ea
  obtain ⟨r, rfl⟩ := argsRep_d ar
  obtain ⟨us, ws, rfl, r1, r2⟩ := repL_split r
  refine ⟨us, ws, rfl, r1.len.trans hn, by rw [r2.len]; exact hz, fun p hp => ?_⟩
  have e1 : Ext F H (upd F p (.tup ws)) (upd H p (.tup ws)) := Ext.new sm hp
  have back : ∀ {os : List OC} {F' H' : Hp}, Post K (upd F p (.tup ws)) (upd H p (.tup ws)) [] os F' H' → Post K F H [] [] F' H' := fun {os F' H'} Pq =>
    ⟨e1.f.trans Pq.f, Pq.fh, fun a u e _ => Pq.fr a u (e1.h _ _ e) (fun z => nomatch z), fun a z => e1.h.free (Pq.up a z), fun a z => (Pq.nw a z).elim (e1.nw a) fun y => .inr (e1.h.free y), .nil⟩
  refine ⟨upd F p (.tup ws), (ds ++ [D.tup es]).map .d, [], _, _, e1.fh, ?_, h, fun v x os F' H' q Pq rr => kq v x [] F' H' q (back Pq) ?_, fun cls d x os F' H' q Pq er => ke cls d x [] F' H' q (back Pq) er⟩
  · exact ((r1.mono e1.f).app (.cons (.tup upd_same (r2.mono e1.f)) .nil)).args
  · cases x with
    | d y => exact rr
    | own o =>
      obtain ⟨q, e, nq, b, z⟩ := rr
      exact ⟨q, e, e1.h.free nq, b, z⟩
/-- a def whose keyword-only parameters lack -/
theorem FnOk.rawK {k n : Nat} {f : Addr} {fd : FuncData} {ps : List Str} {sp : Sp} {gU : List Value → List Value → List Value} {gV : List V → List V → List V} (F : FnOk P w K mg base (L2.CX P w) k f fd ps sp) (kb : KBn K fd ps n [] gU gV) : FnR P w K mg base (L2.CX P w) k f (fun vs H Q E => vs.length = n ∧ sp (gV vs []) H Q E) := by
  intro A outer s H us vs Q E hr e0 r ⟨hl, hs⟩
  have z := kb.to s us [] (e0.mod.kin.keeps fun b o e => (e0.bs b o e).1) (r.length.symm.trans hl) rfl
  exact F.run A outer s H ⟨us, []⟩ (gU us []) (gV vs []) Q E hr e0 z (kb.rel r .nil) hs
/-- .. in data: dd the defaults -/
def dfltD (n : Nat) (dd : List D) (sd : SpD) : SpD := fun as Q E => ∃ ds : List D, as = ds.map .d ∧ ds.length = n ∧ sd ((ds ++ dd).map .d) (fun r _ => Q r []) (fun x _ => E x [])
theorem FnOk.dflt {k n : Nat} {f : Addr} {fd : FuncData} {ps : List Str} {sd : SpD} {dv : List V} {dd : List D} {gU : List Value → List Value → List Value} {gV : List V → List V → List V} (F : FnOk P w K mg base (L2.CX P w) k f fd ps (spOf K sd)) (kb : KBn K fd ps n [] gU gV) (hd : ∀ F, RepL K F dv dd) (hg : ∀ vs, gV vs [] = vs ++ dv) :
    FnR P w K mg base (L2.CX P w) k f (spOf K (dfltD n dd sd)) := (DL.FnOk.rawK F kb).imp fun vs H Q E ⟨F, as, qs, Qd, Ed, sm, ar, ⟨ds, ea, hn, h⟩, kq, ke⟩ => by
  subst ea
  obtain ⟨r, rfl⟩ := argsRep_d ar
  refine ⟨r.len.trans hn, ?_⟩
  rw [hg]
  exact ⟨F, _, [], _, _, sm, (r.app (hd F)).args, h, fun v x os F' H' q Pq rr => kq v x [] F' H' q (by cases Pq.nil; exact Pq) rr, fun cls d x os F' H' q Pq er => ke cls d x [] F' H' q (by cases Pq.nil; exact Pq) er⟩
end
end DL
namespace DR
open PySem PySem.Spec PyProof.Rows L2 DL
section
variable {δ : DSt} {Q : DK} {E : XD}
theorem newk {C : Addr} {n m : Nat} {dd : List DL.D} {sd : SpD} {ta tk : TDA} (h : ta δ (fun as δ1 => ∃ ds, as = ds.map .d ∧ ds.length = n ∧ tk δ1 (fun zs δ2 => ∃ es, zs = es.map .d ∧ es.length = m ∧
  sd (.own (.ins C []) :: (ds ++ es ++ dd).map .d) (fun r os => r = .d .non ∧ ∃ fs os', os = .ins C fs :: os' ∧ Q (.d (.obj C fs)) δ2) (fun x os => ∃ o os', os = o :: os' ∧ E x δ2)) E) E) : newKD C n m dd sd ta tk δ Q E := h
theorem newl {i : Nat} {C : Addr} {n m : Nat} {dd : List DL.D} {sd : SpD} {ta tk : TDA} (e : δ[i]? = some (some (.d (.adr C)))) (h : newKD C n m dd sd ta tk δ Q E) : newLD i C n m dd sd ta tk δ Q E := ⟨e, h⟩
theorem callr {sd : SpD} {ta : TDA} (h : ta δ (fun as δ1 => ∃ ds : List DL.D, as = ds.map .d ∧ sd (ds.map .d) (fun r _ => Q r δ1) (fun x _ => E x δ1)) E) : callRD sd ta δ Q E := h
theorem clsm {C : Addr} {sd : SpD} {to : TD} {ta : TDA} (h : to δ (fun o δ1 => o.toD = .adr C ∧ ta δ1 (fun as δ2 => ∃ ds : List DL.D, as = ds.map .d ∧ sd (.d (.adr C) :: ds.map .d) (fun r _ => Q r δ2) (fun x _ => E x δ2)) E) E) : clsmD C sd to ta δ Q E := h
end
end DR

set_option Elab.async false
set_option linter.all false
set_option maxRecDepth 100000
/-! walking an object whose __iter__ hands back iter(self.f), f a tuple -/
namespace DL
open PySem PySem.Spec PyProof.Rows L2
/-! ### iter of a tuple -/
abbrev titObj (l : Addr) : Obj := { cls := .type "tuple_iterator", data := .fields #[.ref l, .int 0 0] }
def TitO (l it : Addr) : HO := .ext fun h => h.get? it = some (titObj l)
theorem titO_ok {P : Program} {w : World} {G : Hp} {h : Heap} {l it : Addr} (e : h.get? it = some (titObj l)) : ObjOk P w G h it (TitO l it) := ⟨e, ⟨_, e⟩, fun _ _ q k => k _ q⟩
theorem run_iterT {prog : Program} {w : World} {A : Around} {E : Value → Shared → Prop} {s : Shared} {l : Addr} {items : Array Value} {Q : Value → Shared → Prop} (hl : s.heap.IsTuple l items) (h : Q (.ref s.heap.objs.size) { s with heap := s.heap.push (titObj l) }) : wpAny (model prog w) A (call (.builtin "iter") [.ref l]) Q E s := by
  refine Calls.call_function_entry (by decide +kernel) (by decide +kernel) PySem.W.kdk_entry_iter (PySem.W.kdk_args_iter _) ?_
  unfold Builtin.«iter»
  refine wpAny_bind (m := someArgs "iter" 1 2 _) (wpAny_of_eq (a := [Value.ref l]) (by first | rfl | kernel_rfl!) ?_)
  show wpAny _ _ (pyIter (.ref l) >>= _) _ _ s
  exact wpAny_bind (wpAny_pyIter_tuple hl (wpAny_pure ⟨_, rfl, h⟩))
def rIterT (K : PySem.W.Frag) (n : Nat) : List V → Hp → VK → Prop := fun xs G Q => ∃ (l : Addr) (zs : List V), xs = [.ref l] ∧ SqT K G l zs ∧ ∀ it, G it = none → n ≤ it → Q (.ref it) (upd G it (TitO l it))
theorem call_iterT {X : Cx} : CallR X (.builtin "iter") (rIterT X.K X.s_0.heap.objs.size) := by
  rintro pins s σ G xs us Q I r ⟨l, zs, rfl, hq, q⟩
  obtain ⟨u, rfl, ru⟩ := r.one
  obtain rfl : u = Value.ref l := ru
  obtain ⟨its, rv, pl, hz⟩ := I.tuple hq
  exact run_iterT (items := its.toArray) pl ⟨.ref s.heap.objs.size, _, I.laid (t' := s.toks) (fun _ _ e => Heap.get?_push_of_some _ e) (Nat.le_refl _) (titO_ok (Heap.get?_push_size _ rfl)), rfl, q _ (I.hok.fresh (Nat.le_refl _)) I.sz⟩
/-! ### a def run where it stands -/
theorem run_at {P : Program} {w : World} {K : PySem.W.Frag} {mg : Str → Option Value} {base : Heap} {k : Nat} {f : Addr} {name qual : Str} {params : Arguments} {body : List Stmt} {scope : Scope} {dV kV doc pm cdv ct oc : Value} {an od : Option Addr}
    {osl : Array (Option Value)} {N ps : List Str} (lk : K.lookup f = some ⟨oc, od, .func (PySem.W.fnOf name qual params body scope dV kV doc pm an cdv ct), osl⟩) (hcd : PySem.W.codeIn K cdv qual = true) (S : FnScope N ps scope)
    {A : Around} {outer : List Env} {s : Shared} {G : Hp} {args : Args} {us : List Value} {vs : List V} {Q : VK} {E : XK} (hr : Room (k + 1) A) (e0 : Env0 P w K mg base A outer s G) (hb : BindsTo s (PySem.W.fnOf name qual params body scope dV kV doc pm an cdv ct) args (ps.zip us)) (rv : Vals vs us) (hl : vs.length = ps.length)
    (hbody : Room k (A.deeper (envOfC qual scope s.heap.objs.size f cdv)) → ∃ t, PSs (cxOf (L2.CX P w) P w K mg base N qual scope f cdv A outer s G E) body t ∧ t { nx := fun _ G2 => Q .non G2, rt := Q } (start N vs) G) :
    codeAny (model P w) A (.call (.ref f) args) (CR (L2.CX P w) outer P w G s Q E) s := by
  have kin : K.In s.heap := e0.mod.kin.keeps fun b o e => (e0.bs b o e).1
  have lim : s.heap.NoLimit := e0.mod.nolimit.keeps fun b o e => (e0.bs b o e).1
  refine codeAny_call_function hr.depth (kin _ _ lk) rfl S.co S.gen rfl (PySem.W.codeRec_of kin hcd) (hb _ _ _ _ (wpAny_newFunctionEnv_cells S.kind (fun y hy => ?_) fun env he s1 x => ?_))
  · rcases S.par y.1 (List.of_mem_zip hy).1 with q | q
    · exact .inl q
    · exact .inr ⟨q, PySem.W.cellsFrom_some _ _ _ (.inl q)⟩
  · subst he
    obtain ⟨t, ht, hq⟩ := hbody (hr.deeper _)
    have I0 : Inv (cxOf (L2.CX P w) P w K mg base N qual scope f cdv A outer s G E) [] (start N vs) G s1 := inv_start S hr.hd e0 hl rv x
    refine ⟨lim.keeps x.toInCall.keep, codeAny_func (wpAny_mono (ht.run [] s1 (start N vs) G _ I0 hq) (fun fl s2 z => ?_) fun _ _ z => z)⟩
    cases fl with
    | ret u => obtain ⟨v, σ2, G2, J, rv2, q⟩ := z; exact ⟨v, G2, J.os, J.bare, J.base, J.hok, rv2, q⟩
    | next => obtain ⟨σ2, G2, J, q⟩ := z; exact ⟨V.non, G2, J.os, J.bare, J.base, J.hok, rfl, q⟩
    | brk => obtain ⟨_, _, _, q⟩ := z; exact q.elim
    | cont => obtain ⟨_, _, _, q⟩ := z; exact q.elim
/-! ### the class's __iter__ -/
/-- def __iter__(self): return iter(self.fld) -/
structure IterOf (K : PySem.W.Frag) (C f : Addr) (qual fld : Str) (st : Stmt) (fd : FuncData) : Prop where
  at_ : PySem.W.findIn K (.ref C) "__iter__" = some (some (.ref f))
  fn : PySem.W.isFn K (.ref f) = true
  fu : Fun K "__iter__" qual st f fd
  sc : FnScope ["self"] ["self"] (defScope st)
  bd : Binds K fd ["self"] []
  body : ∀ (P : Program) (w : World) (mg : Str → Option Value) (base : Heap) (A : Around) (outer : List Env) (s : Shared) (G : Hp) (E : XK) (cdv : Value), mg "iter" = none → ∃ t, PSs (cxOf (L2.CX P w) P w K mg base ["self"] qual (defScope st) f cdv A outer s G E) (defBody st) t ∧
    ∀ (a dx q : Addr) (us : List (Str × V)) (xs : List V) (Q : VK), G a = some (.ins C dx us) → us.lookup fld = some (.ref q) → SqT K G q xs → (∀ it, G it = none → s.heap.objs.size ≤ it → Q (.ref it) (upd G it (TitO q it))) → t { nx := fun _ G2 => Q .non G2, rt := Q } (start ["self"] [.ref a]) G
section
variable {X : Cx} {C f : Addr} {qual fld : Str} {st : Stmt} {fd : FuncData}
theorem iter_run (T : IterOf X.K C f qual fld st fd) (hm : X.mg "iter" = none) {k : Nat} (hr : Room (k + 2) X.A) {pins : List (Addr × Obj)} {σ : L2.St} {G : Hp} {s : Shared} {a dx q : Addr} {us : List (Str × V)} {xs : List V} {tg : Expr} {R : It → Hp → Prop} (I : Inv X pins σ G s)
    (ha : G a = some (.ins C dx us)) (hf : us.lookup fld = some (.ref q)) (hq : SqT X.K G q xs) (h : R (Itt X.K q) G) : wpAny (model X.prog X.w) X.A (pyIter (.ref a)) (PIE X pins σ tg R) X.xe s := by
  obtain ⟨_, O, _⟩ := ins_get I.hok ha
  obtain ⟨_, J, _⟩ := O.look
  obtain ⟨_, fr⟩ := I.fr
  refine PySem.W.owit_iter fr I.ok.mod.kin J T.at_ T.fn ?_
  obtain ⟨oc, od, kV, doc, pm, an, cdv, ct, osl, rfl, lk, hcd⟩ := T.fu.ex
  have bd := T.bd s [.ref a] I.kIn rfl
  have run := run_at (mg := X.mg) (base := X.base) (w := X.w) (P := X.prog) (k := k + 1) lk hcd T.sc (A := X.A) (outer := X.stack) (s := s) (G := G) (args := ⟨[.ref a], []⟩) (us := [.ref a]) (vs := [V.ref a]) (E := fun _ _ _ => False)
    (Q := fun v G2 => ∃ it, v = .ref it ∧ G it = none ∧ s.heap.objs.size ≤ it ∧ G2 = upd G it (TitO q it)) hr I.env0 bd (.cons rfl .nil) rfl (fun _ => by
      obtain ⟨t, ht, hread⟩ := T.body X.prog X.w X.mg X.base X.A X.stack s G (fun _ _ _ => False) cdv hm
      exact ⟨t, ht, hread a dx q us xs (fun v G2 => ∃ it, v = .ref it ∧ G it = none ∧ s.heap.objs.size ≤ it ∧ G2 = upd G it (TitO q it)) ha hf hq fun it n1 n2 => ⟨it, rfl, n1, n2, rfl⟩⟩)
  refine wpAny_call (codeAny_mono run fun fin s2 z => ?_)
  cases fin with
  | error er => exact passAt (W := W0) takes0 σ pins _ _ er s2 I z
  | ok fl =>
    cases fl with
    | next => exact z.elim
    | brk => exact z.elim
    | cont => exact z.elim
    | ret u =>
      obtain ⟨v, G2, I2, rv, it, rfl, hn, hy, rfl⟩ := I.after z
      obtain rfl : u = Value.ref it := rv
      have got : s2.heap.get? it = some (titObj q) := (I2.hok it _ upd_same).1
      have ti : s2.heap.IsTupleIter it q 0 := ⟨_, got, rfl, rfl⟩
      unfold PySem.W.OwitIt
      refine wpAny_specialOf ti.typeIs F.slot_tuple_iterator_next.lookup ?_
      have I3 := ItX.inv_drop I2 upd_same
      have fp := ItX.inv_fp I2 upd_same (Nat.le_trans I.sz hy)
      have e : ItX.dropH (upd G it (TitO q it)) it = G := ItX.dropH_upd hn
      rw [e] at I3 fp
      exact ⟨it, [it], _, _, G, rfl, I3, turn_tuple q it, ti, fun b hb => by rw [List.mem_singleton.mp hb]; exact fp, h⟩
def iOwn (K : PySem.W.Frag) (C : Addr) (fld : Str) (tl : TE) : TI := fun σ G R => tl σ G fun x G1 => ∃ a dx us q xs, x = .ref a ∧ G1 a = some (.ins C dx us) ∧ us.lookup fld = some (.ref q) ∧ SqT K G1 q xs ∧ R (Itt K q) G1
theorem pi_own {tg l : Expr} {tl : TE} (T : IterOf X.K C f qual fld st fd) (hm : X.mg "iter" = none) {k : Nat} (hr : Room (k + 2) X.A) (hl : PE X l tl) : PI X tg l (iOwn X.K C fld tl) :=
  ⟨fun pins s σ G R I h => thn (hl.run pins s σ G _ I h) fun v s1 ⟨x, G1, I1, rx, a, dx, us, q, xs, ex, ha, hf, hq, hR⟩ => by
    subst ex
    obtain rfl : v = Value.ref a := rx
    exact iter_run T hm hr I1 ha hf hq hR⟩
end
/-! ### in data -/
/-- o an instance of C whose field fld is a tuple -/
def ownI (C : Addr) (fld : Str) (t : TD) : TDI := fun δ Q E => t δ (fun o δ1 => ∃ fs xs, o.toD = .obj C fs ∧ fs.lookup fld = some (.tup xs) ∧ Q xs δ1) E
section
variable {X : Cx} {c : Fc} {W : WX} {C f : Addr} {qual fld : Str} {st : Stmt} {fd : FuncData}
theorem pid_own {tg l : Expr} {t : TD} (T : IterOf X.K C f qual fld st fd) (hm : X.mg "iter" = none) {k : Nat} (hr : Room (k + 2) X.A) (he : PE X l (LE X.K c W t)) : PI X tg l (LI X.K c W (ownI C fld t)) :=
  PI_imp (pi_own (tg := tg) T hm hr he) fun σ H R ⟨δ, tmp, Qd, Ed, S, q, k, w⟩ => ⟨δ, tmp, _, _, S, q, fun v x δ' H' ⟨fs, xs, e, el, q'⟩ ⟨F, ow, S'⟩ => by
    obtain ⟨F2, S2, _⟩ := S'.top_frz
    rw [e] at S2
    have r0 := S2.top
    cases r0 with
    | @obj a _ dx us _ s1 h =>
      obtain ⟨u, e1, ru⟩ := (RepF.lookup h).2 _ el
      have S3 := S2.pop.push ru
      cases ru with
      | @tup p vs _ s2 r2 => exact ⟨a, dx, us, p, vs, rfl, S2.fh _ _ s1, e1, SqT.of (S2.fh _ _ s2), k _ _ _ xs _ _ q' serve_tup ⟨F2, ow, S3⟩⟩, w⟩
end
end DL
namespace DR
open PySem PySem.Spec PyProof.Rows L2 DL
theorem owni {C : Addr} {fld : Str} {t : TD} {δ : DSt} {Q : List DL.D → DSt → Prop} {E : XD} (h : t δ (fun o δ1 => ∃ fs xs, o.toD = .obj C fs ∧ fs.lookup fld = some (.tup xs) ∧ Q xs δ1) E) : ownI C fld t δ Q E := h
end DR

set_option Elab.async false
set_option linter.all false
set_option maxRecDepth 100000
/-! defs as their callers know them -/
namespace DL
open PySem PySem.Spec PyProof.Rows L2
section
variable (P : Program) (w : World) (K : PySem.W.Frag) (mg : Str → Option Value) (base : Heap)
/-- by values alone -/
structure DefR (x : Str) (k : Nat) (sd : SpD) where
  f : Addr
  ok : FnR P w K mg base (L2.CX P w) k f (spOf K sd)
  mg : mg x = some (.ref f)
  kp : PySem.W.keepIn K (.ref f) = true
/-- an operator of the class C -/
structure DefB (C : Addr) (op : Operator) (k : Nat) (ps : List Str) (sd : SpD) where
  f : Addr
  fd : FuncData
  ok : FnOk P w K mg base (L2.CX P w) k f fd ps (spOf K sd)
  b : Binds K fd ps []
  bo : BinOf K C op f
/-- == -/
structure DefE (C : Addr) (k : Nat) (ps : List Str) (sd : SpD) where
  f : Addr
  fd : FuncData
  ok : FnOk P w K mg base (L2.CX P w) k f fd ps (spOf K sd)
  b : Binds K fd ps []
  at_ : PySem.W.findIn K (.ref C) "__eq__" = some (some (.ref f))
  fn : PySem.W.isFn K (.ref f) = true
  ne : NeOf K C f
/-- x[y] -/
structure DefG (C : Addr) (k : Nat) (ps : List Str) (sd : SpD) where
  f : Addr
  fd : FuncData
  ok : FnOk P w K mg base (L2.CX P w) k f fd ps (spOf K sd)
  b : Binds K fd ps []
  gi : GetI K C f
/-- a property -/
structure DefP (C : Addr) (x : Str) (k : Nat) (ps : List Str) (sd : SpD) where
  p : Addr
  f : Addr
  fd : FuncData
  ok : FnOk P w K mg base (L2.CX P w) k f fd ps (spOf K sd)
  b : Binds K fd ps []
  po : PropOf K C x p f
/-- a method -/
structure DefM (C : Addr) (x : Str) (k : Nat) (ps : List Str) (sd : SpD) where
  f : Addr
  fd : FuncData
  ok : FnOk P w K mg base (L2.CX P w) k f fd ps (spOf K sd)
  b : Binds K fd ps []
  me : Meth K C x f
/-- a classmethod -/
structure DefC (C : Addr) (mc : Value) (x : Str) (k : Nat) (sd : SpD) where
  p : Addr
  f : Addr
  ok : FnR P w K mg base (L2.CX P w) k f (spOf K sd)
  cm : ClX.CMet K C mc x p f
/-- a class whose __init__ has n parameters (self among them) and keyword-only ones ks, with the defaults dv -/
structure DefK (C : Addr) (k n : Nat) (ps ks : List Str) (dv : List V) (sd : SpD) where
  f : Addr
  fd : FuncData
  g0 : List Value → List Value → List Value
  g1 : List Value → List Value → List Value
  mkc : Mk K C f
  ok : FnOk P w K mg base (L2.CX P w) k f fd ps (spOf K sd)
  kb0 : KBn K fd ps n [] g0 (fun vs zs => vs ++ zs ++ dv)
  kb1 : KBn K fd ps n ks g1 (fun vs zs => vs ++ zs ++ [])
end
end DL

set_option Elab.async false
set_option linter.all false
set_option maxRecDepth 100000
/-! enumerate over a tuple -/
namespace EnT
open PySem
open PySem.Sem (wp)
section
variable {prog : Program} {w : World} {A : Around} {E : Value → Shared → Prop} {s : Shared} {e it l : Addr} {i : Nat} {items : Array Value} {x old : Value}
/-- a heap behind others that changed at one place each -/
theorem at_ext {h h2 : Heap} (z : h.IsTupleIter it l i) (k : ∀ o, h.get? it = some o → h2.get? it = some o) : h2.IsTupleIter it l i := let ⟨o, a, r⟩ := z; ⟨o, k o a, r⟩
theorem next_item {Q : Value → Shared → Prop} (he : IsEnum s.heap e it i old) (hi : s.heap.IsTupleIter it l i) (hl : s.heap.IsTuple l items) (hx : items[i]? = some x) (ne : e ≠ it)
    (hQ : ∀ h2, IsEnumOut h2 e it ((i : Int) + 1) x s.heap.objs.size → h2.IsTupleIter it l (i + 1) → h2.get? s.heap.objs.size = some { cls := .type "tuple", data := .seq #[.int i s.toks, x] } → h2.objs.size = s.heap.objs.size + 1 →
      (∀ b o, b ≠ e → b ≠ it → s.heap.get? b = some o → h2.get? b = some o) → Q (.ref s.heap.objs.size) { s with heap := h2, toks := s.toks + 1 }) :
    wpAny (model prog w) A (Builtin.«enumerate.__next__» ⟨[.ref e], []⟩) (fun fin t => ∃ v, fin = .done (.ret v) ∧ Q v t) E s := by
  obtain ⟨h0, g, d, tk, os⟩ := s
  show wpAny _ _ (field (.ref e) 2 >>= _) _ _ ⟨h0, g, d, tk, os⟩
  refine wpAny_bind (wpAny_field he rfl (x := .ref it) rfl (wpAny_bind (RZ.nextOf_tuple_item hi hl hx fun h1 hi1 sb1 => ?_)))
  have sb1 : Heap.SameBut it h0 h1 := sb1
  have he1 : IsEnum h1 e it i old := (sb1.2 e ne).trans he
  show wpAny _ _ (field (.ref e) 3 >>= _) _ _ (⟨h1, g, d, tk, os⟩ : Shared)
  refine wpAny_bind (wpAny_field he1 rfl (x := rawInt i) rfl ?_)
  show wpAny _ _ (field (.ref e) 4 >>= _) _ _ (⟨h1, g, d, tk, os⟩ : Shared)
  refine wpAny_bind (wpAny_field he1 rfl (x := .none) rfl ?_)
  show wpAny _ _ (mkInt i >>= _) _ _ (⟨h1, g, d, tk, os⟩ : Shared)
  refine wpAny_bind (wpAny_mkInt ?_)
  show wpAny _ _ (setField (.ref e) 3 (rawInt ((i : Int) + 1)) >>= _) _ _ (⟨h1, g, d, tk + 1, os⟩ : Shared)
  refine wpAny_bind (wpAny_setField_rec he1 (by simp) fun h2 he2 sb2 => ?_)
  have sb2 : Heap.SameBut e h1 h2 := sb2
  have he2 : IsEnum h2 e it ((i : Int) + 1) old := he2
  show wpAny _ _ (setField (.ref e) 4 .none >>= _) _ _ (⟨h2, g, d, tk + 1, os⟩ : Shared)
  refine wpAny_bind (wpAny_setField_rec he2 (by simp) fun h3 he3 sb3 => ?_)
  have sb3 : Heap.SameBut e h2 h3 := sb3
  have he3 : IsEnum h3 e it ((i : Int) + 1) old := he3
  show wpAny _ _ (newTuple [.int i tk, x] >>= _) _ _ (⟨h3, g, d, tk + 1, os⟩ : Shared)
  refine wpAny_bind (wpAny_newTuple ?_)
  have sz : h3.objs.size = h0.objs.size := by rw [sb3.1, sb2.1, sb1.1]
  have lt : e < h0.objs.size := Heap.lt_size he
  -- the heap with the new pair
  have he4 : IsEnum (h3.push { cls := .type "tuple", data := .seq #[.int i tk, x] }) e it ((i : Int) + 1) old := Heap.get?_push_of_some _ he3
  have hi4 : (h3.push { cls := .type "tuple", data := .seq #[.int i tk, x] }).IsTupleIter it l (i + 1) := at_ext hi1 fun o q => Heap.get?_push_of_some _ ((sb3.2 it ne.symm).trans ((sb2.2 it ne.symm).trans q))
  have new4 : (h3.push { cls := .type "tuple", data := .seq #[.int i tk, x] }).get? h0.objs.size = some { cls := .type "tuple", data := .seq #[.int i tk, x] } := by rw [← sz]; exact Heap.get?_push_size _ rfl
  have sz4 : (h3.push { cls := .type "tuple", data := .seq #[.int i tk, x] }).objs.size = h0.objs.size + 1 := by rw [Heap.size_push, sz]
  have kp4 : ∀ b o, b ≠ e → b ≠ it → h0.get? b = some o → (h3.push { cls := .type "tuple", data := .seq #[.int i tk, x] }).get? b = some o := fun b o n1 n2 q => Heap.get?_push_of_some _ ((sb3.2 b n1).trans ((sb2.2 b n1).trans ((sb1.2 b n2).trans q)))
  rw [sz]
  generalize h3.push { cls := .type "tuple", data := .seq #[.int i tk, x] } = h4 at *
  show wpAny _ _ (Builtin.SmallTypes.ownedTupleIsFree (.ref e) >>= _) _ _ (⟨h4, g, d, tk + 1, os⟩ : Shared)
  refine wpAny_bind ?_
  unfold Builtin.SmallTypes.ownedTupleIsFree
  refine wpAny_bind (wpAny_field he4 rfl (x := .none) rfl (wpAny_pure ?_))
  simp only [if_true]
  refine wpAny_bind (wpAny_rule (wpAny_bind (wpAny_field he4 rfl (x := old) rfl (wpAny_bind (wpAny_setField_rec he4 (by simp) fun h5 he5 sb5 => ?_)))))
  have sb5 : Heap.SameBut e h4 h5 := sb5
  have he5 : IsEnum h5 e it ((i : Int) + 1) x := he5
  show wpAny _ _ (Builtin.SmallTypes.ownedTupleHandOut (.ref e) (.ref h0.objs.size) >>= _) _ _ (⟨h5, g, d, tk + 1, os⟩ : Shared)
  refine wpAny_bind ?_
  unfold Builtin.SmallTypes.ownedTupleHandOut
  refine wpAny_bind (wpAny_setField_rec he5 (by simp) fun h6 he6 sb6 => ?_)
  have sb6 : Heap.SameBut e h5 h6 := sb6
  have he6 : IsEnumOut h6 e it ((i : Int) + 1) x h0.objs.size := he6
  refine wpAny_setField_rec he6 (by simp) fun h7 he7 sb7 => ?_
  have sb7 : Heap.SameBut e h6 h7 := sb7
  have he7 : IsEnumOut h7 e it ((i : Int) + 1) x h0.objs.size := he7
  have up : ∀ b o, b ≠ e → h4.get? b = some o → h7.get? b = some o := fun b o n q => (sb7.2 b n).trans ((sb6.2 b n).trans ((sb5.2 b n).trans q))
  exact wpAny_bind (wpAny_letGo (wpAny_pure ⟨_, rfl, hQ h7 he7 (at_ext hi4 fun o q => up it o ne.symm q) (up _ _ (Nat.ne_of_gt lt) new4) (by rw [sb7.1, sb6.1, sb5.1, sz4]) fun b o n1 n2 q => up b o n1 (kp4 b o n1 n2 q)⟩))
theorem pyNext_item {Q : Option Value → Shared → Prop} (he : IsEnum s.heap e it i old) (hi : s.heap.IsTupleIter it l i) (hl : s.heap.IsTuple l items) (hx : items[i]? = some x) (ne : e ≠ it)
    (hQ : ∀ h2, IsEnumOut h2 e it ((i : Int) + 1) x s.heap.objs.size → h2.IsTupleIter it l (i + 1) → h2.get? s.heap.objs.size = some { cls := .type "tuple", data := .seq #[.int i s.toks, x] } → h2.objs.size = s.heap.objs.size + 1 →
      (∀ b o, b ≠ e → b ≠ it → s.heap.get? b = some o → h2.get? b = some o) → Q (some (.ref s.heap.objs.size)) { s with heap := h2, toks := s.toks + 1 }) : wpAny (model prog w) A (pyNext (.ref e)) Q E s := by
  have ty : s.TypeIs (.ref e) "enumerate" := ⟨_, he, rfl⟩
  unfold pyNext
  refine wpAny_bind (wpAny_attempt (wpAny_callSpecial?_slot (name := Str.ofString "__next__") ty F.slot_enumerate_next (wpAny_call_entry F.slot_enumerate_next ty F.entry_enumerate_next ?_ (F.args_enumerate_next_1 _))))
  exact next_item he hi hl hx ne fun h2 a b c d k => wpAny_pure (hQ h2 a b c d k)
theorem pyNext_end {Q : Option Value → Shared → Prop} (hh : A.handled = none) (he : IsEnum s.heap e it i old) (hi : s.heap.IsTupleIter it l i) (hl : s.heap.IsTuple l items) (hx : items[i]? = none)
    (hQ : ∀ h2, Heap.ExtBut it s.heap h2 → Q none { s with heap := h2 }) : wpAny (model prog w) A (pyNext (.ref e)) Q E s := by
  have ty : s.TypeIs (.ref e) "enumerate" := ⟨_, he, rfl⟩
  unfold pyNext
  refine wpAny_bind (wpAny_attempt (wpAny_callSpecial?_slot (name := Str.ofString "__next__") ty F.slot_enumerate_next (wpAny_call_entry F.slot_enumerate_next ty F.entry_enumerate_next ?_ (F.args_enumerate_next_1 _))))
  show wpAny _ _ (field (.ref e) 2 >>= _) _ _ s
  refine wpAny_bind (wpAny_field he rfl (x := .ref it) rfl (wpAny_bind (RZ.nextOf_tuple_end hh hi hl hx fun h2 c sb ⟨o, ho, hc⟩ => ?_)))
  exact wpAny_bind (wpAny_isInstance (T := "StopIteration") (b := true) ⟨o, ho, hc⟩ isSubtype_stop (wpAny_pure (hQ _ sb)))
end
end EnT

set_option Elab.async false
set_option linter.all false
set_option maxRecDepth 100000
namespace EnT
open PySem
open PySem.Sem (wp)
open AutoSeq1 (wpAny_loadPart')
abbrev titer (l : Addr) : Obj := { cls := .type "tuple_iterator", data := .fields #[.ref l, .int 0 0] }
abbrev enumO (it : Addr) : Obj := { cls := .type "enumerate", data := .fields #[.none, .bool false, .ref it, rawInt 0, .none, .none] }
set_option maxHeartbeats 1000000 in
theorem meets_new (l : Addr) (items : Array Value) (n : Nat) (dct : Option Addr) (sl : Array (Option Value)) :
    Meets (Builtin.«enumerate.__new__» ⟨[.type "enumerate", .ref l], []⟩) (fun _ R s => s.heap.get? l = some { cls := .type "tuple", dict := dct, data := .seq items n, slots := sl } ∧
      R (.ok (.ret (.ref (s.heap.push (titer l)).objs.size))) { s with heap := (s.heap.push (titer l)).push (enumO s.heap.objs.size) }) :=
  .of_wp fun prog w A R s z => by
    obtain ⟨hp, g, d, tk, os⟩ := s
    obtain ⟨hl, z⟩ := z
    have hsub := sub_enumerate
    have hT : Heap.IsTuple (Shared.heap ⟨hp, g, d, tk, os⟩) l items := ⟨_, hl, rfl, n, rfl⟩
    wp_walk using wpAny_loadPart' hl
    refine wpAny_stack_any fun st => wpAny_pure ?_
    split
    · rename_i c _ _ _ _ _
      cases (c == Value.type "enumerate") <;> (wp_walk using wpAny_loadPart' hl, wpAny_pyIter_tuple hT; exact ⟨_, rfl, z⟩)
    · wp_walk using wpAny_loadPart' hl, wpAny_pyIter_tuple hT
      exact ⟨_, rfl, z⟩
theorem call_new {prog : Program} {w : World} {A : Around} {E : Value → Shared → Prop} {s : Shared} {l : Addr} {items : Array Value} {Q : Value → Shared → Prop} (hT : s.heap.IsTuple l items)
    (h : ∀ h2, IsEnum h2 (s.heap.objs.size + 1) s.heap.objs.size 0 .none → h2.IsTupleIter s.heap.objs.size l 0 → (∀ b o, s.heap.get? b = some o → h2.get? b = some o) → Q (.ref (s.heap.objs.size + 1)) { s with heap := h2 }) :
    wpAny (model prog w) A (call (.type "enumerate") [.ref l]) Q E s := by
  obtain ⟨⟨c, dct, dt, sl⟩, hl, hc, n, hd⟩ := hT
  obtain rfl : c = .type "tuple" := hc
  obtain rfl : dt = .seq items n := hd
  refine callType_new F.called_enumerate (by decide) (F.typeCall_enumerate_1 _) (F.newCall_enumerate_1 _) (fun obj => F.args_object_init_2 obj _) F.entry_enumerate_new (meets_new l items n dct sl) ⟨hl, ?_⟩
  have sz : (s.heap.push (titer l)).objs.size = s.heap.objs.size + 1 := Heap.size_push ..
  show _ ∧ _
  rw [sz]
  have he : IsEnum ((s.heap.push (titer l)).push (enumO s.heap.objs.size)) (s.heap.objs.size + 1) s.heap.objs.size 0 .none := by
    have q := Heap.get?_push_size (s.heap.push (titer l)) (o := enumO s.heap.objs.size) rfl
    rw [sz] at q
    exact q
  exact ⟨⟨_, he, rfl⟩, h _ he ⟨_, Heap.get?_push_of_some _ (Heap.get?_push_size _ rfl), rfl, rfl⟩ fun b o q => Heap.get?_push_of_some _ (Heap.get?_push_of_some _ q)⟩
end EnT
namespace DL
open PySem PySem.Spec PyProof.Rows L2
/-- the tuple at a, its items with their numbers -/
def IteT (K : PySem.W.Frag) (a : Addr) : It where
  go := fun i G => ∃ (xs : List V) (x : V), SqT K G a xs ∧ xs[i]? = some x
  yld := fun i G v G2 => ∃ T x, v = .ref T ∧ G T = none ∧ G2 = upd G T (.tup [.int (i : Nat), x]) ∧ ∀ xs, SqT K G a xs → xs[i]? = some x
  stop := fun i G => ∃ xs : List V, SqT K G a xs ∧ xs.length ≤ i
theorem turn_enumT {P : Program} {w : World} {K : PySem.W.Frag} {elts : List Expr} {kk : Nat} {tpos : Pos} (a e it : Addr) :
    Turn P w K (.Tuple elts kk tpos) (IteT K a) [e, it] e (fun i h => (∃ old, IsEnum h e it ((i : Nat) : Int) old) ∧ h.IsTupleIter it a i ∧ e ≠ it) where
  mem := by simp
  obj := fun i h ⟨⟨old, he⟩, ⟨o, ho, hc, hd⟩, _⟩ b hb => by
    have hb : b = e ∨ b = it := by simpa using hb
    rcases hb with rfl | rfl
    · exact ⟨_, he, fun v q => nomatch q⟩
    · exact ⟨o, ho, fun v q => by rw [hd] at q; cases q⟩
  keep := fun i h h2 ⟨⟨old, he⟩, hi, ne⟩ k => ⟨⟨old, k e (by simp) _ he⟩, EnT.at_ext hi fun o q => k it (by simp) o q, ne⟩
  item := by
    intro X hP hw hK hc i pins s σ G E I hf ⟨⟨old, he⟩, hit, ne⟩ ⟨xs, x, hq, hx⟩
    subst hP hw hK
    obtain ⟨its, rv, p, hz⟩ := I.tuple hq
    obtain ⟨u, hu, ru⟩ := rv.get hx
    have le : e < s.heap.objs.size := Heap.lt_size he
    have li : it < s.heap.objs.size := by obtain ⟨_, q, _⟩ := hit; exact Heap.lt_size q
    refine EnT.pyNext_item he hit (items := its.toArray) p (x := u) (by simpa using hu) ne fun h2 ho hi2 hT sz hk => ⟨_, rfl, wpAny_letOwnedTupleGo_enum (s := { s with heap := h2, toks := s.toks + 1 }) ho fun h3 he3 sb => ?_⟩
    have hT3 : h3.get? s.heap.objs.size = some { cls := .type "tuple", data := .seq #[.int i s.toks, u] } := (sb.2 _ (Nat.ne_of_gt le)).trans hT
    have new : ObjOk X.prog X.w (upd G s.heap.objs.size (.tup [.int (i : Nat), x])) h3 s.heap.objs.size (.tup [.int (i : Nat), x]) := ⟨by show 2 ≤ sizeLine; decide, [.int i s.toks, u], .cons ⟨_, rfl⟩ (.cons ru .nil), ⟨_, hT3, rfl, _, rfl⟩⟩
    have J : Inv X pins σ (upd G s.heap.objs.size (.tup [.int (i : Nat), x])) { s with heap := h3, toks := s.toks + 1 } :=
      I.turnedNew (ch := [e, it]) (fun b ob hb q => (sb.2 b (fun z => hb (by simp [z]))).trans (hk b ob (fun z => hb (by simp [z])) (fun z => hb (by simp [z])) q)) hf (Nat.le_refl _) new
    refine ⟨.ref s.heap.objs.size, _, J, rfl, ⟨_, x, rfl, I.hok.fresh (Nat.le_refl _), rfl, fun ys hy => by rw [I.tuple_inj hy hq]; exact hx⟩, ⟨⟨u, ?_⟩, EnT.at_ext hi2 fun o q => (sb.2 it ne.symm).trans q, ne⟩, fun b hb => ?_⟩
    · rw [show ((i + 1 : Nat) : Int) = (i : Int) + 1 by omega]
      exact he3
    · have hb2 : b = e ∨ b = it := by simpa using hb
      have lb : b < s.heap.objs.size := by rcases hb2 with rfl | rfl <;> assumption
      rw [upd_ne (Nat.ne_of_lt lb)]
      exact (hf b hb).1
  done := by
    intro X hP hw hK hc i pins s σ G E I hf ⟨⟨old, he⟩, hit, ne⟩ ⟨xs, hq, hx⟩
    subst hP hw hK
    obtain ⟨its, rv, p, hz⟩ := I.tuple hq
    obtain ⟨f0, f1, f2, f3, f4, f5⟩ := hf it (by simp)
    have hl := rv.length
    exact EnT.pyNext_end (I.ok.hd hc) he hit (items := its.toArray) p (by simp; omega) fun h2 eb => ⟨rfl, I.turned (t' := s.toks) (fun b o hb q => eb b o hb q) f0 f1 f3 f4 f5⟩
  self := fun A i s Q E ⟨⟨_, he⟩, _⟩ h => wpAny_pyIter_enum he h
def iEnumT (K : PySem.W.Frag) (ta : TA) : TI := fun σ G R => ta σ G fun vs G1 => ∃ a xs, vs = [.ref a] ∧ SqT K G1 a xs ∧ R (IteT K a) G1
section
variable {X : Cx} {c : Fc} {W : WX}
theorem pi_enumT {e : Expr} {ta : TA} {p pos tpos : Pos} {elts : List Expr} {kk : Nat} (hg : Gl X "enumerate") (hm : X.mg "enumerate" = none) (ha : PA X [e] ta) (hs : starEach [e] X.env = [(false, eval e X.env)] := by rfl) :
    PI X (.Tuple elts kk tpos) (.Call (.Name "enumerate" p) [e] [] pos) (iEnumT X.K ta) := by
  refine ⟨fun pins s σ G R I h => Call_ (ld_blt I hg hm boot_enumerate (PyProof.Rows.callWith_type1 (thn (ha.run pos pins s σ G _ I h) fun us s1 ⟨vs, G1, I1, r1, a, xs, ex, hq, q⟩ => ?_) hs rfl))⟩
  subst ex
  obtain ⟨u, rfl, ru⟩ := r1.one
  obtain rfl : u = Value.ref a := ru
  obtain ⟨its, rv, p', hz⟩ := I1.tuple hq
  refine EnT.call_new (items := its.toArray) p' fun h2 he hit hk => wpAny_pyIter_enum he ?_
  refine ⟨s1.heap.objs.size + 1, [s1.heap.objs.size + 1, s1.heap.objs.size], _, _, G1, rfl, I1.kept (t' := s1.toks) hk, turn_enumT a (s1.heap.objs.size + 1) s1.heap.objs.size, ⟨⟨.none, he⟩, hit, Nat.succ_ne_self _⟩, fun b hb => ?_, q⟩
  have hb2 : b = s1.heap.objs.size + 1 ∨ b = s1.heap.objs.size := by simpa using hb
  have le : s1.heap.objs.size ≤ b := by
    rcases hb2 with z | z
    · rw [z]; exact Nat.le_succ _
    · rw [z]; exact Nat.le_refl _
  exact I1.fpOk le (I1.hok.fresh le)
theorem serve_enumT {K : PySem.W.Frag} {p : Addr} {items : List D} : Serve K (IteT K p) (.ref p) (.tup items) (enumL items) := by
  have sq : ∀ {F H : Hp}, Same F H → Rep K F (.ref p) (.tup items) → ∃ vs, SqT K H p vs ∧ RepL K F vs items := fun {F H} s r => by
    cases r with | tup s1 r1 => exact ⟨_, SqT.of (s _ _ s1), r1⟩
  have hl : (enumL items).length = items.length := by simp [enumL]
  refine ⟨fun i F H s r hi => ?_, fun i F H s r hi => ?_, fun i F H x H' s r y d hd => ?_⟩
  · obtain ⟨vs, h, rl⟩ := sq s r
    rw [hl] at hi
    obtain ⟨v, e, _⟩ := rl.get (List.getElem?_eq_getElem hi)
    exact ⟨vs, v, h, e⟩
  · obtain ⟨vs, h, rl⟩ := sq s r
    exact ⟨vs, h, by rw [rl.len, ← hl]; exact hi⟩
  · obtain ⟨vs, h, rl⟩ := sq s r
    obtain ⟨T, z, rfl, nT, rfl, y⟩ := y
    have hi : i < items.length := by rw [← hl]; exact set_lt hd
    obtain ⟨v, e, rv⟩ := rl.get (List.getElem?_eq_getElem hi)
    rw [y vs h] at e
    cases e
    have : d = .tup [.int (i : Nat), items[i]] := by
      unfold enumL at hd
      rw [List.getElem?_map, List.getElem?_zipIdx, List.getElem?_eq_getElem hi] at hd
      simpa using hd.symm
    subst this
    exact ⟨_, Ext.new s nT, .tup upd_same (.cons (.int _) (.cons (rv.mono (same_upd (Same.refl F) (s.free nT))) .nil))⟩
def enumTI (ta : TDA) : TDI := fun δ Q E => ta δ (fun as δ1 => ∃ xs, as = [.d (.tup xs)] ∧ Q (enumL xs) δ1) E
theorem pid_enumT {e : Expr} {ta : TDA} {p pos tpos : Pos} {elts : List Expr} {kk : Nat} (hg : Gl X "enumerate") (hm : X.mg "enumerate" = none) (ha : PA X [e] (LA X.K c W ta)) (hs : starEach [e] X.env = [(false, eval e X.env)] := by rfl) : PI X (.Tuple elts kk tpos) (.Call (.Name "enumerate" p) [e] [] pos) (LI X.K c W (enumTI ta)) :=
  PI_imp (pi_enumT hg hm ha hs) fun σ H R ⟨δ, tmp, Qd, Ed, S, q, k, w⟩ => ⟨δ, tmp, _, _, S, q, fun vs as δ' F ow H' ⟨xs, e, q'⟩ S' ra => by
    subst e
    cases ra with
    | d h t =>
      cases t
      have h0 := h
      cases h with | tup s1 r1 => exact ⟨_, _, rfl, SqT.of (S'.fh _ _ s1), k _ _ _ _ _ _ q' serve_enumT ⟨F, ow, S'.push h0⟩⟩, w⟩
end
/-- one way or the other -/
def orI (t u : TDI) : TDI := fun δ Q E => t δ Q E ∨ u δ Q E
theorem PI.or {X : Cx} {c : Fc} {W : WX} {tg e : Expr} {t u : TDI} (h1 : PI X tg e (LI X.K c W t)) (h2 : PI X tg e (LI X.K c W u)) : PI X tg e (LI X.K c W (orI t u)) :=
  ⟨fun pins s σ H R I ⟨δ, tmp, Qd, Ed, S, q, k, w⟩ => q.elim (fun q => h1.run pins s σ H R I ⟨δ, tmp, Qd, Ed, S, q, k, w⟩) fun q => h2.run pins s σ H R I ⟨δ, tmp, Qd, Ed, S, q, k, w⟩⟩
end DL
namespace DR
open PySem PySem.Spec PyProof.Rows L2 DL
theorem orl {t u : TDI} {δ : DSt} {E : XD} {Q : List DL.D → DSt → Prop} (h : t δ Q E) : orI t u δ Q E := .inl h
theorem orr {t u : TDI} {δ : DSt} {E : XD} {Q : List DL.D → DSt → Prop} (h : u δ Q E) : orI t u δ Q E := .inr h
theorem enumti {δ : DSt} {E : XD} {Q : List DL.D → DSt → Prop} {ta : TDA} (h : ta δ (fun as δ1 => ∃ xs, as = [.d (.tup xs)] ∧ Q (enumL xs) δ1) E) : enumTI ta δ Q E := h
end DR

set_option Elab.async false
set_option linter.all false
set_option maxRecDepth 100000
/-! zip of three lists -/
namespace Z3
open PySem
open PySem.Sem (wp)
abbrev Tri (h : Heap) (T : Addr) (a b c : Value) : Prop := h.get? T = some { cls := .type "tuple", data := .seq #[a, b, c] }
section
variable {prog : Program} {w : World} {A : Around} {E : Value → Shared → Prop} {s : Shared}
theorem put {T : Addr} {a b c x : Value} {k : Nat} {Q : Unit → Shared → Prop} (hT : Tri s.heap T a b c) (h : ∀ h2, h2.get? T = some { cls := .type "tuple", data := .seq ((#[a, b, c] : Array Value).setIfInBounds k x) } → Heap.SameBut T s.heap h2 → Q () { s with heap := h2 }) :
    wpAny (model prog w) A (updateSeq T (·.setIfInBounds k x)) Q E s := by
  refine wpAny_updateSeq hT rfl (h _ ?_ (Heap.SameBut.update ..))
  rw [Heap.get?_update_self _ hT rfl]
  simp [Obj.mapSeq]
theorem keepI {h h2 : Heap} {it l : Addr} {i : Nat} (z : h.IsListIter it l i) (k : ∀ o, h.get? it = some o → h2.get? it = some o) : h2.IsListIter it l i := let ⟨o, a, r⟩ := z; ⟨o, k o a, r⟩
theorem keepL {h h2 : Heap} {l : Addr} {xs : Array Value} (z : h.IsList l xs) (k : ∀ o, h.get? l = some o → h2.get? l = some o) : h2.IsList l xs := let ⟨o, a, r⟩ := z; ⟨o, k o a, r⟩
variable {n l1 l2 l3 : Nat} {i : Nat} {xs ys zs : Array Value} {x y z a b c : Value}
theorem next_item {Q : Value → Shared → Prop} (g1 : l1 < n) (g2 : l2 < n) (g3 : l3 < n) (hz : IsZip s.heap (n + 5) (n + 3) (n + 4) .none) (hI : Tri s.heap (n + 3) (.ref n) (.ref (n + 1)) (.ref (n + 2))) (hO : Tri s.heap (n + 4) a b c)
    (h1 : s.heap.IsListIter n l1 i) (h2 : s.heap.IsListIter (n + 1) l2 i) (h3 : s.heap.IsListIter (n + 2) l3 i) (q1 : s.heap.IsList l1 xs) (q2 : s.heap.IsList l2 ys) (q3 : s.heap.IsList l3 zs) (e1 : xs[i]? = some x) (e2 : ys[i]? = some y) (e3 : zs[i]? = some z)
    (hQ : ∀ k, IsZip k (n + 5) (n + 3) (n + 4) (rawInt s.heap.objs.size) → Tri k (n + 4) x y z → k.IsListIter n l1 (i + 1) → k.IsListIter (n + 1) l2 (i + 1) → k.IsListIter (n + 2) l3 (i + 1) → Tri k s.heap.objs.size x y z → k.objs.size = s.heap.objs.size + 1 →
      (∀ d o, d ≠ n + 5 → d ≠ n + 4 → d ≠ n → d ≠ n + 1 → d ≠ n + 2 → s.heap.get? d = some o → k.get? d = some o) → Q (.ref s.heap.objs.size) { s with heap := k }) :
    wpAny (model prog w) A (Builtin.«zip.__next__» ⟨[.ref (n + 5)], []⟩) (fun fin t => ∃ v, fin = .done (.ret v) ∧ Q v t) E s := by
  show wpAny _ _ (field (.ref (n + 5)) 2 >>= _) _ _ s
  refine wpAny_bind (wpAny_field hz rfl (x := .bool false) rfl ?_)
  show wpAny _ _ (field (.ref (n + 5)) 3 >>= _) _ _ s
  refine wpAny_bind (wpAny_field hz rfl (x := .ref (n + 3)) rfl (wpAny_bind (wpAny_seqItems hI rfl ?_)))
  show wpAny _ _ (Builtin.SmallTypes.ownedTupleIsFree (.ref (n + 5)) >>= _) _ _ s
  refine wpAny_bind ?_
  unfold Builtin.SmallTypes.ownedTupleIsFree
  refine wpAny_bind (wpAny_field hz rfl (x := .none) rfl (wpAny_pure ?_))
  simp only [if_true]
  refine wpAny_bind (wpAny_rule (wpAny_bind (wpAny_field hz rfl (x := .ref (n + 4)) rfl (wpAny_bind (wpAny_setField_rec hz (by simp) fun k1 z1 sb1 => ?_)))))
  have z1 : IsZip k1 (n + 5) (n + 3) (n + 4) .ellipsis := z1
  refine wpAny_bind ?_
  simp only [List.zipIdx_cons, List.zipIdx_nil, List.forIn_cons, List.forIn_nil]
  -- the first
  refine wpAny_bind (wpAny_bind (wpAny_onRaise ?_))
  show wpAny _ _ (Builtin.SmallTypes.nextOf (.ref n) >>= _) _ _ _
  refine wpAny_bind (wpAny_nextOf_list_item (keepI h1 fun o q => (sb1.2 n (by change @Ne Nat _ _; omega)).trans q) (keepL q1 fun o q => (sb1.2 l1 (by change @Ne Nat _ _; omega)).trans q) e1 fun k2 i1 sb2 => wpAny_pure ?_)
  have O2 : Tri k2 (n + 4) a b c := (sb2.2 (n + 4) (by change @Ne Nat _ _; omega)).trans ((sb1.2 (n + 4) (by change @Ne Nat _ _; omega)).trans hO)
  refine wpAny_bind (wpAny_seqItems O2 rfl (wpAny_bind (put O2 fun k3 O3 sb3 => wpAny_bind (wpAny_letGo (wpAny_pure ?_)))))
  have O3 : Tri k3 (n + 4) x b c := O3
  -- the second
  refine wpAny_bind (wpAny_bind (wpAny_onRaise ?_))
  show wpAny _ _ (Builtin.SmallTypes.nextOf (.ref (n + 1)) >>= _) _ _ _
  refine wpAny_bind (wpAny_nextOf_list_item (keepI h2 fun o q => (sb3.2 (n + 1) (by change @Ne Nat _ _; omega)).trans ((sb2.2 (n + 1) (by change @Ne Nat _ _; omega)).trans ((sb1.2 (n + 1) (by change @Ne Nat _ _; omega)).trans q))) (keepL q2 fun o q => (sb3.2 l2 (by change @Ne Nat _ _; omega)).trans ((sb2.2 l2 (by change @Ne Nat _ _; omega)).trans ((sb1.2 l2 (by change @Ne Nat _ _; omega)).trans q))) e2 fun k4 i2 sb4 => wpAny_pure ?_)
  have O4 : Tri k4 (n + 4) x b c := (sb4.2 (n + 4) (by change @Ne Nat _ _; omega)).trans O3
  refine wpAny_bind (wpAny_seqItems O4 rfl (wpAny_bind (put O4 fun k5 O5 sb5 => wpAny_bind (wpAny_letGo (wpAny_pure ?_)))))
  have O5 : Tri k5 (n + 4) x y c := O5
  -- the third
  refine wpAny_bind (wpAny_bind (wpAny_onRaise ?_))
  show wpAny _ _ (Builtin.SmallTypes.nextOf (.ref (n + 2)) >>= _) _ _ _
  have up5 : ∀ d o, d ≠ n + 5 → d ≠ n + 4 → d ≠ n → d ≠ n + 1 → s.heap.get? d = some o → k5.get? d = some o := fun d o d1 d2 d3 d4 q => (sb5.2 d d2).trans ((sb4.2 d d4).trans ((sb3.2 d d2).trans ((sb2.2 d d3).trans ((sb1.2 d d1).trans q))))
  refine wpAny_bind (wpAny_nextOf_list_item (keepI h3 fun o q => up5 _ o (by change @Ne Nat _ _; omega) (by change @Ne Nat _ _; omega) (by change @Ne Nat _ _; omega) (by change @Ne Nat _ _; omega) q) (keepL q3 fun o q => up5 _ o (by change @Ne Nat _ _; omega) (by change @Ne Nat _ _; omega) (by change @Ne Nat _ _; omega) (by change @Ne Nat _ _; omega) q) e3 fun k6 i3 sb6 => wpAny_pure ?_)
  have O6 : Tri k6 (n + 4) x y c := (sb6.2 (n + 4) (by change @Ne Nat _ _; omega)).trans O5
  refine wpAny_bind (wpAny_seqItems O6 rfl (wpAny_bind (put O6 fun k7 O7 sb7 => wpAny_bind (wpAny_letGo (wpAny_pure (wpAny_pure ?_))))))
  have O7 : Tri k7 (n + 4) x y z := O7
  -- the new tuple
  refine wpAny_bind (wpAny_seqItems O7 rfl (wpAny_bind (wpAny_newTuple ?_)))
  have sz : k7.objs.size = s.heap.objs.size := by rw [sb7.1, sb6.1, sb5.1, sb4.1, sb3.1, sb2.1, sb1.1]
  have up7 : ∀ d o, d ≠ n + 5 → d ≠ n + 4 → d ≠ n → d ≠ n + 1 → d ≠ n + 2 → s.heap.get? d = some o → k7.get? d = some o := fun d o d1 d2 d3 d4 d5 q => (sb7.2 d d2).trans ((sb6.2 d d5).trans (up5 d o d1 d2 d3 d4 q))
  have z7 : IsZip k7 (n + 5) (n + 3) (n + 4) .ellipsis := (sb7.2 (n + 5) (by change @Ne Nat _ _; omega)).trans ((sb6.2 (n + 5) (by change @Ne Nat _ _; omega)).trans ((sb5.2 (n + 5) (by change @Ne Nat _ _; omega)).trans ((sb4.2 (n + 5) (by change @Ne Nat _ _; omega)).trans ((sb3.2 (n + 5) (by change @Ne Nat _ _; omega)).trans ((sb2.2 (n + 5) (by change @Ne Nat _ _; omega)).trans z1)))))
  have j1 : k7.IsListIter n l1 (i + 1) := keepI i1 fun o q => (sb7.2 n (by change @Ne Nat _ _; omega)).trans ((sb6.2 n (by change @Ne Nat _ _; omega)).trans ((sb5.2 n (by change @Ne Nat _ _; omega)).trans ((sb4.2 n (by change @Ne Nat _ _; omega)).trans ((sb3.2 n (by change @Ne Nat _ _; omega)).trans q))))
  have j2 : k7.IsListIter (n + 1) l2 (i + 1) := keepI i2 fun o q => (sb7.2 (n + 1) (by change @Ne Nat _ _; omega)).trans ((sb6.2 (n + 1) (by change @Ne Nat _ _; omega)).trans ((sb5.2 (n + 1) (by change @Ne Nat _ _; omega)).trans q))
  have j3 : k7.IsListIter (n + 2) l3 (i + 1) := keepI i3 fun o q => (sb7.2 (n + 2) (by change @Ne Nat _ _; omega)).trans q
  have zl : n + 5 < k7.objs.size := Heap.lt_size z7
  show wpAny _ _ (Builtin.SmallTypes.ownedTupleHandOut (.ref (n + 5)) (.ref k7.objs.size) >>= _) _ _ _
  refine wpAny_bind ?_
  unfold Builtin.SmallTypes.ownedTupleHandOut
  have z8 : IsZip (k7.push { cls := .type "tuple", data := .seq #[x, y, z] }) (n + 5) (n + 3) (n + 4) .ellipsis := Heap.get?_push_of_some _ z7
  refine wpAny_bind (wpAny_setField_rec z8 (by simp) fun k8 z9 sb8 => ?_)
  have z9 : IsZip k8 (n + 5) (n + 3) (n + 4) (rawInt k7.objs.size) := z9
  refine wpAny_setField_rec z9 (by simp) fun k9 z10 sb9 => wpAny_pure ⟨_, rfl, ?_⟩
  have z10 : IsZip k9 (n + 5) (n + 3) (n + 4) (rawInt k7.objs.size) := z10
  have up : ∀ d o, d ≠ n + 5 → k7.get? d = some o → k9.get? d = some o := fun d o d1 q => (sb9.2 d d1).trans ((sb8.2 d d1).trans (Heap.get?_push_of_some _ q))
  have T9 : Tri k9 k7.objs.size x y z := (sb9.2 _ (Nat.ne_of_gt zl)).trans ((sb8.2 _ (Nat.ne_of_gt zl)).trans (Heap.get?_push_size _ rfl))
  have s9 : k9.objs.size = k7.objs.size + 1 := by rw [sb9.1, sb8.1, Heap.size_push]
  show Q (.ref k7.objs.size) _
  rw [sz] at z10 T9 s9 ⊢
  exact hQ k9 z10 (up _ _ (by change @Ne Nat _ _; omega) O7) (keepI j1 fun o q => up _ o (by change @Ne Nat _ _; omega) q) (keepI j2 fun o q => up _ o (by change @Ne Nat _ _; omega) q) (keepI j3 fun o q => up _ o (by change @Ne Nat _ _; omega) q) T9 s9 fun d o d1 d2 d3 d4 d5 q => up d o d1 (up7 d o d1 d2 d3 d4 d5 q)
theorem next_end {Q : Fin → Shared → Prop} (hh : A.handled = none) (g1 : l1 < n) (hz : IsZip s.heap (n + 5) (n + 3) (n + 4) .none) (hI : Tri s.heap (n + 3) (.ref n) (.ref (n + 1)) (.ref (n + 2))) (h1 : s.heap.IsListIter n l1 i) (q1 : s.heap.IsList l1 xs) (e1 : xs[i]? = none)
    (hE : ∀ k e, (∀ d o, d ≠ n + 5 → d ≠ n → s.heap.get? d = some o → k.get? d = some o) → (∃ o, k.get? e = some o ∧ o.cls = .type "StopIteration") → E (.ref e) { s with heap := k }) :
    wpAny (model prog w) A (Builtin.«zip.__next__» ⟨[.ref (n + 5)], []⟩) Q E s := by
  show wpAny _ _ (field (.ref (n + 5)) 2 >>= _) _ _ s
  refine wpAny_bind (wpAny_field hz rfl (x := .bool false) rfl ?_)
  show wpAny _ _ (field (.ref (n + 5)) 3 >>= _) _ _ s
  refine wpAny_bind (wpAny_field hz rfl (x := .ref (n + 3)) rfl (wpAny_bind (wpAny_seqItems hI rfl ?_)))
  show wpAny _ _ (Builtin.SmallTypes.ownedTupleIsFree (.ref (n + 5)) >>= _) _ _ s
  refine wpAny_bind ?_
  unfold Builtin.SmallTypes.ownedTupleIsFree
  refine wpAny_bind (wpAny_field hz rfl (x := .none) rfl (wpAny_pure ?_))
  simp only [if_true]
  refine wpAny_bind (wpAny_rule (wpAny_bind (wpAny_field hz rfl (x := .ref (n + 4)) rfl (wpAny_bind (wpAny_setField_rec hz (by simp) fun k1 z1 sb1 => ?_)))))
  have z1 : IsZip k1 (n + 5) (n + 3) (n + 4) .ellipsis := z1
  refine wpAny_bind ?_
  simp only [List.zipIdx_cons, List.zipIdx_nil, List.forIn_cons, List.forIn_nil]
  refine wpAny_bind (wpAny_bind (wpAny_onRaise ?_))
  show wpAny _ _ (Builtin.SmallTypes.nextOf (.ref n) >>= _) _ _ _
  refine wpAny_bind (wpAny_nextOf_list_end hh (keepI h1 fun o q => (sb1.2 n (by change @Ne Nat _ _; omega)).trans q) (keepL q1 fun o q => (sb1.2 l1 (by change @Ne Nat _ _; omega)).trans q) e1 fun k2 e sb2 ⟨oe, hoe, hc⟩ => ?_)
  have z2 : IsZip k2 (n + 5) (n + 3) (n + 4) .ellipsis := sb2 _ _ (by change @Ne Nat _ _; omega) z1
  have ne : e ≠ n + 5 := fun x => by subst x; rw [z2] at hoe; cases hoe; simp at hc
  exact wpAny_setField_rec z2 (by simp) fun k3 _ sb3 => hE k3 e (fun d o d1 d2 q => (sb3.2 d d1).trans (sb2 _ _ d2 ((sb1.2 d d1).trans q))) ⟨oe, (sb3.2 e ne).trans hoe, hc⟩
theorem pyNext_item {Q : Option Value → Shared → Prop} (g1 : l1 < n) (g2 : l2 < n) (g3 : l3 < n) (hz : IsZip s.heap (n + 5) (n + 3) (n + 4) .none) (hI : Tri s.heap (n + 3) (.ref n) (.ref (n + 1)) (.ref (n + 2))) (hO : Tri s.heap (n + 4) a b c)
    (h1 : s.heap.IsListIter n l1 i) (h2 : s.heap.IsListIter (n + 1) l2 i) (h3 : s.heap.IsListIter (n + 2) l3 i) (q1 : s.heap.IsList l1 xs) (q2 : s.heap.IsList l2 ys) (q3 : s.heap.IsList l3 zs) (e1 : xs[i]? = some x) (e2 : ys[i]? = some y) (e3 : zs[i]? = some z)
    (hQ : ∀ k, IsZip k (n + 5) (n + 3) (n + 4) (rawInt s.heap.objs.size) → Tri k (n + 4) x y z → k.IsListIter n l1 (i + 1) → k.IsListIter (n + 1) l2 (i + 1) → k.IsListIter (n + 2) l3 (i + 1) → Tri k s.heap.objs.size x y z → k.objs.size = s.heap.objs.size + 1 →
      (∀ d o, d ≠ n + 5 → d ≠ n + 4 → d ≠ n → d ≠ n + 1 → d ≠ n + 2 → s.heap.get? d = some o → k.get? d = some o) → Q (some (.ref s.heap.objs.size)) { s with heap := k }) : wpAny (model prog w) A (pyNext (.ref (n + 5))) Q E s := by
  have ty : s.TypeIs (.ref (n + 5)) "zip" := ⟨_, hz, rfl⟩
  unfold pyNext
  refine wpAny_bind (wpAny_attempt (wpAny_callSpecial?_slot (name := Str.ofString "__next__") ty F.slot_zip_next (wpAny_call_entry F.slot_zip_next ty F.entry_zip_next ?_ (F.args_zip_next_1 _))))
  exact next_item g1 g2 g3 hz hI hO h1 h2 h3 q1 q2 q3 e1 e2 e3 fun k a1 a2 a3 a4 a5 a6 a7 a8 => wpAny_pure (hQ k a1 a2 a3 a4 a5 a6 a7 a8)
theorem pyNext_end {Q : Option Value → Shared → Prop} (hh : A.handled = none) (g1 : l1 < n) (hz : IsZip s.heap (n + 5) (n + 3) (n + 4) .none) (hI : Tri s.heap (n + 3) (.ref n) (.ref (n + 1)) (.ref (n + 2))) (h1 : s.heap.IsListIter n l1 i) (q1 : s.heap.IsList l1 xs) (e1 : xs[i]? = none)
    (hQ : ∀ k, (∀ d o, d ≠ n + 5 → d ≠ n → s.heap.get? d = some o → k.get? d = some o) → Q none { s with heap := k }) : wpAny (model prog w) A (pyNext (.ref (n + 5))) Q E s := by
  have ty : s.TypeIs (.ref (n + 5)) "zip" := ⟨_, hz, rfl⟩
  unfold pyNext
  refine wpAny_bind (wpAny_attempt (wpAny_callSpecial?_slot (name := Str.ofString "__next__") ty F.slot_zip_next (wpAny_call_entry F.slot_zip_next ty F.entry_zip_next (next_end hh g1 hz hI h1 q1 e1 fun k e hk ⟨o, ho, hc⟩ => ?_) (F.args_zip_next_1 _))))
  exact wpAny_bind (wpAny_isInstance (T := "StopIteration") (b := true) ⟨o, ho, hc⟩ isSubtype_stop (wpAny_pure (hQ _ hk)))
end
/-! ### making one -/
abbrev lit (l : Addr) : Obj := { cls := .type "list_iterator", data := .fields #[.ref l, .int 0 0] }
abbrev K1 (h : Heap) (l1 : Addr) : Heap := h.push (lit l1)
abbrev K2 (h : Heap) (l1 l2 : Addr) : Heap := (K1 h l1).push (lit l2)
abbrev K3 (h : Heap) (l1 l2 l3 : Addr) : Heap := (K2 h l1 l2).push (lit l3)
abbrev K4 (h : Heap) (l1 l2 l3 : Addr) : Heap := (K3 h l1 l2 l3).push { cls := .type "tuple", data := .seq #[.ref h.objs.size, .ref (K1 h l1).objs.size, .ref (K2 h l1 l2).objs.size] }
abbrev K5 (h : Heap) (l1 l2 l3 : Addr) : Heap := (K4 h l1 l2 l3).push { cls := .type "tuple", data := .seq #[.none, .none, .none] }
abbrev K6 (h : Heap) (l1 l2 l3 : Addr) : Heap := (K5 h l1 l2 l3).push { cls := .type "zip", data := .fields #[.none, .bool false, .bool false, .ref (K3 h l1 l2 l3).objs.size, .ref (K4 h l1 l2 l3).objs.size] }
theorem typeCall (a b c : Value) : checkTypeCall "zip" ⟨[a, b, c], []⟩ = pure () := by kernel_rfl
theorem newCall (a b c : Value) : checkBuiltinCall "zip.__new__" ⟨[.type "zip", a, b, c], []⟩ = pure () := by kernel_rfl
theorem initArgs (a b c d : Value) : argsOk "object.__init__" ⟨[a, b, c, d], []⟩ := by
  unfold argsOk; rw [signature?_of (id := "object.__init__") (n := ['_', '_', 't', 'i', 'n', 'i', '_', '_']) (o := ['t', 'c', 'e', 'j', 'b', 'o']) (by kernel_rfl) F.owner_object]; kernel_rfl
set_option maxHeartbeats 1000000 in
theorem meets_new (l1 l2 l3 : Addr) (xs ys zs : Array Value) : Meets (Builtin.«zip.__new__» ⟨[.type "zip", .ref l1, .ref l2, .ref l3], []⟩) (fun _ R s => s.heap.IsList l1 xs ∧ s.heap.IsList l2 ys ∧ s.heap.IsList l3 zs ∧
      R (.ok (.ret (.ref (K5 s.heap l1 l2 l3).objs.size))) { s with heap := K6 s.heap l1 l2 l3 }) :=
  .of_wp fun prog w A R s h => by
    obtain ⟨hp, g, d, tk, os⟩ := s
    obtain ⟨a1, a2, a3, h⟩ := h
    have hsub := sub_zip
    have b1 : Heap.IsList (Shared.heap ⟨hp, g, d, tk, os⟩) l1 xs := a1
    have b2 : Heap.IsList (Shared.heap ⟨hp.push (lit l1), g, d, tk, os⟩) l2 ys := Heap.IsList.push a2 _
    have b3 : Heap.IsList (Shared.heap ⟨(hp.push (lit l1)).push (lit l2), g, d, tk, os⟩) l3 zs := Heap.IsList.push (Heap.IsList.push a3 _) _
    wp_walk using wpAny_pyIter_list b1, wpAny_pyIter_list b2, wpAny_pyIter_list b3
    exact ⟨_, rfl, h⟩
theorem call_new {prog : Program} {w : World} {A : Around} {E : Value → Shared → Prop} {s : Shared} {l1 l2 l3 : Addr} {xs ys zs : Array Value} {Q : Value → Shared → Prop} (a1 : s.heap.IsList l1 xs) (a2 : s.heap.IsList l2 ys) (a3 : s.heap.IsList l3 zs)
    (h : ∀ k, IsZip k (s.heap.objs.size + 5) (s.heap.objs.size + 3) (s.heap.objs.size + 4) .none → Tri k (s.heap.objs.size + 3) (.ref s.heap.objs.size) (.ref (s.heap.objs.size + 1)) (.ref (s.heap.objs.size + 2)) → Tri k (s.heap.objs.size + 4) .none .none .none →
      k.IsListIter s.heap.objs.size l1 0 → k.IsListIter (s.heap.objs.size + 1) l2 0 → k.IsListIter (s.heap.objs.size + 2) l3 0 → (∀ d o, s.heap.get? d = some o → k.get? d = some o) → Q (.ref (s.heap.objs.size + 5)) { s with heap := k }) :
    wpAny (model prog w) A (call (.type "zip") [.ref l1, .ref l2, .ref l3]) Q E s := by
  refine callType_new F.called_zip (by decide) (typeCall _ _ _) (newCall _ _ _) (fun obj => initArgs obj _ _ _) F.entry_zip_new (meets_new l1 l2 l3 xs ys zs) ⟨a1, a2, a3, ?_⟩
  have z1 : (K1 s.heap l1).objs.size = s.heap.objs.size + 1 := Heap.size_push ..
  have z2 : (K2 s.heap l1 l2).objs.size = s.heap.objs.size + 2 := by rw [Heap.size_push, z1]
  have z3 : (K3 s.heap l1 l2 l3).objs.size = s.heap.objs.size + 3 := by rw [Heap.size_push, z2]
  have z4 : (K4 s.heap l1 l2 l3).objs.size = s.heap.objs.size + 4 := by rw [Heap.size_push, z3]
  have z5 : (K5 s.heap l1 l2 l3).objs.size = s.heap.objs.size + 5 := by rw [Heap.size_push, z4]
  have at6 : (K6 s.heap l1 l2 l3).get? (K5 s.heap l1 l2 l3).objs.size = some _ := Heap.get?_push_size _ rfl
  have at5 : (K6 s.heap l1 l2 l3).get? (K4 s.heap l1 l2 l3).objs.size = some _ := Heap.get?_push_of_some _ (Heap.get?_push_size _ rfl)
  have at4 : (K6 s.heap l1 l2 l3).get? (K3 s.heap l1 l2 l3).objs.size = some _ := Heap.get?_push_of_some _ (Heap.get?_push_of_some _ (Heap.get?_push_size _ rfl))
  have up3 : ∀ d o, (K3 s.heap l1 l2 l3).get? d = some o → (K6 s.heap l1 l2 l3).get? d = some o := fun d o q => Heap.get?_push_of_some _ (Heap.get?_push_of_some _ (Heap.get?_push_of_some _ q))
  have at3 : (K6 s.heap l1 l2 l3).get? (K2 s.heap l1 l2).objs.size = some _ := up3 _ _ (Heap.get?_push_size _ rfl)
  have at2 : (K6 s.heap l1 l2 l3).get? (K1 s.heap l1).objs.size = some _ := up3 _ _ (Heap.get?_push_of_some _ (Heap.get?_push_size _ rfl))
  have at1 : (K6 s.heap l1 l2 l3).get? s.heap.objs.size = some _ := up3 _ _ (Heap.get?_push_of_some _ (Heap.get?_push_of_some _ (Heap.get?_push_size _ rfl)))
  show _ ∧ _
  rw [z3, z4, z5] at at6
  rw [z1, z2, z3] at at4
  rw [z4] at at5
  rw [z2] at at3
  rw [z1] at at2
  rw [z5]
  exact ⟨⟨_, at6, rfl⟩, h _ at6 at4 at5 ⟨_, at1, rfl, rfl⟩ ⟨_, at2, rfl, rfl⟩ ⟨_, at3, rfl, rfl⟩ fun d o q => up3 d o (Heap.get?_push_of_some _ (Heap.get?_push_of_some _ (Heap.get?_push_of_some _ q)))⟩
end Z3

set_option Elab.async false
set_option linter.all false
set_option maxRecDepth 100000
namespace DL
open PySem PySem.Spec PyProof.Rows L2
/-- the lists at a, b, c (of one length), their items in new triples -/
def Itz3 (K : PySem.W.Frag) (a b c : Addr) : It where
  go := fun i G => ∃ (xs ys zs : List V) (x y z : V), SqL K G a xs ∧ SqL K G b ys ∧ SqL K G c zs ∧ xs[i]? = some x ∧ ys[i]? = some y ∧ zs[i]? = some z
  yld := fun i G v G2 => ∃ T x y z, v = .ref T ∧ G T = none ∧ G2 = upd G T (.tup [x, y, z]) ∧ (∀ xs, SqL K G a xs → xs[i]? = some x) ∧ (∀ xs, SqL K G b xs → xs[i]? = some y) ∧ ∀ xs, SqL K G c xs → xs[i]? = some z
  stop := fun i G => ∃ xs : List V, SqL K G a xs ∧ xs.length ≤ i
theorem mem5 {n d : Nat} (h : d ∈ [n + 5, n + 3, n + 4, n, n + 1, n + 2]) : d = n + 5 ∨ d = n + 3 ∨ d = n + 4 ∨ d = n ∨ d = n + 1 ∨ d = n + 2 := by simpa using h
theorem turn_zip3 {P : Program} {w : World} {K : PySem.W.Frag} {elts : List Expr} {kk : Nat} {tpos : Pos} {n a b c : Nat} (ga : a < n) (gb : b < n) (gc : c < n) :
    Turn P w K (.Tuple elts kk tpos) (Itz3 K a b c) [n + 5, n + 3, n + 4, n, n + 1, n + 2] (n + 5) (fun i h => IsZip h (n + 5) (n + 3) (n + 4) .none ∧ Z3.Tri h (n + 3) (.ref n) (.ref (n + 1)) (.ref (n + 2)) ∧ (∃ x y z, Z3.Tri h (n + 4) x y z) ∧ h.IsListIter n a i ∧ h.IsListIter (n + 1) b i ∧ h.IsListIter (n + 2) c i) where
  mem := by simp
  obj := fun i h ⟨hz, hI, ⟨x, y, z, hO⟩, ⟨o1, e1, _, d1⟩, ⟨o2, e2, _, d2⟩, ⟨o3, e3, _, d3⟩⟩ d hd => by
    rcases mem5 hd with q | q | q | q | q | q <;> rw [q]
    · exact ⟨_, hz, fun v z => nomatch z⟩
    · exact ⟨_, hI, fun v z => nomatch z⟩
    · exact ⟨_, hO, fun v z => nomatch z⟩
    · exact ⟨o1, e1, fun v z => by rw [d1] at z; cases z⟩
    · exact ⟨o2, e2, fun v z => by rw [d2] at z; cases z⟩
    · exact ⟨o3, e3, fun v z => by rw [d3] at z; cases z⟩
  keep := fun i h h2 ⟨hz, hI, ⟨x, y, z, hO⟩, h1, h3, h4⟩ k => ⟨k _ (by simp) _ hz, k _ (by simp) _ hI, ⟨x, y, z, k _ (by simp) _ hO⟩, Z3.keepI h1 fun o q => k _ (by simp) o q, Z3.keepI h3 fun o q => k _ (by simp) o q, Z3.keepI h4 fun o q => k _ (by simp) o q⟩
  item := by
    intro X hP hw hK hc i pins s σ G E I hf ⟨hz, hI, ⟨x0, y0, z0, hO⟩, h1, h2, h3⟩ ⟨xs, ys, zs, x, y, z, qa, qb, qc, hx, hy, hzz⟩
    subst hP hw hK
    obtain ⟨its1, r1, p1, _⟩ := I.list qa
    obtain ⟨its2, r2, p2, _⟩ := I.list qb
    obtain ⟨its3, r3, p3, _⟩ := I.list qc
    obtain ⟨u1, e1, ru1⟩ := r1.get hx
    obtain ⟨u2, e2, ru2⟩ := r2.get hy
    obtain ⟨u3, e3, ru3⟩ := r3.get hzz
    have zl : n + 5 < s.heap.objs.size := Heap.lt_size hz
    refine Z3.pyNext_item ga gb gc hz hI hO h1 h2 h3 p1.isList p2.isList p3.isList (x := u1) (y := u2) (z := u3) (by simpa using e1) (by simpa using e2) (by simpa using e3) fun k z2 O2 j1 j2 j3 T2 sz hk => ⟨_, rfl, wpAny_letOwnedTupleGo_zip (s := { s with heap := k }) z2 fun k2 z3 sb => ?_⟩
    have T3 : k2.get? s.heap.objs.size = some { cls := .type "tuple", data := .seq #[u1, u2, u3] } := (sb.2 _ (Nat.ne_of_gt zl)).trans T2
    have new : ObjOk X.prog X.w (upd G s.heap.objs.size (.tup [x, y, z])) k2 s.heap.objs.size (.tup [x, y, z]) := ⟨by show 3 ≤ sizeLine; decide, [u1, u2, u3], .cons ru1 (.cons ru2 (.cons ru3 .nil)), ⟨_, T3, rfl, _, rfl⟩⟩
    have J : Inv X pins σ (upd G s.heap.objs.size (.tup [x, y, z])) { s with heap := k2 } :=
      I.turnedNew (t' := s.toks) (ch := [n + 5, n + 3, n + 4, n, n + 1, n + 2]) (fun d o hd q => (sb.2 d (fun z => hd (by simp [z]))).trans (hk d o (fun z => hd (by simp [z])) (fun z => hd (by simp [z])) (fun z => hd (by simp [z])) (fun z => hd (by simp [z])) (fun z => hd (by simp [z])) q)) hf (Nat.le_refl _) new
    have ne : ∀ {m : Nat}, m ≠ n + 5 → ∀ {o : Obj}, k.get? m = some o → k2.get? m = some o := fun {m} h {o} q => (sb.2 _ h).trans q
    refine ⟨.ref s.heap.objs.size, _, J, rfl, ⟨_, x, y, z, rfl, I.hok.fresh (Nat.le_refl _), rfl, fun l hl => by rw [I.list_inj hl qa]; exact hx, fun l hl => by rw [I.list_inj hl qb]; exact hy, fun l hl => by rw [I.list_inj hl qc]; exact hzz⟩,
      ⟨z3, ne (by omega) (hk _ _ (by change @Ne Nat _ _; omega) (by change @Ne Nat _ _; omega) (by change @Ne Nat _ _; omega) (by change @Ne Nat _ _; omega) (by change @Ne Nat _ _; omega) hI), ⟨u1, u2, u3, ne (by omega) O2⟩, Z3.keepI j1 fun o q => ne (by omega) q, Z3.keepI j2 fun o q => ne (by omega) q, Z3.keepI j3 fun o q => ne (by omega) q⟩, fun d hd => ?_⟩
    have ld : d < s.heap.objs.size := by
      show @LT.lt Nat _ _ _
      rcases mem5 hd with q | q | q | q | q | q <;> (rw [q]; omega)
    rw [upd_ne (Nat.ne_of_lt ld)]
    exact (hf d hd).1
  done := by
    intro X hP hw hK hc i pins s σ G E I hf ⟨hz, hI, ⟨x0, y0, z0, hO⟩, h1, h2, h3⟩ ⟨xs, qa, hx⟩
    subst hP hw hK
    obtain ⟨its, rv, p, _⟩ := I.list qa
    have hl := rv.length
    exact Z3.pyNext_end (I.ok.hd hc) ga hz hI h1 p.isList (by simp; omega) fun k hk => ⟨rfl, I.turnedL (t' := s.toks) (ch := [n + 5, n + 3, n + 4, n, n + 1, n + 2]) (fun d o hd q => hk d o (fun z => hd (by simp [z])) (fun z => hd (by simp [z])) q) hf⟩
  self := fun A i s Q E st h => wpAny_pyIter_zip st.1 h
def iZip3 (K : PySem.W.Frag) (ta : TA) : TI := fun σ G R => ta σ G fun vs G1 => ∃ a b c xs ys zs, vs = [.ref a, .ref b, .ref c] ∧ SqL K G1 a xs ∧ SqL K G1 b ys ∧ SqL K G1 c zs ∧ R (Itz3 K a b c) G1
section
variable {X : Cx} {c : Fc} {W : WX}
theorem pi_zip3 {e e2 e3 : Expr} {ta : TA} {p pos tpos : Pos} {elts : List Expr} {kk : Nat} (hg : Gl X "zip") (hm : X.mg "zip" = none) (ha : PA X [e, e2, e3] ta)
    (hs : starEach [e, e2, e3] X.env = (false, eval e X.env) :: starEach [e2, e3] X.env := by rfl) (hpl : (backTo pos (starEach [e2, e3] X.env)).any (·.1) = false := by rfl) :
    PI X (.Tuple elts kk tpos) (.Call (.Name "zip" p) [e, e2, e3] [] pos) (iZip3 X.K ta) := by
  refine ⟨fun pins s σ G R I h => Call_ (ld_blt I hg hm PyProof.Rows.boot_zip (PyProof.Rows.callWith_type1 (thn (ha.run pos pins s σ G _ I h) fun us s1 ⟨vs, G1, I1, r1, a, b, c, xs, ys, zs, ex, qa, qb, qc, q⟩ => ?_) hs hpl))⟩
  subst ex
  cases r1 with
  | cons ra rr =>
    cases rr with
    | cons rb rr =>
      obtain ⟨u, rfl, rc⟩ := vals1 rr
      cases ra
      cases rb
      obtain rfl : u = Value.ref c := rc
      obtain ⟨i1, _, p1, _⟩ := I1.list qa
      obtain ⟨i2, _, p2, _⟩ := I1.list qb
      obtain ⟨i3, _, p3, _⟩ := I1.list qc
      refine Z3.call_new p1.isList p2.isList p3.isList fun k hz hI hO h1 h2 h3 hk => wpAny_pyIter_zip hz ?_
      refine ⟨s1.heap.objs.size + 5, _, _, _, G1, rfl, I1.kept (t' := s1.toks) hk, turn_zip3 (n := s1.heap.objs.size) p1.lt p2.lt p3.lt, ⟨hz, hI, ⟨_, _, _, hO⟩, h1, h2, h3⟩, fun d hd => ?_, q⟩
      have le : s1.heap.objs.size ≤ d := by
        show @LE.le Nat _ _ _
        rcases mem5 hd with q | q | q | q | q | q <;> (rw [q]; omega)
      exact I1.fpOk le (I1.hok.fresh le)
def zip3L (xs ys zs : List D) : List D := (xs.zip (ys.zip zs)).map fun p => .tup [p.1, p.2.1, p.2.2]
theorem zip3_at {xs ys zs : List D} {i : Nat} {d : D} (h : (zip3L xs ys zs)[i]? = some d) : ∃ x y z, xs[i]? = some x ∧ ys[i]? = some y ∧ zs[i]? = some z ∧ d = .tup [x, y, z] := by
  unfold zip3L at h
  rw [List.getElem?_map] at h
  obtain ⟨⟨x, y, z⟩, h1, h2⟩ := Option.map_eq_some_iff.mp h
  obtain ⟨a, b⟩ := List.getElem?_zip_eq_some.mp h1
  obtain ⟨b, c⟩ := List.getElem?_zip_eq_some.mp b
  exact ⟨x, y, z, a, b, c, h2.symm⟩
theorem gho3 {K : PySem.W.Frag} {F : Hp} {v : V} {a b e : V} {x y z : D} (r : Rep K F v (.gho [a, b, e] [x, y, z])) : Rep K F a x ∧ Rep K F b y ∧ Rep K F e z := by
  cases r with
  | gho h => cases h with | cons h1 t => cases t with | cons h2 t => cases t with | cons h3 t => exact ⟨h1, h2, h3⟩
theorem serve_zip3 {K : PySem.W.Frag} {a b e : Addr} {x y z : D} {xs ys zs : List D} (ex : x = .lst xs ∨ x = .ro xs) (ey : y = .lst ys ∨ y = .ro ys) (ez : z = .lst zs ∨ z = .ro zs) (l1 : ys.length = xs.length) (l2 : zs.length = xs.length) : Serve K (Itz3 K a b e) (.int 0) (.gho [.ref a, .ref b, .ref e] [x, y, z]) (zip3L xs ys zs) := by
  have hl : (zip3L xs ys zs).length = xs.length := by simp [zip3L]; omega
  refine ⟨fun i F H s r hi => ?_, fun i F H s r hi => ?_, fun i F H v H' s r t d hd => ?_⟩
  · obtain ⟨ra, rb, re⟩ := gho3 r
    obtain ⟨us, h1, q1⟩ := row_l ex s ra
    obtain ⟨vs, h2, q2⟩ := row_l ey s rb
    obtain ⟨ws, h3, q3⟩ := row_l ez s re
    rw [hl] at hi
    obtain ⟨v1, e1, _⟩ := q1.get (List.getElem?_eq_getElem hi)
    obtain ⟨v2, e2, _⟩ := q2.get (List.getElem?_eq_getElem (by rw [l1]; exact hi))
    obtain ⟨v3, e3, _⟩ := q3.get (List.getElem?_eq_getElem (by rw [l2]; exact hi))
    exact ⟨us, vs, ws, v1, v2, v3, h1, h2, h3, e1, e2, e3⟩
  · obtain ⟨ra, rb, re⟩ := gho3 r
    obtain ⟨us, h1, q1⟩ := row_l ex s ra
    exact ⟨us, h1, by rw [q1.len, ← hl]; exact hi⟩
  · obtain ⟨ra, rb, re⟩ := gho3 r
    obtain ⟨us, h1, q1⟩ := row_l ex s ra
    obtain ⟨vs, h2, q2⟩ := row_l ey s rb
    obtain ⟨ws, h3, q3⟩ := row_l ez s re
    obtain ⟨T, x1, y1, z1, rfl, nT, rfl, k1, k2, k3⟩ := t
    obtain ⟨d1, d2, d3, g1, g2, g3, rfl⟩ := zip3_at hd
    obtain ⟨v1, e1, r1⟩ := q1.get g1
    obtain ⟨v2, e2, r2⟩ := q2.get g2
    obtain ⟨v3, e3, r3⟩ := q3.get g3
    cases e1.symm.trans (k1 us h1)
    cases e2.symm.trans (k2 vs h2)
    cases e3.symm.trans (k3 ws h3)
    have sF : Same F (upd F T (.tup [x1, y1, z1])) := same_upd (Same.refl F) (s.free nT)
    exact ⟨_, Ext.new s nT, .tup upd_same (.cons (r1.mono sF) (.cons (r2.mono sF) (.cons (r3.mono sF) .nil)))⟩
def zip3I (ta : TDA) : TDI := fun δ Q E => ta δ (fun as δ1 => ∃ x y z xs ys zs, as = [.d x, .d y, .d z] ∧ (x = .lst xs ∨ x = .ro xs) ∧ (y = .lst ys ∨ y = .ro ys) ∧ (z = .lst zs ∨ z = .ro zs) ∧ ys.length = xs.length ∧ zs.length = xs.length ∧ Q (zip3L xs ys zs) δ1) E
theorem pid_zip3 {e e2 e3 : Expr} {ta : TDA} {p pos tpos : Pos} {elts : List Expr} {kk : Nat} (hg : Gl X "zip") (hm : X.mg "zip" = none) (ha : PA X [e, e2, e3] (LA X.K c W ta))
    (hs : starEach [e, e2, e3] X.env = (false, eval e X.env) :: starEach [e2, e3] X.env := by rfl) (hpl : (backTo pos (starEach [e2, e3] X.env)).any (·.1) = false := by rfl) :
    PI X (.Tuple elts kk tpos) (.Call (.Name "zip" p) [e, e2, e3] [] pos) (LI X.K c W (zip3I ta)) :=
  PI_imp (pi_zip3 hg hm ha hs hpl) fun σ H R ⟨δ, tmp, Qd, Ed, S, q, k, w⟩ => ⟨δ, tmp, _, _, S, q, fun vs as δ' F ow H' ⟨x, y, z, xs, ys, zs, ea, ex, ey, ez, l1, l2, q'⟩ S' ra => by
    subst ea
    have rl := args_d (ds := [x, y, z]) ra
    cases rl with
    | @cons v1 _ vs1 _ r1 t =>
      cases t with
      | @cons v2 _ vs2 _ r2 t =>
        cases t with
        | @cons v3 _ vs3 _ r3 t =>
          cases t
          have one : ∀ {v : V} {x : D} {xs : List D}, (x = .lst xs ∨ x = .ro xs) → Rep X.K F v x → ∃ a us, v = .ref a ∧ SqL X.K H' a us := fun {v x xs} e r => by
            rcases e with rfl | rfl
            · cases r with | lst s1 _ => exact ⟨_, _, rfl, S'.fh.seq (SqL.of s1)⟩
            · cases r with | ro s1 _ => exact ⟨_, _, rfl, S'.fh.seq s1⟩
          obtain ⟨a, us, rfl, h1⟩ := one ex r1
          obtain ⟨b, vs, rfl, h2⟩ := one ey r2
          obtain ⟨d, ws, rfl, h3⟩ := one ez r3
          exact ⟨a, b, d, us, vs, ws, rfl, h1, h2, h3, k _ _ _ _ _ _ q' (serve_zip3 ex ey ez l1 l2) ⟨F, ow, S'.push (.gho (.cons r1 (.cons r2 (.cons r3 .nil))))⟩⟩, w⟩
end
end DL
namespace DR
open PySem PySem.Spec PyProof.Rows L2 DL
theorem zip3i {δ : DSt} {E : XD} {Q : List DL.D → DSt → Prop} {ta : TDA} (h : ta δ (fun as δ1 => ∃ x y z xs ys zs, as = [.d x, .d y, .d z] ∧ (x = .lst xs ∨ x = .ro xs) ∧ (y = .lst ys ∨ y = .ro ys) ∧ (z = .lst zs ∨ z = .ro zs) ∧ ys.length = xs.length ∧ zs.length = xs.length ∧ Q (zip3L xs ys zs) δ1) E) : zip3I ta δ Q E := h
end DR

set_option Elab.async false
set_option linter.all false
set_option maxRecDepth 100000
/-! equality of plain data -/
namespace DL
open PySem PySem.Spec PyProof.Rows L2
/-- may be compared, n deep at most -/
def Dp_ (n : Nat) (d : D) : Prop := d.isPy = true ∧ d.py.depth ≤ n
theorem Dp_.cmp {n : Nat} {d : D} (h : Dp_ n d) (l : n ≤ 64 := by decide) : Cmp d := ⟨h.1, Nat.le_trans h.2 l⟩
theorem Dp_.le {n m : Nat} {d : D} (h : Dp_ n d) (l : n ≤ m) : Dp_ m d := ⟨h.1, Nat.le_trans h.2 l⟩
theorem dp_str {x : Str} : Dp_ 1 (.str x) := ⟨rfl, by simp [D.py, PyData.depth]⟩
theorem dp_int {x : Int} : Dp_ 1 (.int x) := ⟨rfl, by simp [D.py, PyData.depth]⟩
theorem dp_bl {x : Bool} : Dp_ 1 (.bl x) := ⟨rfl, by simp [D.py, PyData.depth]⟩
theorem dp_non : Dp_ 1 .non := ⟨rfl, by simp [D.py, PyData.depth]⟩
theorem dp_all {n : Nat} : ∀ {ds : List D}, (∀ d ∈ ds, Dp_ n d) → isPyL ds = true ∧ PyData.depthAll (pyL ds) ≤ n
  | [], _ => ⟨rfl, by simp [pyL, PyData.depthAll]⟩
  | d :: ds, h => by
    obtain ⟨a, b⟩ := dp_all fun e he => h e (List.mem_cons_of_mem _ he)
    obtain ⟨c, e⟩ := h d List.mem_cons_self
    refine ⟨by simp [isPyL, a, c], ?_⟩
    simp [pyL, PyData.depthAll]
    omega
theorem dp_tup {n : Nat} {ds : List D} (h : ∀ d ∈ ds, Dp_ n d) : Dp_ (n + 1) (.tup ds) := by
  obtain ⟨a, b⟩ := dp_all h
  refine ⟨a, ?_⟩
  simp [D.py, PyData.depth]
  omega
theorem dp_lst {n : Nat} {ds : List D} (h : ∀ d ∈ ds, Dp_ n d) : Dp_ (n + 1) (.lst ds) := by
  obtain ⟨a, b⟩ := dp_all h
  refine ⟨a, ?_⟩
  simp [D.py, PyData.depth]
  omega
theorem dp_map {α : Type} {n : Nat} {r : α → D} {l : List α} (h : ∀ a ∈ l, Dp_ n (r a)) : ∀ d ∈ l.map r, Dp_ n d := fun d hd => by
  obtain ⟨a, ha, rfl⟩ := List.mem_map.mp hd
  exact h a ha
theorem eqv_str {a b : Str} : PyData.eqv (D.str a).py (D.str b).py = decide (a = b) := by
  simp only [D.py, PyData.eqv]
  by_cases h : a = b <;> simp [h]
theorem eqv_int {a b : Int} : PyData.eqv (D.int a).py (D.int b).py = decide (a = b) := by
  simp only [D.py, PyData.eqv]
  by_cases h : a = b <;> simp [h]
theorem eqv_all {α : Type} [DecidableEq α] {r : α → D} (h : ∀ a b, PyData.eqv (r a).py (r b).py = decide (a = b)) : ∀ {l k : List α}, PyData.eqvAll (pyL (l.map r)) (pyL (k.map r)) = decide (l = k)
  | [], [] => by simp [pyL, PyData.eqvAll]
  | [], _ :: _ => by simp [pyL, PyData.eqvAll]
  | _ :: _, [] => by simp [pyL, PyData.eqvAll]
  | a :: l, b :: k => by
    simp only [List.map_cons, pyL, PyData.eqvAll, h, eqv_all h]
    by_cases e : a = b <;> by_cases e2 : l = k <;> simp [e, e2]
theorem eqv_tups {α : Type} [DecidableEq α] {r : α → D} (h : ∀ a b, PyData.eqv (r a).py (r b).py = decide (a = b)) {l k : List α} : PyData.eqv (D.tup (l.map r)).py (D.tup (k.map r)).py = decide (l = k) := by
  simp only [D.py, PyData.eqv]
  exact eqv_all h
theorem eqv_lsts {α : Type} [DecidableEq α] {r : α → D} (h : ∀ a b, PyData.eqv (r a).py (r b).py = decide (a = b)) {l k : List α} : PyData.eqv (D.lst (l.map r)).py (D.lst (k.map r)).py = decide (l = k) := by
  simp only [D.py, PyData.eqv]
  exact eqv_all h
theorem eqv_pair {α β : Type} [DecidableEq α] [DecidableEq β] {r : α → D} {s : β → D} (h : ∀ a b, PyData.eqv (r a).py (r b).py = decide (a = b)) (g : ∀ a b, PyData.eqv (s a).py (s b).py = decide (a = b)) (p q : α × β) :
    PyData.eqv (D.tup [r p.1, s p.2]).py (D.tup [r q.1, s q.2]).py = decide (p = q) := by
  obtain ⟨a, b⟩ := p
  obtain ⟨c, d⟩ := q
  simp only [D.py, pyL, PyData.eqv, PyData.eqvAll, h, g, Bool.and_true]
  by_cases e : a = c <;> by_cases e2 : b = d <;> simp [e, e2]
theorem eqv_trip {α β γ : Type} [DecidableEq α] [DecidableEq β] [DecidableEq γ] {r : α → D} {s : β → D} {t : γ → D} (h : ∀ a b, PyData.eqv (r a).py (r b).py = decide (a = b)) (g : ∀ a b, PyData.eqv (s a).py (s b).py = decide (a = b)) (k : ∀ a b, PyData.eqv (t a).py (t b).py = decide (a = b)) (p q : α × β × γ) :
    PyData.eqv (D.tup [r p.1, s p.2.1, t p.2.2]).py (D.tup [r q.1, s q.2.1, t q.2.2]).py = decide (p = q) := by
  obtain ⟨a, b, c⟩ := p
  obtain ⟨d, e, f⟩ := q
  simp only [D.py, pyL, PyData.eqv, PyData.eqvAll, h, g, k, Bool.and_true]
  by_cases e1 : a = d <;> by_cases e2 : b = e <;> by_cases e3 : c = f <;> simp [e1, e2, e3]
theorem eqd_t {x y : D} {b : Bool} {Q : D → Prop} (c1 : Cmp x) (c2 : Cmp y) (h : PyData.eqv x.py y.py = b) (k : Q (.bl b)) : eqP false x y Q := ⟨c1, c2, by rw [if_neg Bool.false_ne_true, h]; exact k⟩
theorem eqd_f {x y : D} {b : Bool} {Q : D → Prop} (c1 : Cmp x) (c2 : Cmp y) (h : PyData.eqv x.py y.py = b) (k : Q (.bl (!b))) : eqP true x y Q := ⟨c1, c2, by rw [if_pos rfl, h]; exact k⟩
theorem eqv_strs (a b : Str) : PyData.eqv (D.str a).py (D.str b).py = decide (a = b) := eqv_str
theorem eqv_ints (a b : Int) : PyData.eqv (D.int a).py (D.int b).py = decide (a = b) := eqv_int
end DL

set_option Elab.async false
set_option linter.all false
set_option maxRecDepth 100000
set_option maxHeartbeats 2000000
/-! DL30: an own exception class made without an argument. -/
namespace DL
open PySem PySem.Spec PyProof.Rows L2
/-- what the top has written of an exception class without __init__ -/
structure Oex0 (K : PySem.W.Frag) (C : Addr) : Prop where
  ex : PySem.W.excIn K C [.type "ValueError", .type "Exception", .type "BaseException", .type "object"] "ValueError.__new__" = true
  kp : PySem.W.keepIn K (.ref C) = true
  sb : PySem.W.subIn K (.ref C) (.type "BaseException") = some true
  ty : PySem.W.typeIn K (.ref C) = some (.type "type")
section
variable {X : Cx}
theorem pmk_own0 {C : Addr} {x : Str} {p pos : Pos} (O : Oex0 X.K C) (gC : X.mg x = some (.ref C)) (hg : Gl X x) (hdb : (x == ("__debug__" : Str)) = false := by decide) :
    PMk X (.Call (.Name x p) [] [] pos) (fun _ H Q => Q (.ref C) none H) := by
  intro pins s σ H Q I h
  refine wpAny_Call_Name_kw (ld_glob I hg gC ?_ hdb)
  refine PySem.W.callWith_K0 I.kIn O.kp ?_
  obtain ⟨bm, N, nm, qn, bs, hdct, sn, sub, ab, col, dd, k0, k1, k2, k3, k5, mN, hC, hN, hni, T⟩ := exc_obj I.kIn O.ex
  refine wpAny_call_exc_subT PySem.F.excBase_ValueError T hC hN hni (fun h' e hm => ?_) (by show 0 ≤ sizeLine; omega)
  exact mk_of I hm (raises_own O.sb O.ty) h (I.hok.gone hm.new)
end
end DL

set_option Elab.async false
set_option linter.all false
set_option maxRecDepth 100000
set_option maxHeartbeats 2000000
/-! DL31: a try whose suite knows the exception's address; isinstance of what was caught. -/
namespace DL
open PySem PySem.Spec PyProof.Rows L2
section
variable {X : Cx} {c : Fc} {W : WX} {pos : Pos}
def tryDA (K : PySem.W.Frag) (cv : Value) (i : Nat) (tb : TDS) (ts : Addr → Value → Option Addr → TDS) : TDS := fun D δ =>
  tb { D with ex := fun x δ1 => ∃ b, PySem.W.exmOne K (.ref x.C) cv = some b ∧
    (b = true → ∀ a dd, (x.fs = none → dd = none) → ts a (.ref x.C) dd { nx := fun δ2 => D.nx (δ2.set i none), rt := D.rt, ex := noX, bk := fun δ2 => D.bk (δ2.set i none), ct := fun δ2 => D.ct (δ2.set i none) } (δ1.set i (some (.d (.exc a (.ref x.C) dd x.C x.fs))))) ∧ (b = false → D.ex x δ1) } δ
theorem psd_tryA (K : PySem.W.Frag) (hK : X.K = K) {x n : Str} {cv : Value} {i : Nat} {body suite : List Stmt} {b₀ : Stmt} {np pos pos' : Pos} {tb : TDS} {ts : Addr → Value → Option Addr → TDS} (ni : i ∉ c.sl) (hs : X.stack = X.env :: X.outer) (hf : X.env.frame = some X.env.locals) (hN : X.N.Nodup) (hi : X.N[i]? = some n) (hln : X.env.kindOf n = some .local) (hc : Names X x cv) (tk : Takes X W)
    (hb : ∀ (W : WX) (pn : List (Addr × Obj)) (xe : Value → Shared → Prop), Takes (X.tr pn xe) W → PassesOwn (model X.prog X.w) X.A X.env xe → PSs (X.tr pn xe) body (LS X.K c W tb))
    (hsu : ∀ (a : Addr) (oe : Obj) (cls : Value) (d : Option Addr) (pn : List (Addr × Obj)), Zc cls d oe → (∃ vs, oe.data = .fields vs) → PSs (X.suite a ((a, oe) :: pn)) (b₀ :: suite) (LS X.K c W0 (ts a cls d))) :
    PS X (.Try body [.ExceptHandler (some (.Name x np)) (some n) (b₀ :: suite) pos'] [] [] pos) (LS X.K c W (tryDA K cv i tb ts)) := by
  subst hK
  exact PS_imp (ps_try_as (tb := fun W => LS X.K c W tb) (ts := fun a cls d => LS X.K c W0 (ts a cls d)) hs hf hN hi hln hc tk hb hsu) fun D σ H ⟨δ, tmp, Dd, S, q, k, kr, kb, kc, w⟩ => by
    refine ⟨δ, tmp, _, S, q, k, kr, kb, kc, fun y δ1 σ1 H1 F ow cls d ⟨b, eb, yes, no⟩ S1 er => ?_⟩
    obtain ⟨C, fs⟩ := y
    obtain ⟨rfl, er'⟩ := id er
    refine ⟨b, eb, fun hb a na => ?_, fun hb => w _ _ _ _ F ow _ d (no hb) S1 er⟩
    have hn : fs = none → d = none := fun e => by subst e; exact er'
    have rx : Rep X.K F (.ref a) (.exc a (.ref C) d C fs) := by
      cases fs with
      | none => obtain rfl : d = none := er'; exact .exc0
      | some fs => obtain ⟨dd, vs, rfl, e2, e3⟩ := er'; exact .exc e2 e3
    exact ⟨_, tmp, _, (S1.push rx).set' ni, yes hb a d hn, fun δ2 σ2 H2 q2 ⟨F2, ow2, S2⟩ => k _ _ _ q2 ⟨F2, ow2, S2.del ni⟩, kr, fun δ2 σ2 H2 q2 ⟨F2, ow2, S2⟩ => kb _ _ _ q2 ⟨F2, ow2, S2.del ni⟩, fun δ2 σ2 H2 q2 ⟨F2, ow2, S2⟩ => kc _ _ _ q2 ⟨F2, ow2, S2.del ni⟩, fun _ _ _ _ _ _ _ _ z => z.elim⟩
/-! ### isinstance(e, c) -/
def rIsXc (K : PySem.W.Frag) (a : Addr) (cls : Value) (d : Option Addr) : List V → Hp → VK → Prop := fun xs H Q => ∃ (D : Addr) (c : V) (cv : Value) (b : Bool),
  xs = [.ref a, c] ∧ cls = .ref D ∧ (d = none ∨ ∃ dd fs, d = some dd ∧ H dd = some (.xd fs)) ∧ ExcC K D ∧ (∀ u, RelV c u → u = cv) ∧ PySem.W.kitOne K (.ref D) cv = some b ∧ Q (.bl b) H
theorem call_isXc {a : Addr} {oe : Obj} {pn : List (Addr × Obj)} {cls : Value} {d : Option Addr} (hz : Zc cls d oe) (hf : ∃ vs, oe.data = .fields vs) : CallR (X.suite a ((a, oe) :: pn)) (.builtin "isinstance") (rIsXc X.K a cls d) := by
  intro pins s σ H xs us Q I r h
  obtain ⟨D, c, cv, b, rfl, rfl, hd, T, hcv, e, q⟩ := h
  rcases hd with rfl | ⟨dd, fs, rfl, hdd⟩
  · exact call_isE T hz hf pins s σ H _ us Q I r ⟨c, cv, b, rfl, hcv, e, q⟩
  obtain ⟨u1, u2, rfl, r1, r2⟩ := vals2 r
  cases (show u1 = Value.ref a from r1)
  have e2 := hcv _ r2
  subst e2
  have hget := (I.pin (a, oe) (List.mem_append.mpr (.inl List.mem_cons_self))).1
  obtain ⟨vs, hd⟩ := hf
  obtain ⟨mA, hns, _⟩ := (show ObjOk X.prog X.w H s.heap dd (.xd fs) from I.hok dd _ hdd)
  obtain ⟨od, ho, _⟩ := lookIn_ns hns
  have J : PySem.W.InstAt s.heap a oe D (some od) := ⟨hget, hz.1, by unfold PySem.W.notCls; rw [hd] <;> rfl, by rw [hz.2]; exact ho⟩
  have hc : (PySem.W.clsIn X.K D).isSome = true := by
    obtain ⟨cd, hc, _⟩ := PySem.W.any_some T.hd
    rw [hc] <;> rfl
  exact PySem.W.kia_one (PySem.W.kitx_exc hc T.hg T.hk T.hs T.ha T.hn T.ht T.hm) I.kIn J e (fun z => nomatch z) fun tk => ⟨.bl b, H, I.kept (t' := tk) fun _ _ z => z, rfl, q⟩
theorem rel_adr {K : PySem.W.Frag} {F : Hp} {v : V} {C : Addr} (r : Rep K F v (.adr C)) : ∀ u, RelV v u → u = .ref C := by
  cases r
  intro u h
  exact h
abbrev isXcS (K : PySem.W.Frag) (a : Addr) (cls : Value) (d : Option Addr) : RDNs := fun ds Q => ∃ (C C2 : Addr) (fs : Option (List (Str × D))) (b : Bool), ds = [.exc a (.ref C) d C fs, .adr C2] ∧ cls = .ref C ∧ ExcC K C ∧ PySem.W.kitOne K (.ref C) (.ref C2) = some b ∧ Q (.bl b)
theorem cn_isXc {K : PySem.W.Frag} {a : Addr} {cls : Value} {d : Option Addr} : CallNs K (rIsXc K a cls d) (isXcS K a cls d) := fun xs ds F H Q Qd s r ⟨C, C2, fs, b, e, hc, T, hk, q⟩ k => by
  subst e
  cases r with
  | cons r t =>
    cases t with
    | cons r2 t =>
      cases t
      cases r with
      | exc0 => exact ⟨C, _, _, b, rfl, hc, .inl rfl, T, rel_adr r2, hk, k _ _ q rfl⟩
      | exc s1 h => exact ⟨C, _, _, b, rfl, hc, .inr ⟨_, _, rfl, s _ _ s1⟩, T, rel_adr r2, hk, k _ _ q rfl⟩
end
end DL
namespace DR
open PySem PySem.Spec PyProof.Rows L2 DL
theorem trya {K : PySem.W.Frag} {cv : Value} {i : Nat} {tb : TDS} {ts : Addr → Value → Option Addr → TDS} {D : EndsD} {δ : DSt} (h : tb { D with ex := fun x δ1 => ∃ b, PySem.W.exmOne K (.ref x.C) cv = some b ∧
    (b = true → ∀ a dd, (x.fs = none → dd = none) → ts a (.ref x.C) dd { nx := fun δ2 => D.nx (δ2.set i none), rt := D.rt, ex := noX, bk := fun δ2 => D.bk (δ2.set i none), ct := fun δ2 => D.ct (δ2.set i none) } (δ1.set i (some (.d (.exc a (.ref x.C) dd x.C x.fs))))) ∧ (b = false → D.ex x δ1) } δ) : tryDA K cv i tb ts D δ := h
end DR

set_option Elab.async false
set_option linter.all false
set_option maxRecDepth 100000
set_option maxHeartbeats 2000000
/-! DL32: a, b, c = x, y, z with plain local names. -/
namespace DL
open PySem PySem.Spec PyProof.Rows L2
def par3D (i j l : Nat) (oi oj ol : Bool) (t : TDK) : TDS := fun D δ => t δ (fun xs δ1 => ∃ x y z, xs = [x, y, z] ∧ D.nx (((δ1.set l (some (asD ol z))).set j (some (asD oj y))).set i (some (asD oi x)))) D.ex
section
variable {X : Cx} {c : Fc} {W : WX}
theorem psd_par3 {i j l : Nat} {oi oj ol : Bool} {x y z : Str} {a b e : Expr} {t : TDK} {px py pz pt pos : Pos} {kt k2 pt2} (ha : PA X [a, b, e] (LK X.K c W t)) (ni : i ∉ c.sl) (nj : j ∉ c.sl) (nl : l ∉ c.sl) (h : ∀ {ta : TA}, PA X [a, b, e] ta → PS X (.Assign [.Tuple [.Name x px, .Name y py, .Name z pz] k2 pt2] (.Tuple [a, b, e] kt pt) pos) (tPar3 i j l ta)) (hij : i ≠ j) (hil : i ≠ l) (hjl : j ≠ l) :
    PS X (.Assign [.Tuple [.Name x px, .Name y py, .Name z pz] k2 pt2] (.Tuple [a, b, e] kt pt) pos) (LS X.K c W (par3D i j l oi oj ol t)) :=
  PS_imp (h ha) fun D σ H ⟨δ, tmp, Dd, S, q, k, kr, kb, kc, w⟩ => ⟨δ, tmp, _, _, S, q, fun vs xs δ' H' ⟨x, y, z, e, q'⟩ hl S' => by
    subst e
    match vs, hl with
    | [v, u, s], _ =>
      obtain ⟨F, ow, S'⟩ := S'
      have S2 : SttF X.K c F ow δ' ((s, z) :: (u, y) :: (v, x) :: tmp) σ H' := S'
      obtain ⟨F3, S3⟩ := S2.top_as ol
      obtain ⟨F4, ow4, S4⟩ := S3.set' nl
      obtain ⟨F5, S5⟩ := S4.top_as oj
      obtain ⟨F6, ow6, S6⟩ := S5.set' nj
      obtain ⟨F7, S7⟩ := S6.top_as oi
      refine ⟨v, u, s, rfl, k _ _ _ q' ?_⟩
      rw [List.set_comm _ _ hjl, List.set_comm _ _ hil, List.set_comm _ _ hij]
      exact S7.set' ni, w⟩
end
end DL
namespace DR
open PySem PySem.Spec PyProof.Rows L2 DL
theorem par3 {i j l : Nat} {oi oj ol : Bool} {t : TDK} {D : EndsD} {δ : DSt} (h : t δ (fun xs δ1 => ∃ x y z, xs = [x, y, z] ∧ D.nx (((δ1.set l (some (asD ol z))).set j (some (asD oj y))).set i (some (asD oi x)))) D.ex) : par3D i j l oi oj ol t D δ := h
end DR

set_option Elab.async false
set_option linter.all false
set_option maxRecDepth 100000
set_option maxHeartbeats 2000000
/-! DL33: several except clauses whose suites know what was caught; a field of it. -/
namespace DL
open PySem PySem.Spec PyProof.Rows L2
structure ClauseA where
  cv : Value
  ix : Nat
  su : Addr → Value → Option Addr → TDS
def catchA (K : PySem.W.Frag) (D : EndsD) : List ClauseA → XD
  | [] => D.ex
  | q :: r => fun x δ => ∃ yes, PySem.W.exmOne K (.ref x.C) q.cv = some yes ∧ (yes = true → ∀ a dd, (x.fs = none → dd = none) → q.su a (.ref x.C) dd (sunkD q.ix D) (δ.set q.ix (some (.d (.exc a (.ref x.C) dd x.C x.fs))))) ∧ (yes = false → catchA K D r x δ)
def tryCA (K : PySem.W.Frag) (qs : List ClauseA) (tb : TDS) : TDS := fun D δ => tb { D with ex := catchA K D qs } δ
inductive ClausesA (X : Cx) (c : Fc) : List ExceptHandler → List ClauseA → Prop
  | nil : ClausesA X c [] []
  | cons {x n : Str} {cv : Value} {i : Nat} {su : Addr → Value → Option Addr → TDS} {s0 : Stmt} {more : List Stmt} {np pp : Pos} {hs : List ExceptHandler} {qs : List ClauseA} (ni : i ∉ c.sl) (hi : X.N[i]? = some n) (hl : X.env.kindOf n = some .local) (hn : Names X x cv)
      (hb : ∀ (a : Addr) (ob : Obj) (cls : Value) (dd : Option Addr) (pn : List (Addr × Obj)), Zc cls dd ob → (∃ vs, ob.data = .fields vs) → PSs (X.suite a ((a, ob) :: pn)) (s0 :: more) (LS X.K c W0 (su a cls dd))) (r : ClausesA X c hs qs) :
      ClausesA X c (.ExceptHandler (some (.Name x np)) (some n) (s0 :: more) pp :: hs) (⟨cv, i, su⟩ :: qs)
def ClauseA.up (K : PySem.W.Frag) (c : Fc) (q : ClauseA) : Clause := ⟨q.cv, q.ix, fun a cls d => LS K c W0 (q.su a cls d)⟩
theorem ClausesA.up {X : Cx} {c : Fc} {hs : List ExceptHandler} {qs : List ClauseA} (h : ClausesA X c hs qs) : Clauses X hs (qs.map (ClauseA.up X.K c)) := by
  induction h with
  | nil => exact .nil
  | cons ni hi hl hn hb r ih => exact .cons hi hl hn hb ih
theorem psd_tryCA (K : PySem.W.Frag) {X : Cx} (hK : X.K = K) {c : Fc} {W : WX} {bd : List Stmt} {g : ExceptHandler} {gs : List ExceptHandler} {qs : List ClauseA} {pos : Pos} {tb : TDS} (hst : X.stack = X.env :: X.outer) (hfr : X.env.frame = some X.env.locals) (nd : X.N.Nodup) (tk : Takes X W)
    (hb : ∀ (W : WX) (pn : List (Addr × Obj)) (xe : Value → Shared → Prop), Takes (X.tr pn xe) W → PassesOwn (model X.prog X.w) X.A X.env xe → PSs (X.tr pn xe) bd (LS X.K c W tb))
    (hh : ClausesA X c (g :: gs) qs) : PS X (.Try bd (g :: gs) [] [] pos) (LS X.K c W (tryCA K qs tb)) := by
  subst hK
  exact PS_imp (ps_tryC (tb := fun W => LS X.K c W tb) hst hfr nd tk hb hh.up) fun D σ H ⟨δ, tmp, Dd, S, q, k, kr, kb, kc, w⟩ => by
    refine ⟨δ, tmp, _, S, q, k, kr, kb, kc, ?_⟩
    have go : ∀ {hs : List ExceptHandler} {rs : List ClauseA}, ClausesA X c hs rs → WD X.K c (wishes X.K W D (rs.map (ClauseA.up X.K c))) tmp (catchA X.K Dd rs) := fun {hs rs} h => by
      induction h with
      | nil => exact w
      | @cons x n cv i su s0 more np pp hs2 rs2 ni hi hl hn hb r ih =>
        rintro ⟨C, fs⟩ δ1 σ1 H1 F ow cls d ⟨yes, ey, hy, hno⟩ S1 er
        obtain ⟨rfl, er2⟩ := id er
        have hn2 : fs = none → d = none := fun e => by subst e; exact er2
        refine ⟨yes, ey, fun e a na => ?_, fun e => ih _ _ _ _ F ow _ d (hno e) S1 er⟩
        have rx : Rep X.K F (.ref a) (.exc a (.ref C) d C fs) := by
          cases fs with
          | none => obtain rfl : d = none := er2; exact .exc0
          | some fs => obtain ⟨dd, vs, rfl, e2, e3⟩ := er2; exact .exc e2 e3
        exact ⟨_, tmp, _, (S1.push rx).set' ni, hy e a d hn2, fun δ2 σ2 H2 q2 ⟨F2, ow2, S2⟩ => k _ _ _ q2 ⟨F2, ow2, S2.del ni⟩, kr, fun δ2 σ2 H2 q2 ⟨F2, ow2, S2⟩ => kb _ _ _ q2 ⟨F2, ow2, S2.del ni⟩, fun δ2 σ2 H2 q2 ⟨F2, ow2, S2⟩ => kc _ _ _ q2 ⟨F2, ow2, S2.del ni⟩, fun _ _ _ _ _ _ _ _ z => z.elim⟩
    exact go hh
/-! ### e.f of what was caught -/
def xfD (a : Addr) (cls : Value) (d : Option Addr) (C : Addr) (f : Str) (t : TD) : TD := fun δ Q E => t δ (fun o δ1 => ∃ fs v, o.toD = .exc a (.ref C) d C (some fs) ∧ cls = .ref C ∧ fs.lookup f = some v ∧ Q (.d v) δ1) E
theorem pd_xf {X : Cx} {c : Fc} {W : WX} {a C : Addr} {oe : Obj} {cls : Value} {d : Option Addr} {pn : List (Addr × Obj)} {e : Expr} {t : TD} {pos : Pos} {n : Str} (T : XfC X.K C) (hno : PySem.W.findIn X.K (.ref C) n = some none)
    (hz : Zc cls d oe) (hf : ∃ vs, oe.data = .fields vs) (he : PE (X.suite a ((a, oe) :: pn)) e (LE X.K c W t)) (hb : attributeBase e n X.env (eval e X.env) = eval e X.env := by rfl) :
    PE (X.suite a ((a, oe) :: pn)) (.Attribute e n pos) (LE X.K c W (xfD a cls d C n t)) :=
  PE_imp (pe_xf T hno hz hf he hb) fun σ H Q ⟨δ, tmp, Qd, Ed, S, q, k, w⟩ => ⟨δ, tmp, _, _, S, q, fun v o δ' H' ⟨fs, x, eo, ec, el, q'⟩ ⟨F, ow, S'⟩ => by
    obtain ⟨F', S2, _⟩ := S'.top_frz
    rw [eo] at S2
    cases S2.top with
    | exc s h =>
      obtain ⟨u, e1, r⟩ := (RepF.lookup h).2 x el
      exact ⟨rfl, ec, _, _, u, rfl, S2.fh _ _ s, e1, k _ _ _ _ q' ⟨F', ow, S2.pop.push r⟩⟩, w⟩
end DL
namespace DR
open PySem PySem.Spec PyProof.Rows L2 DL
theorem tryca {K : PySem.W.Frag} {qs : List ClauseA} {tb : TDS} {D : EndsD} {δ : DSt} (h : tb { D with ex := catchA K D qs } δ) : tryCA K qs tb D δ := h
theorem xf {a : Addr} {cls : Value} {d : Option Addr} {C : Addr} {f : Str} {t : TD} {δ : DSt} {Q : DK} {E : XD} (h : t δ (fun o δ1 => ∃ fs v, o.toD = .exc a (.ref C) d C (some fs) ∧ cls = .ref C ∧ fs.lookup f = some v ∧ Q (.d v) δ1) E) : xfD a cls d C f t δ Q E := h
end DR

set_option Elab.async false
set_option linter.all false
set_option maxRecDepth 100000
set_option maxHeartbeats 2000000
/-! DL34: try .. except X: without a name. -/
namespace DL
open PySem PySem.Spec PyProof.Rows L2
def tryO (K : PySem.W.Frag) (cv : Value) (tb ts : TDS) : TDS := fun D δ =>
  tb { D with ex := fun x δ1 => ∃ b, PySem.W.exmOne K (.ref x.C) cv = some b ∧ (b = true → ts { D with ex := noX } δ1) ∧ (b = false → D.ex x δ1) } δ
theorem psd_tryO (K : PySem.W.Frag) {X : Cx} (hK : X.K = K) {c : Fc} {W : WX} {pos : Pos} {x : Str} {cv : Value} {body suite : List Stmt} {b₀ : Stmt} {np pos' : Pos} {tb ts : TDS} (hs : X.stack = X.env :: X.outer) (hf : X.env.frame = some X.env.locals) (hc : Names X x cv) (tk : Takes X W)
    (hb : ∀ (W : WX) (pn : List (Addr × Obj)) (xe : Value → Shared → Prop), Takes (X.tr pn xe) W → PassesOwn (model X.prog X.w) X.A X.env xe → PSs (X.tr pn xe) body (LS X.K c W tb))
    (hsu : ∀ (a : Addr) (oe : Obj) (cls : Value) (d : Option Addr) (pn : List (Addr × Obj)), Zc cls d oe → (∃ vs, oe.data = .fields vs) → PSs (X.suite a ((a, oe) :: pn)) (b₀ :: suite) (LS X.K c W0 ts)) :
    PS X (.Try body [.ExceptHandler (some (.Name x np)) none (b₀ :: suite) pos'] [] [] pos) (LS X.K c W (tryO K cv tb ts)) := by
  subst hK
  exact PS_imp (ps_try_only (tb := fun W => LS X.K c W tb) (ts := fun _ _ _ => LS X.K c W0 ts) hs hf hc tk hb hsu) fun D σ H ⟨δ, tmp, Dd, S, q, k, kr, kb, kc, w⟩ => by
    refine ⟨δ, tmp, _, S, q, k, kr, kb, kc, fun y δ1 σ1 H1 F ow cls d ⟨b, eb, yes, no⟩ S1 er => ?_⟩
    obtain ⟨C, fs⟩ := y
    obtain ⟨rfl, er'⟩ := id er
    exact ⟨b, eb, fun hb a na => ⟨δ1, tmp, _, ⟨F, ow, S1⟩, yes hb, k, kr, kb, kc, fun _ _ _ _ _ _ _ _ z => z.elim⟩, fun hb => w _ _ _ _ F ow _ d (no hb) S1 er⟩
end DL
namespace DR
open PySem PySem.Spec PyProof.Rows L2 DL
theorem tryo {K : PySem.W.Frag} {cv : Value} {tb ts : TDS} {D : EndsD} {δ : DSt} (h : tb { D with ex := fun x δ1 => ∃ b, PySem.W.exmOne K (.ref x.C) cv = some b ∧ (b = true → ts { D with ex := noX } δ1) ∧ (b = false → D.ex x δ1) } δ) : tryO K cv tb ts D δ := h
end DR

set_option Elab.async false
set_option linter.all false
set_option maxRecDepth 100000
/-! DL35: own errors whose __init__ sets fields (the last one set stands first) -/
namespace DL
open PySem PySem.Spec PyProof.Rows L2
def ErrR (K : PySem.W.Frag) (B : Addr) (ns : List Str) : Sp := fun vs H Q _ => ∃ (a : Addr) (xs : List V), vs = .ref a :: xs ∧ xs.length = ns.length ∧ H a = some (exo a B none) ∧ ∀ d, H d = none → d ≠ a → Q .non (upd (upd H d (exd d (ns.zip xs).reverse)) a (exo a B (some d)))
theorem repF_app {K : PySem.W.Frag} {F : Hp} : ∀ {vs us : List (Str × V)} {ds es : List (Str × D)}, RepF K F vs ds → RepF K F us es → RepF K F (vs ++ us) (ds ++ es)
  | _, _, _, _, .nil, g => g
  | _, _, _, _, .cons h t, g => .cons h (repF_app t g)
theorem repF_rev {K : PySem.W.Frag} {F : Hp} : ∀ {vs : List (Str × V)} {ds : List (Str × D)}, RepF K F vs ds → RepF K F vs.reverse ds.reverse
  | _, _, .nil => .nil
  | _, _, .cons h t => by
    rw [List.reverse_cons, List.reverse_cons]
    exact repF_app (repF_rev t) (.cons h .nil)
section
variable (P : Program) (w : World) (K : PySem.W.Frag) (mg : Str → Option Value) (base : Heap)
structure DefX (x : Str) (B : Addr) (ns : List Str) where
  f : Addr
  fd : FuncData
  ps : List Str
  ox : OexC K B
  ini : PySem.W.findIn K (.ref B) "__init__" = some (some (.ref f))
  ty : PySem.W.typeIn K (.ref f) = some (.type "function")
  ok : FnOk P w K mg base CX0 1 f fd ps (ErrR K B ns)
  b : Binds K fd ps []
  mg : mg x = some (.ref B)
end
section
variable {P : Program} {w : World} {K : PySem.W.Frag} {mg : Str → Option Value} {base : Heap} {B : Addr}
theorem ok_err1 {qual n : Str} {st : Stmt} {f : Addr} {fd : FuncData} (F : Fun K "__init__" qual st f fd) (sc : FnScope ["self", n] ["self", n] (defScope st)) (ox : OexC K B) (nw : PySem.W.findIn K (.ref B) n = some none)
    (ht : ∀ (cdv : Value) (A : Around) (outer : List Env) (s : Shared) (H : Hp) (E : XK), PSs (cxOf CX0 P w K mg base ["self", n] qual (defScope st) f cdv A outer s H E).nox (defBody st) (tOst K n (tVar 0) (tVar 1))) :
    FnOk P w K mg base CX0 1 f fd ["self", n] (ErrR K B [n]) := by
  refine F.ok sc (fun vs H Q E h => ?_) (fun cdv A outer s H vs Q E hr h => ?_)
  · obtain ⟨a, xs, rfl, hl, _⟩ := h
    match xs, hl with
    | [_], _ => rfl
  · obtain ⟨a, xs, rfl, hl, ha, k⟩ := h
    obtain ⟨x, rfl⟩ : ∃ x, xs = [x] := by
      match xs, hl with
      | [x], _ => exact ⟨x, rfl⟩
    refine ⟨_, ht cdv A outer s H E, ?_⟩
    refine ⟨x, rfl, .ref a, rfl, a, B, rfl, ox, nw, .inl ⟨ha, fun dx n ne => ?_⟩⟩
    exact k dx n ne
theorem ok_err2 {qual n m : Str} {st : Stmt} {f : Addr} {fd : FuncData} (F : Fun K "__init__" qual st f fd) (sc : FnScope ["self", n, m] ["self", n, m] (defScope st)) (ox : OexC K B) (nw : PySem.W.findIn K (.ref B) n = some none) (nw2 : PySem.W.findIn K (.ref B) m = some none)
    (ht : ∀ (cdv : Value) (A : Around) (outer : List Env) (s : Shared) (H : Hp) (E : XK), PSs (cxOf CX0 P w K mg base ["self", n, m] qual (defScope st) f cdv A outer s H E).nox (defBody st) (tSeq (tOst K n (tVar 0) (tVar 1)) (tOst K m (tVar 0) (tVar 2)))) :
    FnOk P w K mg base CX0 1 f fd ["self", n, m] (ErrR K B [n, m]) := by
  refine F.ok sc (fun vs H Q E h => ?_) (fun cdv A outer s H vs Q E hr h => ?_)
  · obtain ⟨a, xs, rfl, hl, _⟩ := h
    match xs, hl with
    | [_, _], _ => rfl
  · obtain ⟨a, xs, rfl, hl, ha, k⟩ := h
    obtain ⟨x, y, rfl⟩ : ∃ x y, xs = [x, y] := by
      match xs, hl with
      | [x, y], _ => exact ⟨x, y, rfl⟩
    refine ⟨_, ht cdv A outer s H E, ?_⟩
    refine ⟨x, rfl, .ref a, rfl, a, B, rfl, ox, nw, .inl ⟨ha, fun dx nd ne => ?_⟩⟩
    have e1 : upd (upd H dx (exd dx [(n, x)])) a (exo a B (some dx)) a = some (exo a B (some dx)) := upd_same
    have e2 : upd (upd H dx (exd dx [(n, x)])) a (exo a B (some dx)) dx = some (exd dx [(n, x)]) := by rw [upd_ne ne, upd_same]
    refine ⟨y, rfl, .ref a, rfl, a, B, rfl, ox, nw2, .inr ⟨dx, [(n, x)], e1, e2, (by show 1 ≤ 900; decide), ?_⟩⟩
    have z := k dx nd ne
    have e3 : upd (upd (upd H dx (exd dx [(n, x)])) a (exo a B (some dx))) dx (exd dx [(m, y), (n, x)]) = upd (upd H dx (exd dx (([n, m] : List Str).zip [x, y]).reverse)) a (exo a B (some dx)) := by
      funext b
      by_cases h1 : b = dx
      · subst h1; rw [upd_same, upd_ne ne, upd_same]; rfl
      · rw [upd_ne h1]
        by_cases h2 : b = a
        · subst h2; rw [upd_same, upd_same]
        · rw [upd_ne h2, upd_ne h2, upd_ne h1, upd_ne h1]
    rw [← e3] at z
    exact z
end
section
variable {X : Cx} {c : Fc} {W : WX}
def raiseR (B : Addr) (ns : List Str) (ta : TDA) : TDS := fun D δ => ta δ (fun as δ1 => ∃ ds, as = ds.map .d ∧ ds.length = ns.length ∧ ds.length ≤ 1000 ∧ D.ex ⟨B, some (ns.zip ds).reverse⟩ δ1) D.ex
theorem psd_raiseR {x : Str} {B : Addr} {ns : List Str} {e : Expr} {es : List Expr} {ta : TDA} {p pos pos2 : Pos} (hc : X.calm = true) (tk : Takes X W)
    (hk : ∀ {ta : TA}, PA X (e :: es) ta → PMk X (.Call (.Name x p) (e :: es) [] pos) (tMkO B (ErrR X.K B ns) [] ta)) (ha : PA X (e :: es) (LA X.K c W ta)) :
    PS X (.Raise (some (.Call (.Name x p) (e :: es) [] pos)) none pos2) (LS X.K c W (raiseR B ns ta)) :=
  PS_imp (ps_raise hc tk (hk ha)) fun D σ H ⟨δ, tmp, Dd, S, q, k, kr, kb, kc, w⟩ => ⟨δ, tmp, _, _, S, q, fun vs as δ1 F ow H1 ⟨ds, ea, hl, hz, q1⟩ S1 ra => by
    subst ea
    have r := args_d ra
    refine ⟨by rw [r.len]; exact hz, fun a na => ?_⟩
    refine ⟨a, vs, by rw [List.append_nil], by rw [r.len]; exact hl, upd_same, fun d nd ne => ⟨rfl, d, (ns.zip vs).reverse, upd_same, by rw [upd_ne ne, upd_same], by rwa [upd_ne ne] at nd, ?_⟩⟩
    have nd1 : H1 d = none := by rwa [upd_ne ne] at nd
    have eH : upd (del (upd (upd (upd H1 a (exo a B none)) d (exd d (ns.zip vs).reverse)) a (exo a B (some d))) a) d (.xd (ns.zip vs).reverse) = upd H1 d (.xd (ns.zip vs).reverse) := by
      funext b
      by_cases h1 : b = d
      · subst h1; rw [upd_same, upd_same]
      · rw [upd_ne h1, upd_ne h1]
        by_cases h2 : b = a
        · subst h2; rw [del_same]; exact na.symm
        · rw [del_ne h2, upd_ne h2, upd_ne h1, upd_ne h2]
    rw [eH]
    exact w _ _ _ _ _ ow _ _ q1 (S1.ext (Ext.new S1.fh nd1)) ⟨rfl, d, _, rfl, upd_same, repF_rev (repF_zip (r.mono (same_upd (Same.refl F) (S1.fh.free nd1))))⟩, w⟩
end
end DL
namespace DR
open PySem PySem.Spec PyProof.Rows L2 DL
theorem raiser {B : Addr} {ns : List Str} {ta : TDA} {D : EndsD} {δ : DSt} (h : ta δ (fun as δ1 => ∃ ds, as = ds.map .d ∧ ds.length = ns.length ∧ ds.length ≤ 1000 ∧ D.ex ⟨B, some (ns.zip ds).reverse⟩ δ1) D.ex) : raiseR B ns ta D δ := h
end DR

set_option Elab.async false
set_option linter.all false
set_option maxRecDepth 100000
/-! DL36: methods with defaults, classmethods with keywords, deep `in` of tuples, join -/
namespace DL
open PySem PySem.Spec PyProof.Rows L2
section
variable {X : Cx} {k n : Nat} {f g C : Addr} {fd : FuncData} {ps ks : List Str} {sp : Sp} {E : L2.St → XK} {x m : Str} {p pos apos : Pos} {e o : Expr} {es : List Expr} {kws : List Keyword} {t tk : TA} {to : TE} {gU : List Value → List Value → List Value} {gV : List V → List V → List V} {i : Nat}
/-! ### o.m(..) by values alone -/
def tMethR (C : Addr) (m : Str) (sp : Sp) (E : L2.St → XK) (ta : TE) (t : TA) : TE := fun σ H Q => ta σ H fun x H1 => ∃ a dx fs, x = .ref a ∧ H1 a = some (.ins C dx fs) ∧ fs.lookup m = none ∧ t σ H1 fun vs H2 => sp (x :: vs) H2 Q (E σ)
theorem pe_methR {pl : Sem Bool} (he : PE X o to) (c : Cls X.K C) (hm : Meth X.K C m f) (F : FnR X.prog X.w X.K X.mg X.base (L2.CX X.prog X.w) k f sp) (room : Room k X.A) (hx : ∀ σ, PassesAt (L2.CX X.prog X.w) X σ (E σ)) (ha : PA X (e :: es) t)
    (hst : starEach (e :: es) X.env = (false, eval e X.env) :: starEach es X.env := by rfl) (hpl : (backTo pos (starEach es X.env)).any (·.1) = false := by rfl)
    (ht : eval (.Call (.Attribute o m apos) (e :: es) [] pos) X.env = (do
      let ov ← eval o X.env
      standAt apos.atName
      let (f, first) ← holding [ov] (getMethod ov m pl)
      callWith pos f first (backTo pos (starEach (e :: es) X.env)) (backToKw pos (keywordEach [] X.env))) := by rfl) :
    PE X (.Call (.Attribute o m apos) (e :: es) [] pos) (tMethR C m sp E to t) := by
  refine ⟨fun pins s σ H Q I h => PySem.W.methodCall_KW (pl := pl) (thn (he.run pins s σ H _ I h) fun u s1 ⟨x, H1, I1, rx, a, dx, fs, ex, ea, l, q⟩ => ?_) ht⟩
  subst ex
  cases (show u = Value.ref a from rx)
  refine getmeth_ok I1 ea c hm l (PySem.W.callWith_K (first := [.ref a]) (h₀ := X.base) I.ok.mod.kin hm.kp (thn (ha.run pos pins s1 σ H1 _ I1 q) fun us s2 ⟨vs, H2, I2, r, q2⟩ => ⟨I2.kIn, ?_⟩) hst hpl)
  exact wpAny_call (run_R F room (hx σ) I2 (.cons (show RelV (V.ref a) (Value.ref a) from rfl) r) q2)
/-! ### C.m(.., k = v), m a classmethod -/
theorem run_N {pins : List (Addr × Obj)} {τ : L2.St} {G : Hp} {s : Shared} {Q : VK} {us ws : List Value} {vs zs : List V} (F : FnOk X.prog X.w X.K X.mg X.base (L2.CX X.prog X.w) k f fd ps sp) (room : Room k X.A) (kb : KBn X.K fd ps n ks gU gV) (hx : PassesAt (L2.CX X.prog X.w) X τ (E τ)) (I : Inv X pins τ G s)
    (rv : Vals vs us) (rz : Vals zs ws) (lv : vs.length = n) (lz : zs.length = ks.length) (h : sp (gV vs zs) G Q (E τ)) :
    codeAny (model X.prog X.w) X.A (.call (.ref f) ⟨us, ks.zip ws⟩) (fun fin s2 => match fin with | .ok (.ret v) => EP X pins τ Q v s2 | .ok _ => False | .error er => X.xe er s2) s := by
  refine codeAny_mono (F.run X.A X.stack s G ⟨us, ks.zip ws⟩ (gU us ws) (gV vs zs) Q (E τ) room I.env0 (kb.to s us ws I.kIn (rv.length.symm.trans lv) (rz.length.symm.trans lz)) (kb.rel rv rz) h) fun fin s2 y => ?_
  cases fin with
  | error er => exact hx pins G s er s2 I y
  | ok fl =>
    cases fl with
    | next => exact y.elim
    | brk => exact y.elim
    | cont => exact y.elim
    | ret u => exact I.after y
theorem pe_clsmK {mc : Value} {rp : Addr} {pl : Sem Bool} (ho : PE X o to) (cr : ClX.CRead X.K C mc) (cm : ClX.CMet X.K C mc m rp g) (F : FnOk X.prog X.w X.K X.mg X.base (L2.CX X.prog X.w) k g fd ps sp) (kb : KBn X.K fd ps (n + 1) ks gU gV) (room : Room k X.A) (hx : ∀ τ, PassesAt (L2.CX X.prog X.w) X τ (E τ)) (ha : PA X (e :: es) t) (hk : PK X kws tk)
    (hall : (backToKw pos (keywordEach kws X.env)).all (·.1.isSome) = true := by rfl) (hks : (backToKw pos (keywordEach kws X.env)).filterMap (·.1) = ks := by rfl)
    (hst : starEach (e :: es) X.env = (false, eval e X.env) :: starEach es X.env := by rfl) (hpl : ((backTo pos (starEach (e :: es) X.env)).any (·.1) || (backToKw pos (keywordEach kws X.env)).any (·.1.isNone)) = false := by rfl)
    (ht : eval (.Call (.Attribute o m apos) (e :: es) kws pos) X.env = (do
      let y ← eval o X.env
      standAt apos.atName
      let (u, ahead) ← holding [y] (getMethod y m pl)
      callWith pos u ahead (backTo pos (starEach (e :: es) X.env)) (backToKw pos (keywordEach kws X.env))) := by rfl) :
    PE X (.Call (.Attribute o m apos) (e :: es) kws pos) (fun τ G Q => to τ G fun x G1 => x = .ref C ∧ t τ G1 fun vs G2 => tk τ G2 fun zs G3 => vs.length = n ∧ zs.length = ks.length ∧ sp (gV (.ref C :: vs) zs) G3 Q (E τ)) := by
  refine ⟨fun pins s τ G Q I h => PySem.W.methodCall_KW (pl := pl) (thn (ho.run pins s τ G _ I h) fun u s1 ⟨x, G1, I1, rx, ex, q⟩ => ?_) ht⟩
  subst ex
  obtain rfl : u = Value.ref C := rx
  refine ClX.getmethcm_ok I1 cr cm fun s2 I2 => ?_
  refine PySem.W.callWith_of hpl (PySem.W.keeps_M (K := X.K) (q := s1.heap.objs.size) (f := g) (self := .ref C) cm.fi) (PyProof.Rows.evalArgs_kw2 hall (thn (ha.run pos _ s2 τ G1 _ I2 q) fun us s3 ⟨vs, G2, I3, rv, q2⟩ =>
    thn (hk.run pos _ s3 τ G2 _ I3 q2) fun ws s4 ⟨zs, G3, I4, rz, lv, lz, q3⟩ => ⟨⟨ClX.pin_at I4, I4.kIn⟩, ?_⟩) hst)
  rw [hks]
  exact thn (wpAny_call (PySem.W.method_call (ClX.pin_at I4) (run_N (us := .ref C :: us) (vs := .ref C :: vs) F room kb (hx τ) I4 (.cons rfl rv) rz (congrArg (· + 1) lv) lz q3))) fun _ _ y => ClX.unpinE y
end
section
variable {X : Cx} {c : Fc} {W : WX} {k n : Nat} {f g C : Addr} {fd : FuncData} {ps ks : List Str} {sd : SpD} {x m : Str} {p pos apos kpos : Pos} {e o : Expr} {es : List Expr} {kws : List Keyword} {t to : TD} {ta tk : TDA} {gU : List Value → List Value → List Value} {gV : List V → List V → List V} {i : Nat}
def methRD (C : Addr) (m : Str) (sd : SpD) (to : TD) (ta : TDA) : TD := fun δ Q E => to δ (fun o δ1 => ∃ fs, o.toD = .obj C fs ∧ fs.lookup m = none ∧ ta δ1 (fun as δ2 => ∃ ds : List D, as = ds.map .d ∧
  sd (.d (.obj C fs) :: ds.map .d) (fun r _ => Q r δ2) (fun x _ => E x δ2)) E) E
theorem pd_methR {pl : Sem Bool} (he : PE X o (LE X.K c W to)) (cl : Cls X.K C) (hm : Meth X.K C m f) (G : FnR X.prog X.w X.K X.mg X.base (L2.CX X.prog X.w) k f (spOf X.K sd)) (hr : Room k X.A) (tk0 : Takes X W) (ha : PA X (e :: es) (LA X.K c W ta))
    (hst : starEach (e :: es) X.env = (false, eval e X.env) :: starEach es X.env := by rfl) (hpl : (backTo pos (starEach es X.env)).any (·.1) = false := by rfl)
    (ht : eval (.Call (.Attribute o m apos) (e :: es) [] pos) X.env = (do
      let ov ← eval o X.env
      standAt apos.atName
      let (f, first) ← holding [ov] (getMethod ov m pl)
      callWith pos f first (backTo pos (starEach (e :: es) X.env)) (backToKw pos (keywordEach [] X.env))) := by rfl) :
    PE X (.Call (.Attribute o m apos) (e :: es) [] pos) (LE X.K c W (methRD C m sd to ta)) :=
  PE_imp (pe_methR (E := WE W) he cl hm G hr (fun σ => passAt tk0 σ) ha hst hpl ht) fun σ H Q ⟨δ, tmp, Qd, Ed, S, t, k, w⟩ =>
    ⟨δ, tmp, _, Ed, S, t, fun v o δ1 H1 ⟨fs, eo, nl, t1⟩ ⟨F, ow, S1⟩ => by
      obtain ⟨F', S2, _⟩ := S1.top_frz
      rw [eo] at S2
      cases S2.top with
      | @obj a _ dx vs _ s h =>
        refine ⟨a, dx, vs, rfl, S2.fh _ _ s, (RepF.lookup h).1 nl, δ1, _, _, Ed, ⟨F', ow, S2⟩, t1, fun ws as δ2 F2 ow2 H2 ⟨ds, ea, sp⟩ S3 ra => ?_, w.push⟩
        subst ea
        exact lift_data (ds := .obj C fs :: ds) S3.pop (.cons S3.top (args_d ra)) sp k w, w⟩
/-- C.m(.., k = v) -/
def clsmKD (C : Addr) (n m : Nat) (sd : SpD) (to : TD) (ta tk : TDA) : TD := fun δ Q E => to δ (fun o δ1 => o.toD = .adr C ∧ ta δ1 (fun as δ2 => ∃ ds : List D, as = ds.map .d ∧ ds.length = n ∧ tk δ2 (fun zs δ3 => ∃ es : List D, zs = es.map .d ∧ es.length = m ∧
  sd (.d (.adr C) :: (ds ++ es).map .d) (fun r _ => Q r δ3) (fun x _ => E x δ3)) E) E) E
theorem pd_clsmK {mc : Value} {rp : Addr} {pl : Sem Bool} (ho : PE X o (LE X.K c W to)) (cr : ClX.CRead X.K C mc) (cm : ClX.CMet X.K C mc m rp g) (G : FnOk X.prog X.w X.K X.mg X.base (L2.CX X.prog X.w) k g fd ps (spOf X.K sd)) (hr : Room k X.A) (kb : KBn X.K fd ps (n + 1) ks gU (fun vs zs => vs ++ zs ++ [])) (tk0 : Takes X W) (ha : PA X (e :: es) (LA X.K c W ta)) (hk : PK X kws (LA X.K c W tk))
    (hall : (backToKw pos (keywordEach kws X.env)).all (·.1.isSome) = true := by rfl) (hks : (backToKw pos (keywordEach kws X.env)).filterMap (·.1) = ks := by rfl)
    (hst : starEach (e :: es) X.env = (false, eval e X.env) :: starEach es X.env := by rfl) (hpl : ((backTo pos (starEach (e :: es) X.env)).any (·.1) || (backToKw pos (keywordEach kws X.env)).any (·.1.isNone)) = false := by rfl)
    (ht : eval (.Call (.Attribute o m apos) (e :: es) kws pos) X.env = (do
      let y ← eval o X.env
      standAt apos.atName
      let (u, ahead) ← holding [y] (getMethod y m pl)
      callWith pos u ahead (backTo pos (starEach (e :: es) X.env)) (backToKw pos (keywordEach kws X.env))) := by rfl) :
    PE X (.Call (.Attribute o m apos) (e :: es) kws pos) (LE X.K c W (clsmKD C n ks.length sd to ta tk)) :=
  PE_imp (pe_clsmK (E := WE W) ho cr cm G kb hr (fun τ => passAt tk0 τ) ha hk hall hks hst hpl ht) fun σ H Q ⟨δ, tmp, Qd, Ed, S, t, k, w⟩ =>
    ⟨δ, tmp, _, Ed, S, t, fun v y δ1 H1 ⟨ey, t1⟩ ⟨F, ow, S1⟩ => by
      obtain ⟨F', S2, _⟩ := S1.top_frz
      rw [ey] at S2
      have r := S2.top
      cases r
      refine ⟨rfl, δ1, tmp, _, Ed, ⟨F', ow, S2.pop⟩, t1, fun vs as δ2 F2 ow2 H2 ⟨ds, ea, ln, t2⟩ S3 ra => ?_, w⟩
      subst ea
      have r1 := args_d ra
      refine ⟨δ2, vs.zip (ds.map .d) ++ tmp, _, Ed, ⟨F2, ow2, S3.pushL r1⟩, t2, fun zs bs δ3 F3 ow3 H3 ⟨es, eb, lm, h⟩ S4 rb => ?_, w.pushL⟩
      subst eb
      have r2 := args_d rb
      obtain ⟨r1, S5⟩ := S4.popL r1.len
      refine ⟨r1.len.trans ln, r2.len.trans lm, ?_⟩
      show spOf X.K sd (V.ref C :: vs ++ zs ++ []) H3 Q (WE W σ)
      rw [List.append_nil]
      exact lift_data (ds := .adr C :: (ds ++ es)) S5 (.cons (.adr C) (r1.app r2)) h k w, w⟩
end
section
variable (P : Program) (w : World) (K : PySem.W.Frag) (mg : Str → Option Value) (base : Heap)
/-- a classmethod called with keywords -/
structure DefCK (C : Addr) (mc : Value) (x : Str) (k n : Nat) (ps ks : List Str) (sd : SpD) where
  p : Addr
  f : Addr
  fd : FuncData
  g : List Value → List Value → List Value
  ok : FnOk P w K mg base (L2.CX P w) k f fd ps (spOf K sd)
  kb : KBn K fd ps (n + 1) ks g (fun vs zs => vs ++ zs ++ [])
  cm : ClX.CMet K C mc x p f
/-- a method by values alone -/
structure DefMR (C : Addr) (x : Str) (k : Nat) (sd : SpD) where
  f : Addr
  ok : FnR P w K mg base (L2.CX P w) k f (spOf K sd)
  me : Meth K C x f
end
/-! ### x in (..), items of any depth -/
section
variable {X : Cx}
def rInT (K : PySem.W.Frag) (neg : Bool) : R2 := fun x y H Q => ∃ d ds, Dp K H x d ∧ (Dp K H y (.list ds) ∧ SeqAt.shaped (.list ds) = true ∨ Dp K H y (.tuple ds) ∧ SeqAt.shaped (.tuple ds) = true) ∧ SeqAt.shaped d = true ∧ Q (.bl (if neg then !ds.any fun z => PyData.eqv z d else ds.any fun z => PyData.eqv z d)) H
theorem op_inT (hu : X.A.units + 65 < cLine) : OpR X (compareOp .In) (rInT X.K false) := by
  intro pins s σ H x y v u Q I rx ry h
  obtain ⟨d, ds, hd, he, sd, q⟩ := h
  obtain ⟨as, r1⟩ := Dp.reads I d x v hd rx
  rcases he with ⟨he, se⟩ | ⟨he, se⟩
  · obtain ⟨bs, r2⟩ := Dp.reads I (.list ds) y u he ry
    exact SeqAt.in_list_reads r2 r1 (SeqAt.canLay_of_shaped se) (SeqAt.canLay_of_shaped sd) (room_in_shaped sd hu) ⟨.bl _, H, I, rfl, q⟩
  · obtain ⟨bs, r2⟩ := Dp.reads I (.tuple ds) y u he ry
    exact SeqAt.in_tuple_reads r2 r1 (SeqAt.canLay_of_shaped se) (SeqAt.canLay_of_shaped sd) (room_in_shaped sd hu) ⟨.bl _, H, I, rfl, q⟩
theorem op_notInT (hu : X.A.units + 65 < cLine) : OpR X (compareOp .NotIn) (rInT X.K true) := by
  intro pins s σ H x y v u Q I rx ry h
  obtain ⟨d, ds, hd, he, sd, q⟩ := h
  obtain ⟨as, r1⟩ := Dp.reads I d x v hd rx
  rcases he with ⟨he, se⟩ | ⟨he, se⟩
  · obtain ⟨bs, r2⟩ := Dp.reads I (.list ds) y u he ry
    exact SeqAt.notIn_list_reads r2 r1 (SeqAt.canLay_of_shaped se) (SeqAt.canLay_of_shaped sd) (room_in_shaped sd hu) ⟨.bl _, H, I, rfl, q⟩
  · obtain ⟨bs, r2⟩ := Dp.reads I (.tuple ds) y u he ry
    exact SeqAt.notIn_tuple_reads r2 r1 (SeqAt.canLay_of_shaped se) (SeqAt.canLay_of_shaped sd) (room_in_shaped sd hu) ⟨.bl _, H, I, rfl, q⟩
end
abbrev inTS (neg : Bool) : RD2s := fun a b Q => ∃ xs, (b = .lst xs ∨ b = .tup xs) ∧ Cmp a ∧ Cmp b ∧ Q (.bl (if neg then !(pyL xs).any fun z => PyData.eqv z a.py else (pyL xs).any fun z => PyData.eqv z a.py))
theorem op2_inT {K : PySem.W.Frag} (neg : Bool) : Op2s K (rInT K neg) (inTS neg) := fun x y a b F H Q Qd s rx ry ⟨xs, hb, ca, cb, q⟩ k => by
  refine ⟨a.py, pyL xs, dp_mono s (rx.dp ca.1), ?_, rx.shp ca, k _ _ q rfl⟩
  rcases hb with rfl | rfl
  · exact .inl ⟨dp_mono s (ry.dp cb.1), ry.shp cb⟩
  · exact .inr ⟨dp_mono s (ry.dp cb.1), ry.shp cb⟩
end DL
namespace DR
open PySem PySem.Spec PyProof.Rows L2 DL
section
variable {δ : DSt} {Q : DK} {E : XD}
theorem methr {C : Addr} {m : Str} {sd : SpD} {to : TD} {ta : TDA} (h : to δ (fun o δ1 => ∃ fs, o.toD = .obj C fs ∧ fs.lookup m = none ∧ ta δ1 (fun as δ2 => ∃ ds : List DL.D, as = ds.map .d ∧
  sd (.d (.obj C fs) :: ds.map .d) (fun r _ => Q r δ2) (fun x _ => E x δ2)) E) E) : methRD C m sd to ta δ Q E := h
theorem clsmk {C : Addr} {n m : Nat} {sd : SpD} {to : TD} {ta tk : TDA} (h : to δ (fun o δ1 => o.toD = .adr C ∧ ta δ1 (fun as δ2 => ∃ ds : List DL.D, as = ds.map .d ∧ ds.length = n ∧ tk δ2 (fun zs δ3 => ∃ es : List DL.D, zs = es.map .d ∧ es.length = m ∧
  sd (.d (.adr C) :: (ds ++ es).map .d) (fun r _ => Q r δ3) (fun x _ => E x δ3)) E) E) E) : clsmKD C n m sd to ta tk δ Q E := h
end
end DR

set_option Elab.async false
set_option linter.all false
set_option maxRecDepth 100000
/-! DL37: defs with positional defaults -/
namespace DL
open PySem PySem.Spec PyProof.Rows L2
section
variable {P : Program} {w : World} {K : PySem.W.Frag} {mg : Str → Option Value} {base : Heap}
theorem okDD {x qual : Str} {pa : Arguments} {bd : List Stmt} {sc : Scope} {dvs : List V} {kws : List (Str × V)} {f : Addr} {fd : FuncData} {N ps : List Str} {k : Nat} {sd : SpD} (G : FunD K x qual pa bd sc dvs kws f fd) (S : FnScope N ps sc) (sl : List Nat) (len : ∀ as Q E, sd as Q E → as.length = ps.length ∧ ownIx as 0 = sl)
    (hbody : ∃ t : TDS, (∀ (cdv : Value) (A : Around) (outer : List Env) (s : Shared) (H : Hp) (E : XK) (ad : List Addr) (F0 H0 : Hp), Room k (A.deeper (envOfC qual sc s.heap.objs.size f cdv)) →
        PSs (cxOf (L2.CX P w) P w K mg base N qual sc f cdv A outer s H E) bd (LS K ⟨sl, ad, F0, H0⟩ (fun cls d _ H => E cls d H) t)) ∧
      ∀ as Qd Ed, sd as Qd Ed → t (endsD sl Qd Ed) (startD N.length as)) :
    FnOk P w K mg base (L2.CX P w) (k + 1) f fd ps (spOf K sd) := by
  obtain ⟨t, ht, hq⟩ := hbody
  refine G.ok (CX := L2.CX P w) S (fun vs H Q E ⟨F, as, qs, Qd, Ed, _, A, h, _⟩ => by rw [A.len]; exact (len _ _ _ h).1) fun cdv A outer s H vs Q E hr ⟨F, as, qs, Qd, Ed, sm, ar, h, kq, ke⟩ => ?_
  have hsl := (len _ _ _ h).2
  have S0 := entry (N := N) sm ar
  rw [hsl] at S0
  have hpl : qs.length = sl.length := by rw [← hsl]; exact ar.plen
  have post : ∀ {δ' : DSt} {tmp : List (V × DV)} {σ' : L2.St} {F' H' : Hp} {ow' : Addr → Option Hold} {os : List OC}, SttF K ⟨sl, qs, F, H⟩ F' ow' δ' tmp σ' H' → takeB δ' sl os → Post K F H qs os F' H' := fun {δ' tmp σ' F' H' ow' os} S' tb =>
    ⟨S'.f0, S'.fh, S'.fr, S'.up, S'.fn, takeB_reps S' hpl S'.ps tb⟩
  refine ⟨_, ht cdv A outer s H E qs F H hr, startD N.length as, [], endsD sl Qd Ed, ⟨F, _, S0⟩, hq as Qd Ed h, fun δ' σ' H' ⟨os, tb, q⟩ ⟨F', ow', S'⟩ => ?_, fun v x δ' σ' H' ⟨os, tb, q⟩ ⟨F', ow', S'⟩ => ?_, fun _ _ _ z => z.elim, fun _ _ _ z => z.elim, fun x δ' σ' H' F' ow' cls d ⟨os, tb, q⟩ S' er => ?_⟩
  · exact kq .non (.d .non) os F' H' q (post S' tb) .non
  · refine kq v x os F' H' q (post S' tb) ?_
    cases x with
    | d y => exact S'.top
    | own o =>
      obtain ⟨p, rfl, e, b, n, r⟩ := S'.tm.1
      exact ⟨p, rfl, n.t, b, r⟩
  · exact ke cls d x os F' H' q (post S' tb) er
theorem FnOk.rawB {k : Nat} {f : Addr} {fd : FuncData} {ps : List Str} {sp : Sp} {dv : List V} {ds : List Value} (F : FnOk P w K mg base (L2.CX P w) k f fd ps sp) (hb : Binds K fd ps ds) (hd : Vals dv ds) : FnR P w K mg base (L2.CX P w) k f (fun vs H Q E => vs.length + dv.length = ps.length ∧ sp (vs ++ dv) H Q E) := by
  intro A outer s H us vs Q E hr e0 r ⟨hl, hs⟩
  have hl2 : (us ++ ds).length = ps.length := by rw [List.length_append, ← r.length, ← hd.length]; exact hl
  have z := hb s us (e0.mod.kin.keeps fun b o e => (e0.bs b o e).1) hl2
  exact F.run A outer s H ⟨us, []⟩ (us ++ ds) (vs ++ dv) Q E hr e0 z (r.append hd) hs
theorem FnOk.dfltB {k n : Nat} {f : Addr} {fd : FuncData} {ps : List Str} {sd : SpD} {dv : List V} {dd : List D} {ds : List Value} (F : FnOk P w K mg base (L2.CX P w) k f fd ps (spOf K sd)) (hb : Binds K fd ps ds) (hv : Vals dv ds) (hn : n + dv.length = ps.length) (hd : ∀ F, RepL K F dv dd) :
    FnR P w K mg base (L2.CX P w) k f (spOf K (dfltD n dd sd)) := (DL.FnOk.rawB F hb hv).imp fun vs H Q E ⟨F, as, qs, Qd, Ed, sm, ar, ⟨ds, ea, hm, h⟩, kq, ke⟩ => by
  subst ea
  obtain ⟨r, rfl⟩ := argsRep_d ar
  refine ⟨by rw [r.len, hm]; exact hn, ?_⟩
  exact ⟨F, _, [], _, _, sm, (r.app (hd F)).args, h, fun v x os F' H' q Pq rr => kq v x [] F' H' q (by cases Pq.nil; exact Pq) rr, fun cls d x os F' H' q Pq er => ke cls d x [] F' H' q (by cases Pq.nil; exact Pq) er⟩
end
end DL

set_option Elab.async false
set_option linter.all false
set_option maxRecDepth 100000
/-! DL38: sep.join(texts) -/
namespace DL
open PySem PySem.Spec PyProof.Rows L2
theorem strOk_join {y : Str} (hy : PyData.strOk y = true) : ∀ {xs : List Str}, (∀ x ∈ xs, PyData.strOk x = true) → PyData.strOk (Str.join y xs) = true
  | [], _ => by
    show PyData.strOk Str.empty = true
    decide +kernel
  | [x], h => h x List.mem_cons_self
  | x :: z :: r, h => by
    show PyData.strOk (x ++ y ++ Str.join y (z :: r)) = true
    exact strOk_app (strOk_app (h x List.mem_cons_self) hy) (strOk_join hy fun a ha => h a (List.mem_cons_of_mem _ ha))
theorem reps_strs {K : PySem.W.Frag} {F : Hp} : ∀ {ys : List Str} {vs : List V}, RepL K F vs (ys.map .str) → vs = ys.map V.str ∧ ∀ y ∈ ys, PyData.strOk y = true
  | [], _, .nil => ⟨rfl, fun y h => nomatch h⟩
  | y :: ys, _, .cons h t => by
    obtain ⟨rfl, ok⟩ := reps_strs t
    cases h with
    | str k => exact ⟨rfl, fun z hz => (List.mem_cons.mp hz).elim (fun e => by rw [e]; exact k) (ok z)⟩
section
variable {X : Cx} {c : Fc} {W : WX}
def joinD (to te : TD) : TD := fun δ Q E => to δ (fun x δ1 => ∃ a, x.toD = .str a ∧ te δ1 (fun y δ2 => ∃ ys : List Str, y.toD.its = some (ys.map .str) ∧ (ys.map (·.length)).sum + ys.length * a.length ≤ 16777216 ∧ Q (.d (.str (Str.join a ys))) δ2) E) E
theorem pd_join {o e : Expr} {to te : TD} {apos pos : Pos} (ho : PE X o (LE X.K c W to)) (he : PE X e (LE X.K c W te)) (hs : starEach [e] X.env = [(false, eval e X.env)] := by rfl) (hbase : attributeBase o "join" X.env (eval o X.env) = eval o X.env := by rfl) (hline : (apos.endLine == pos.line) = true := by rfl) :
    PE X (.Call (.Attribute o "join" apos) [e] [] pos) (LE X.K c W (joinD to te)) :=
  PE_imp (pe_join ho he hs hbase hline) fun σ H Q ⟨δ, tmp, Qd, Ed, S, t, k, w⟩ => ⟨δ, tmp, _, Ed, S, t, fun v x δ1 H1 ⟨a, ea, t1⟩ ⟨F, ow, S1⟩ => by
    obtain ⟨F', S2, _⟩ := S1.top_frz
    rw [ea] at S2
    have r := S2.top
    cases r with
    | str k1 =>
      refine ⟨⟨a, rfl⟩, δ1, _, _, Ed, ⟨F', ow, S2⟩, t1, fun u y δ2 H2 ⟨ys, ey, hz, q⟩ ⟨F3, ow3, S3⟩ => ?_, w.push⟩
      obtain ⟨F4, S4, _⟩ := S3.top_frz
      obtain ⟨p, vs, rfl, h, r⟩ := S4.top.row ey
      obtain ⟨rfl, ok⟩ := reps_strs r
      refine ⟨a, p, ys, rfl, rfl, sq_mono S4.fh h, hz, ?_⟩
      rw [TL.join_eq]
      exact k _ _ _ _ q ⟨F4, ow3, (S4.pop.pop).push (.str (strOk_join k1 ok))⟩, w⟩
end
end DL
namespace DR
open PySem PySem.Spec PyProof.Rows L2 DL
theorem join {δ : DSt} {Q : DK} {E : XD} {to te : TD} (h : to δ (fun x δ1 => ∃ a, x.toD = .str a ∧ te δ1 (fun y δ2 => ∃ ys : List Str, y.toD.its = some (ys.map .str) ∧ (ys.map (·.length)).sum + ys.length * a.length ≤ 16777216 ∧ Q (.d (.str (Str.join a ys))) δ2) E) E) : joinD to te δ Q E := h
end DR

set_option Elab.async false
set_option linter.all false
set_option maxRecDepth 100000
set_option maxHeartbeats 2000000
/-! DL39: dict(zip(a, b)) of two tuples, a of texts -/
namespace ZT
open PySem PySem.Spec
open PySem.Sem (wp)
section
variable {prog : Program} {w : World} {A : Around} {E : Value → Shared → Prop} {s : Shared} {z TI TO T i1 i2 l1 l2 : Addr} {f : Bool} {oT : Obj} {k1 k2 : Nat} {xs ys : Array Value}
/-- two tuples are zipped, a tuple given out before is still there -/
theorem item_h {x y : Value} {Q : Value → Shared → Prop} (D : ZipApart z TI TO i1 i2 l1 l2) (hz : IsZipHeld s.heap z TI TO T f) (hT : s.heap.get? T = some oT) (hI : IsPair s.heap TI (.ref i1) (.ref i2)) (a1 : s.heap.IsTupleIter i1 l1 k1) (a2 : s.heap.IsTupleIter i2 l2 k2) (b1 : s.heap.IsTuple l1 xs) (b2 : s.heap.IsTuple l2 ys) (ex : xs[k1]? = some x) (ey : ys[k2]? = some y)
    (hQ : ∀ g, IsZipHeld g z TI TO T true → g.IsTupleIter i1 l1 (k1 + 1) → g.IsTupleIter i2 l2 (k2 + 1) → IsPair g s.heap.objs.size x y → (∀ c o, c ≠ z → c ≠ i1 → c ≠ i2 → s.heap.get? c = some o → g.get? c = some o) → Q (.ref s.heap.objs.size) { s with heap := g }) :
    wpAny (model prog w) A (Builtin.«zip.__next__» ⟨[.ref z], []⟩) (fun fin s' => ∃ v, fin = .done (.ret v) ∧ Q v s') E s := by
  show wpAny _ _ (field (.ref z) 2 >>= _) _ _ _; refine wpAny_bind (wpAny_field hz rfl (x := .bool false) rfl ?_); show wpAny _ _ (field (.ref z) 3 >>= _) _ _ _
  refine wpAny_bind (wpAny_field hz rfl (x := .ref TI) rfl ?_); refine wpAny_bind (wpAny_seqItems hI rfl ?_); show wpAny _ _ (Builtin.SmallTypes.ownedTupleIsFree (.ref z) >>= _) _ _ _
  refine wpAny_bind (wpAny_tupleHeld_zip hz hT fun g1 z1 s1 => ?_); simp only [Bool.false_eq_true, if_false]; refine wpAny_bind ?_; rw [← Array.forIn_toList]; simp only [List.forIn_cons, List.forIn_nil]
  refine wpAny_bind (wpAny_bind (wpAny_holding ?_)); show wpAny _ _ (Builtin.SmallTypes.nextOf (.ref i1) >>= _) _ _ _
  refine wpAny_bind (RZ.nextOf_tuple_item (s := { s with heap := g1 }) (a1.extBut s1.extBut D.i1z) (b1.extBut s1.extBut D.l1z) ex fun g2 j1 s2 => wpAny_pure ?_); refine wpAny_pure ?_
  refine wpAny_bind (wpAny_bind (wpAny_holding ?_)); show wpAny _ _ (Builtin.SmallTypes.nextOf (.ref i2) >>= _) _ _ _
  refine wpAny_bind (RZ.nextOf_tuple_item (s := { s with heap := g2 }) ((a2.extBut s1.extBut D.i2z).extBut s2.extBut D.i12.symm) ((b2.extBut s1.extBut D.l2z).extBut s2.extBut D.l2i1) ey fun g3 j2 s3 => wpAny_pure ?_)
  refine wpAny_pure (wpAny_pure ?_); show wpAny _ _ (newTuple [x, y] >>= _) _ _ _; refine wpAny_bind (wpAny_newTuple ?_)
  have sz : g3.objs.size = s.heap.objs.size := by rw [s3.1, s2.1, s1.1]
  have z3 : IsZipHeld g3 z TI TO T true := s3.extBut _ _ D.i2z.symm (s2.extBut _ _ D.i1z.symm z1)
  have kp : ∀ c o, c ≠ z → c ≠ i1 → c ≠ i2 → s.heap.get? c = some o → g3.get? c = some o := fun c o c1 c2 c3 e => s3.extBut _ _ c3 (s2.extBut _ _ c2 (s1.extBut _ _ c1 e))
  have j3 : g3.IsTupleIter i1 l1 (k1 + 1) := j1.extBut s3.extBut D.i12
  refine wpAny_pure ⟨_, rfl, ?_⟩; show Q (.ref g3.objs.size) _
  have hp : IsPair (g3.push { cls := .type "tuple", data := .seq #[x, y] }) g3.objs.size x y := Heap.get?_push_size _ rfl; rw [sz] at hp ⊢
  exact hQ _ (Heap.get?_push_of_some _ z3) (j3.at fun o e => Heap.get?_push_of_some _ e) (j2.at fun o e => Heap.get?_push_of_some _ e) hp fun c o c1 c2 c3 e => Heap.get?_push_of_some _ (kp c o c1 c2 c3 e)
theorem end_h {Q : Fin → Shared → Prop} (hh : A.handled = none) (D : ZipApart z TI TO i1 i2 l1 l2) (hz : IsZipHeld s.heap z TI TO T f) (hT : s.heap.get? T = some oT) (hI : IsPair s.heap TI (.ref i1) (.ref i2)) (a1 : s.heap.IsTupleIter i1 l1 k1) (a2 : s.heap.IsTupleIter i2 l2 k2) (b1 : s.heap.IsTuple l1 xs) (b2 : s.heap.IsTuple l2 ys) (hend : xs[k1]? = none ∨ ys[k2]? = none)
    (hE : ∀ g e, (∀ c o, c ≠ z → c ≠ i1 → c ≠ i2 → s.heap.get? c = some o → g.get? c = some o) → (∃ o, g.get? e = some o ∧ o.cls = .type "StopIteration") → E (.ref e) { s with heap := g }) : wpAny (model prog w) A (Builtin.«zip.__next__» ⟨[.ref z], []⟩) Q E s := by
  show wpAny _ _ (field (.ref z) 2 >>= _) _ _ _; refine wpAny_bind (wpAny_field hz rfl (x := .bool false) rfl ?_); show wpAny _ _ (field (.ref z) 3 >>= _) _ _ _
  refine wpAny_bind (wpAny_field hz rfl (x := .ref TI) rfl ?_); refine wpAny_bind (wpAny_seqItems hI rfl ?_); show wpAny _ _ (Builtin.SmallTypes.ownedTupleIsFree (.ref z) >>= _) _ _ _
  refine wpAny_bind (wpAny_tupleHeld_zip hz hT fun g1 z1 s1 => ?_); simp only [Bool.false_eq_true, if_false]; refine wpAny_bind ?_; rw [← Array.forIn_toList]; simp only [List.forIn_cons, List.forIn_nil]
  refine wpAny_bind (wpAny_bind (wpAny_holding ?_)); show wpAny _ _ (Builtin.SmallTypes.nextOf (.ref i1) >>= _) _ _ _
  cases hx : xs[k1]? with
  | none => exact wpAny_bind (RZ.nextOf_tuple_end (s := { s with heap := g1 }) hh (a1.extBut s1.extBut D.i1z) (b1.extBut s1.extBut D.l1z) hx fun g2 e s2 he => hE g2 e (fun c o c1 c2 _ q => s2 _ _ c2 (s1.extBut _ _ c1 q)) he)
  | some x =>
    have hy : ys[k2]? = none := by rcases hend with h | h <;> first | exact h | (rw [hx] at h; cases h)
    refine wpAny_bind (RZ.nextOf_tuple_item (s := { s with heap := g1 }) (a1.extBut s1.extBut D.i1z) (b1.extBut s1.extBut D.l1z) hx fun g2 j1 s2 => wpAny_pure ?_); refine wpAny_pure ?_
    refine wpAny_bind (wpAny_bind (wpAny_holding ?_)); show wpAny _ _ (Builtin.SmallTypes.nextOf (.ref i2) >>= _) _ _ _
    exact wpAny_bind (RZ.nextOf_tuple_end (s := { s with heap := g2 }) hh ((a2.extBut s1.extBut D.i2z).extBut s2.extBut D.i12.symm) ((b2.extBut s1.extBut D.l2z).extBut s2.extBut D.l2i1) hy fun g3 e s3 he => hE g3 e (fun c o c1 c2 c3 q => s3 _ _ c3 (s2.extBut _ _ c2 (s1.extBut _ _ c1 q))) he)
theorem next_h {x y : Value} {Q : Option Value → Shared → Prop} (D : ZipApart z TI TO i1 i2 l1 l2) (hz : IsZipHeld s.heap z TI TO T f) (hT : s.heap.get? T = some oT) (hI : IsPair s.heap TI (.ref i1) (.ref i2)) (a1 : s.heap.IsTupleIter i1 l1 k1) (a2 : s.heap.IsTupleIter i2 l2 k2) (b1 : s.heap.IsTuple l1 xs) (b2 : s.heap.IsTuple l2 ys) (ex : xs[k1]? = some x) (ey : ys[k2]? = some y)
    (hQ : ∀ g, IsZipHeld g z TI TO T true → g.IsTupleIter i1 l1 (k1 + 1) → g.IsTupleIter i2 l2 (k2 + 1) → IsPair g s.heap.objs.size x y → (∀ c o, c ≠ z → c ≠ i1 → c ≠ i2 → s.heap.get? c = some o → g.get? c = some o) → Q (some (.ref s.heap.objs.size)) { s with heap := g }) :
    wpAny (model prog w) A (pyNext (.ref z)) Q E s := by
  have ty : s.TypeIs (.ref z) "zip" := ⟨_, hz, rfl⟩
  unfold pyNext
  exact wpAny_bind (wpAny_attempt (wpAny_callSpecial?_slot (name := Str.ofString "__next__") ty F.slot_zip_next (wpAny_call_entry F.slot_zip_next ty F.entry_zip_next (item_h D hz hT hI a1 a2 b1 b2 ex ey fun g c1 c2 c3 c4 c5 => wpAny_pure (hQ g c1 c2 c3 c4 c5)) (F.args_zip_next_1 _))))
theorem last_h {Q : Option Value → Shared → Prop} (hh : A.handled = none) (D : ZipApart z TI TO i1 i2 l1 l2) (hz : IsZipHeld s.heap z TI TO T f) (hT : s.heap.get? T = some oT) (hI : IsPair s.heap TI (.ref i1) (.ref i2)) (a1 : s.heap.IsTupleIter i1 l1 k1) (a2 : s.heap.IsTupleIter i2 l2 k2) (b1 : s.heap.IsTuple l1 xs) (b2 : s.heap.IsTuple l2 ys) (hend : xs[k1]? = none ∨ ys[k2]? = none)
    (hQ : ∀ g, (∀ c o, c ≠ z → c ≠ i1 → c ≠ i2 → s.heap.get? c = some o → g.get? c = some o) → Q none { s with heap := g }) : wpAny (model prog w) A (pyNext (.ref z)) Q E s := by
  have ty : s.TypeIs (.ref z) "zip" := ⟨_, hz, rfl⟩
  unfold pyNext
  refine wpAny_bind (wpAny_attempt (wpAny_callSpecial?_slot (name := Str.ofString "__next__") ty F.slot_zip_next (wpAny_call_entry F.slot_zip_next ty F.entry_zip_next (end_h hh D hz hT hI a1 a2 b1 b2 hend fun g e hk he => ?_) (F.args_zip_next_1 _))))
  obtain ⟨o, ho, hc⟩ := he
  exact wpAny_bind (wpAny_isInstance (T := "StopIteration") (b := true) ⟨o, ho, hc⟩ isSubtype_stop (wpAny_pure (hQ _ hk)))
end
section
variable {prog : Program} {w : World}
/-- zip of two tuples as what dict() reads -/
theorem arg (z TI TO i1 i2 l1 l2 : Addr) (D : ZipApart z TI TO i1 i2 l1 l2) (xs ys : Array Value) :
    PairArg prog w "zip" z [z, TI, TO, i1, i2, l1, l2] [z, TO, i1, i2] (min xs.size ys.size) (fun i k v => xs[i]? = some k ∧ ys[i]? = some v)
      (fun h => (IsZip h z TI TO .none ∧ IsPair h TI (.ref i1) (.ref i2)) ∧ (∃ a b, IsPair h TO a b) ∧ (h.IsTupleIter i1 l1 0 ∧ h.IsTupleIter i2 l2 0) ∧ h.IsTuple l1 xs ∧ h.IsTuple l2 ys) where
  type := fun s ok => ⟨_, ok.1.1, rfl⟩
  notDict := by decide
  keep := fun h h' ⟨⟨q1, q2⟩, ⟨a, b, q3⟩, ⟨q4, q5⟩, q6, q7⟩ hk => ⟨⟨hk _ _ q1, hk _ _ q2⟩, ⟨a, b, hk _ _ q3⟩, ⟨q4.at fun o e => hk _ o e, q5.at fun o e => hk _ o e⟩, q6.at fun o e => hk _ o e, q7.at fun o e => hk _ o e⟩
  there := fun h ⟨⟨q1, q2⟩, ⟨a, c, q3⟩, ⟨⟨o1, q4, _⟩, ⟨o2, q5, _⟩⟩, ⟨o3, q6, _⟩, ⟨o4, q7, _⟩⟩ b hb => by
    simp only [List.mem_cons, List.not_mem_nil, or_false] at hb
    rcases hb with rfl | rfl | rfl | rfl | rfl | rfl | rfl <;> first | exact ⟨_, q1⟩ | exact ⟨_, q2⟩ | exact ⟨_, q3⟩ | exact ⟨_, q4⟩ | exact ⟨_, q5⟩ | exact ⟨_, q6⟩ | exact ⟨_, q7⟩
  sub := fun b hb => by simp only [List.mem_cons, List.not_mem_nil, or_false] at hb ⊢; rcases hb with rfl | rfl | rfl | rfl <;> simp
  noKeys := fun A s Q E hA ok h => getAttrOr_miss_zip ok.1.1 rfl rfl rfl zip_no_keys (by decide +kernel) hA h
  iter := fun A s d Q E hA ⟨⟨q1, q2⟩, ⟨a, b, q3⟩, ⟨q4, q5⟩, q6, q7⟩ hd hdf h => by
    simp only [List.mem_cons, List.not_mem_nil, or_false, not_or] at hdf
    obtain ⟨dz, dTI, dTO, di1, di2, dl1, dl2⟩ := hdf
    refine wpAny_pyIter_zip q1 (h z [z, TO, i1, i2] (fun i h => IsPair h TI (.ref i1) (.ref i2) ∧ (h.IsTupleIter i1 l1 i ∧ h.IsTupleIter i2 l2 i) ∧ (h.IsTuple l1 xs ∧ h.IsTuple l2 ys) ∧
      ((IsZip h z TI TO .none ∧ ∃ a b, IsPair h TO a b) ∨ ∃ T f oT, IsZipHeld h z TI TO T f ∧ h.get? T = some oT ∧ T ≠ z ∧ T ≠ i1 ∧ T ≠ i2 ∧ T ≠ d)) s.heap s.toks ?_ ⟨q2, ⟨q4, q5⟩, ⟨q6, q7⟩, .inl ⟨q1, a, b, q3⟩⟩ (fun _ _ e => e) fun b hb => .inl hb)
    refine ⟨fun hm => ?_, fun i g g' st hk => ?_, fun i s1 Q1 E1 hi st hds hQ => ?_, fun s1 Q1 E1 st hQ => ?_⟩
    · simp only [List.mem_cons, List.not_mem_nil, or_false] at hm
      exact hm.elim dz fun q => q.elim dTO fun q => q.elim di1 di2
    · obtain ⟨q2, ⟨q4, q5⟩, ⟨q6, q7⟩, hz⟩ := st
      refine ⟨hk _ _ (Ne.symm dTI) q2, ⟨q4.at fun o e => hk _ o (Ne.symm di1) e, q5.at fun o e => hk _ o (Ne.symm di2) e⟩, ⟨q6.at fun o e => hk _ o (Ne.symm dl1) e, q7.at fun o e => hk _ o (Ne.symm dl2) e⟩, ?_⟩
      rcases hz with ⟨q1, a, b, q3⟩ | ⟨T, f, oT, q1, qT, r1, r2, r3, r4⟩
      · exact .inl ⟨hk _ _ (Ne.symm dz) q1, a, b, hk _ _ (Ne.symm dTO) q3⟩
      · exact .inr ⟨T, f, oT, hk _ _ (Ne.symm dz) q1, hk _ _ r4 qT, r1, r2, r3, r4⟩
    · obtain ⟨q2, ⟨q4, q5⟩, ⟨q6, q7⟩, hz⟩ := st
      have ex := Array.getElem?_eq_getElem (Nat.lt_of_lt_of_le hi (Nat.min_le_left ..))
      have ey := Array.getElem?_eq_getElem (Nat.lt_of_lt_of_le hi (Nat.min_le_right ..))
      have lt : ∀ {c o}, s1.heap.get? c = some o → s1.heap.objs.size ≠ c := fun e => Nat.ne_of_gt (Heap.lt_size e)
      have n1 : s1.heap.objs.size ≠ i1 := let ⟨_, e, _⟩ := q4; lt e
      have n2 : s1.heap.objs.size ≠ i2 := let ⟨_, e, _⟩ := q5; lt e
      rcases hz with ⟨q1, a, b, q3⟩ | ⟨T, f, oT, q1, qT, r1, r2, r3, r4⟩
      · refine RZ.pyNext_zipT_item D q1 q2 q3 q4 q5 q6 q7 ex ey fun g c1 c2 c3 c4 c5 c6 hk => ?_
        exact hQ s1.heap.objs.size _ _ g s1.toks ⟨ex, ey⟩ (.inl ⟨_, c5, rfl, _, rfl⟩) ⟨hk _ _ D.TIz D.TITO D.TIi1 D.TIi2 q2, ⟨c3, c4⟩, ⟨q6.at fun o e => hk _ o D.l1z D.l1TO D.l1i1 D.l1i2 e, q7.at fun o e => hk _ o D.l2z D.l2TO D.l2i1 D.l2i2 e⟩, .inr ⟨s1.heap.objs.size, false, _, c1, c5, lt q1, n1, n2, Nat.ne_of_gt hds⟩⟩
          fun c o hc e => hk c o (fun q => hc (by simp [q])) (fun q => hc (by simp [q])) (fun q => hc (by simp [q])) (fun q => hc (by simp [q])) e
      · refine next_h D q1 qT q2 q4 q5 q6 q7 ex ey fun g c1 c3 c4 c5 hk => ?_
        exact hQ s1.heap.objs.size _ _ g s1.toks ⟨ex, ey⟩ (.inl ⟨_, c5, rfl, _, rfl⟩) ⟨hk _ _ D.TIz D.TIi1 D.TIi2 q2, ⟨c3, c4⟩, ⟨q6.at fun o e => hk _ o D.l1z D.l1i1 D.l1i2 e, q7.at fun o e => hk _ o D.l2z D.l2i1 D.l2i2 e⟩, .inr ⟨T, true, oT, c1, hk _ _ r1 r2 r3 qT, r1, r2, r3, r4⟩⟩
          fun c o hc e => hk c o (fun q => hc (by simp [q])) (fun q => hc (by simp [q])) (fun q => hc (by simp [q])) e
    · obtain ⟨q2, ⟨q4, q5⟩, ⟨q6, q7⟩, hz⟩ := st
      have he : xs[min xs.size ys.size]? = none ∨ ys[min xs.size ys.size]? = none := by
        rcases Nat.le_total xs.size ys.size with h | h
        · exact .inl (Array.getElem?_eq_none (by rw [Nat.min_eq_left h]; exact Nat.le_refl _))
        · exact .inr (Array.getElem?_eq_none (by rw [Nat.min_eq_right h]; exact Nat.le_refl _))
      rcases hz with ⟨q1, a, b, q3⟩ | ⟨T, f, oT, q1, qT, r1, r2, r3, r4⟩
      · exact RZ.pyNext_zipT_end hA D q1 q2 q3 q4 q5 q6 q7 he fun g hk => hQ g s1.toks fun c o hc e => hk c o (fun q => hc (by simp [q])) (fun q => hc (by simp [q])) (fun q => hc (by simp [q])) (fun q => hc (by simp [q])) e
      · exact last_h hA D q1 qT q2 q4 q5 q6 q7 he fun g hk => hQ g s1.toks fun c o hc e => hk c o (fun q => hc (by simp [q])) (fun q => hc (by simp [q])) (fun q => hc (by simp [q])) e
end
end ZT
namespace DL
open PySem PySem.Spec PyProof.Rows L2
theorem kv_zip : ∀ {ks : List Str} {vs : List V} {us : List Value}, Vals vs us → KV ((ks.map Sum.inr : List Key).zip vs) ((ks.map Sum.inr : List Key).zip us)
  | [], _, _, _ => .nil
  | _ :: _, _, _, .nil => .nil
  | k :: ks, _, _, .cons h t => .cons ⟨rfl, h⟩ (kv_zip t)
theorem strs_at : ∀ {ks : List Str} {us : List Value} {i : Nat} {u : Value}, Vals (ks.map V.str) us → us[i]? = some u → ∃ k t, ks[i]? = some k ∧ u = .str k t
  | [], _, i, u, .nil, e => by simp at e
  | k :: ks, _, 0, u, .cons h t, e => by
    obtain ⟨tk, rfl⟩ := (show ∃ t, _ = Value.str k t from h)
    simp at e
    exact ⟨k, tk, rfl, e.symm⟩
  | k :: ks, _, i + 1, u, .cons h t, e => strs_at (ks := ks) (i := i) t e
/-- dict(zip(a, b)) -/
def tDZip (K : PySem.W.Frag) (ta : TA) : TE := fun σ H Q => ta σ H fun vs H1 => ∃ (a b : Addr) (ns : List Str) (xs : List V), vs = [.ref a, .ref b] ∧ SqT K H1 a (ns.map .str) ∧ SqT K H1 b xs ∧ xs.length = ns.length ∧ ns.length ≤ 1000 ∧
  ∀ p, H1 p = none → Q (.ref p) (upd H1 p (.dK (mergeK [] ((ns.map Sum.inr : List Key).zip xs))))
theorem pe_dzip {X : Cx} {e e2 : Expr} {ta : TA} {p q pos pos2 : Pos} (hcalm : X.calm = true) (hgD : Gl X "dict") (hmD : X.mg "dict" = none) (hgZ : Gl X "zip") (hmZ : X.mg "zip" = none) (ha : PA X [e, e2] ta)
    (hs : starEach [e, e2] X.env = (false, eval e X.env) :: starEach [e2] X.env := by rfl) (hpl : (backTo pos2 (starEach [e2] X.env)).any (·.1) = false := by rfl)
    (hs0 : starEach [Expr.Call (.Name "zip" q) [e, e2] [] pos2] X.env = (false, eval (.Call (.Name "zip" q) [e, e2] [] pos2) X.env) :: starEach [] X.env := by rfl) (hp0 : (backTo pos (starEach [] X.env)).any (·.1) = false := by rfl) :
    PE X (.Call (.Name "dict" p) [.Call (.Name "zip" q) [e, e2] [] pos2] [] pos) (tDZip X.K ta) := by
  refine ⟨fun pins s σ H Q I h => ?_⟩
  refine Call_ (ld_blt I hgD hmD PyProof.Rows.boot_dict (PyProof.Rows.callWith_type1 ?_ hs0 hp0))
  rw [hs0]
  show wpAny _ _ (spliced ((false, eval (.Call (.Name "zip" q) [e, e2] [] pos2) X.env) :: backTo pos (starEach [] X.env))) _ _ s
  refine Calls.spliced_cons ?_
  refine Call_ (ld_blt I hgZ hmZ PyProof.Rows.boot_zip (PyProof.Rows.callWith_type1 (thn (ha.run pos2 pins s σ H _ I h) fun us s1 ⟨vs, H1, I1, r1, q1⟩ => ?_) hs hpl))
  obtain ⟨a, b, ns, xs, ex, sa, sb, hl, hz, q1⟩ := q1
  subst ex
  cases r1 with
  | cons r rr =>
    cases rr with
    | cons r' rr =>
      cases rr
      cases r
      cases r'
      obtain ⟨its, rv, p1, _⟩ := I1.tuple sa
      obtain ⟨its2, rv2, p2, _⟩ := I1.tuple sb
      obtain ⟨o1, ho1, _⟩ := id p1
      obtain ⟨o2, ho2, _⟩ := id p2
      have D := PySem.W.ktu_apart s1.heap.objs.size a b (Heap.lt_size ho1) (Heap.lt_size ho2)
      have l1 : its.length = ns.length := by rw [← rv.length, List.length_map]
      have l2 : its2.length = ns.length := by rw [← rv2.length, hl]
      refine RZ.call_zipT (show s1.heap.IsTuple a its.toArray from p1) (show s1.heap.IsTuple b its2.toArray from p2) fun h' hz0 hTI hTO h1 h2 hsz hk => ?_
      refine Calls.spliced_nil ?_
      have hn : min its.toArray.size its2.toArray.size = ns.length := by simp [l1, l2]
      refine call_dict_pairs (knd := mixKind X.prog X.w) (kvs := (ns.map Sum.inr : List Key).zip its2) (ZT.arg _ _ _ _ _ _ _ D its.toArray its2.toArray) (I.ok.hd hcalm)
        ⟨⟨hz0, hTI⟩, ⟨_, _, hTO⟩, ⟨h1, h2⟩, (show s1.heap.IsTuple a its.toArray from p1).at fun o e => hk _ o e, (show s1.heap.IsTuple b its2.toArray from p2).at fun o e => hk _ o e⟩
        ⟨by rw [hn, List.length_zip, List.length_map, l2]; simp, fun i key v ⟨e1, e2⟩ => ?_⟩ (by rw [hn]; exact Nat.le_trans hz (by decide)) fun h'' tk hd' hk' => ?_
      · obtain ⟨k, t, ek, rfl⟩ := strs_at rv (show its[i]? = some key by simpa using e1)
        refine ⟨.inr k, ?_, ?_⟩
        · rw [List.getElem?_zip_eq_some, List.getElem?_map, ek]
          exact ⟨rfl, by simpa using e2⟩
        · show Value.isStrOf k (.str k t) = true
          simp [Value.isStrOf]
      · have kp : ∀ b o, s1.heap.get? b = some o → h''.get? b = some o := fun b o eb => hk' b o (fun hb => by
          have hlt := Heap.lt_size eb
          simp only [List.mem_cons, List.not_mem_nil, or_false] at hb
          rcases hb with rfl | rfl | rfl | rfl
          · exact absurd hlt (Nat.not_lt.mpr (Nat.le_add_right _ _))
          · exact absurd hlt (Nat.not_lt.mpr (Nat.le_add_right _ _))
          · exact absurd hlt (Nat.lt_irrefl _)
          · exact absurd hlt (Nat.not_lt.mpr (Nat.le_add_right _ _))) (hk b o eb)
        have hge : s1.heap.objs.size ≤ h'.objs.size := by rw [hsz]; exact Nat.le_add_right _ _
        have kv := kv_zip (ks := ns) rv2
        have hlen : (mergeK [] ((ns.map Sum.inr : List Key).zip xs)).length ≤ sizeLine := by
          refine Nat.le_trans (length_mergeK _ []) ?_
          rw [List.length_nil, Nat.zero_add, List.length_zip, List.length_map]
          exact Nat.le_trans (Nat.min_le_left _ _) (Nat.le_trans hz (by decide))
        have hm : (h'.objs.size == sysModules) = false := beq_eq_false_iff_ne.mpr (Nat.ne_of_gt (Nat.lt_of_lt_of_le I1.big hge))
        exact ⟨.ref h'.objs.size, upd H1 h'.objs.size (.dK (mergeK [] ((ns.map Sum.inr : List Key).zip xs))), I1.laid (t' := tk) kp hge (show ObjOk X.prog X.w _ _ _ (.dK (mergeK [] ((ns.map Sum.inr : List Key).zip xs))) from ⟨hlen, hm, merged [] ((ns.map Sum.inr : List Key).zip its2), KV.merge kv .nil, hd'⟩), rfl, q1 _ (I1.hok.fresh hge)⟩
end DL

set_option Elab.async false
set_option linter.all false
set_option maxRecDepth 100000
set_option maxHeartbeats 2000000
/-! DL40: dicts by plain keys in data; tuple * int; index of a text; isinstance of what was caught, of a built-in class -/
namespace DL
open PySem PySem.Spec PyProof.Rows L2
/-! ### dict(zip(a, b)) -/
theorem merge_nd : ∀ {kvs acc : List (Key × V)}, ((acc ++ kvs).map (·.1)).Nodup → mergeK acc kvs = acc ++ kvs
  | [], acc, _ => by rw [List.append_nil]; rfl
  | (k, v) :: kvs, acc, h => by
    have e : putK acc k v = acc ++ [(k, v)] := by
      unfold putK
      rw [if_neg]
      intro q
      obtain ⟨p, hp, e⟩ := List.any_eq_true.mp q
      rw [List.map_append, List.map_cons] at h
      exact (List.nodup_append.mp h).2.2 p.1 (List.mem_map_of_mem hp) k List.mem_cons_self (of_decide_eq_true e)
    show mergeK (putK acc k v) kvs = _
    rw [e, merge_nd (acc := acc ++ [(k, v)]) (by rw [List.append_assoc]; exact h), List.append_assoc]
    rfl
theorem keys_nd {ns : List Str} {α : Type} : ∀ {xs : List α}, ns.Nodup → (((ns.map Sum.inr : List Key).zip xs).map (·.1)).Nodup := fun {xs} h => by
  have h2 : (ns.map Sum.inr : List Key).Nodup := List.Pairwise.map _ (fun a b q e => q (Sum.inr.inj e)) h
  have sub : (((ns.map Sum.inr : List Key).zip xs).map (·.1)).Sublist (ns.map Sum.inr : List Key) := by
    generalize (ns.map Sum.inr : List Key) = l
    induction l generalizing xs with
    | nil => exact List.Sublist.refl _
    | cons a l ih =>
      cases xs with
      | nil => exact List.nil_sublist _
      | cons x xs => exact (ih (xs := xs)).cons_cons _
  exact h2.sublist sub
theorem repK_zip {K : PySem.W.Frag} {F : Hp} : ∀ {ks : List Key} {vs : List V} {ds : List D}, RepL K F vs ds → RepK K F (ks.zip vs) (ks.zip ds)
  | [], _, _, _ => .nil
  | _ :: _, _, _, .nil => .nil
  | _ :: _, _, _, .cons h t => .cons h (repK_zip t)
section
variable {X : Cx} {c : Fc} {W : WX}
def dzipD (ta : TDA) : TD := fun δ Q E => ta δ (fun as δ1 => ∃ (ns : List Str) (ds : List D), as = [.d (.tup (ns.map .str)), .d (.tup ds)] ∧ ds.length = ns.length ∧ ns.length ≤ 1000 ∧ ns.Nodup ∧ Q (.own (.dK ((ns.map Sum.inr : List Key).zip ds))) δ1) E
theorem pd_dzip {e e2 : Expr} {ta : TDA} {p q pos pos2 : Pos} (hcalm : X.calm = true) (hgD : Gl X "dict") (hmD : X.mg "dict" = none) (hgZ : Gl X "zip") (hmZ : X.mg "zip" = none) (ha : PA X [e, e2] (LA X.K c W ta))
    (hs : starEach [e, e2] X.env = (false, eval e X.env) :: starEach [e2] X.env := by rfl) (hpl : (backTo pos2 (starEach [e2] X.env)).any (·.1) = false := by rfl)
    (hs0 : starEach [Expr.Call (.Name "zip" q) [e, e2] [] pos2] X.env = (false, eval (.Call (.Name "zip" q) [e, e2] [] pos2) X.env) :: starEach [] X.env := by rfl) (hp0 : (backTo pos (starEach [] X.env)).any (·.1) = false := by rfl) :
    PE X (.Call (.Name "dict" p) [.Call (.Name "zip" q) [e, e2] [] pos2] [] pos) (LE X.K c W (dzipD ta)) :=
  PE_imp (pe_dzip hcalm hgD hmD hgZ hmZ ha hs hpl hs0 hp0) fun σ H Q ⟨δ, tmp, Qd, Ed, S, t, k, w⟩ => ⟨δ, tmp, _, Ed, S, t, fun vs as δ1 F ow H1 ⟨ns, ds, ea, hl, hz, nd, q⟩ S1 ra => by
    subst ea
    cases ra with
    | d r1 ra =>
      cases ra with
      | d r2 ra =>
        cases ra
        cases r1 with
        | tup s1 q1 =>
          cases r2 with
          | tup s2 q2 =>
            obtain ⟨rfl, _⟩ := reps_strs q1
            refine ⟨_, _, ns, _, rfl, SqT.of (S1.fh _ _ s1), SqT.of (S1.fh _ _ s2), q2.len.trans hl, hz, fun p np => k _ _ _ _ q ⟨F, _, S1.pushNew (o := .dK _) np ⟨_, upd_same, ?_⟩⟩⟩
            rw [merge_nd (by rw [List.nil_append]; exact keys_nd nd), List.nil_append]
            exact repK_zip q2, w⟩
/-! ### d[k] -/
def valK (kvs : List (Key × D)) (k : Key) : Option D := (kvs.find? fun p => decide (p.1 = k)).map (·.2)
theorem repK_get {K : PySem.W.Frag} {F : Hp} {k : Key} : ∀ {vs : List (Key × V)} {ds : List (Key × D)}, RepK K F vs ds → ∀ d, valK ds k = some d → ∃ v, valV vs k = some v ∧ Rep K F v d
  | _, _, .nil => fun d h => nomatch h
  | _, _, .cons (n := n) (v := v) (d := d) (vs := vs) (ds := ds) h t => by
    by_cases e : n = k
    · have e1 : valK ((n, d) :: ds) k = some d := by simp [valK, List.find?_cons, e]
      rw [e1, valV_pos (p := (n, v)) e]
      exact fun d z => by cases z; exact ⟨v, rfl, h⟩
    · have e1 : valK ((n, d) :: ds) k = valK ds k := by simp [valK, List.find?_cons, e]
      rw [e1, valV_neg (p := (n, v)) e]
      exact repK_get t
def keyOne : Key → D
  | .inl i => .int i
  | .inr x => .str x
theorem key_one {K : PySem.W.Frag} {F : Hp} {v : V} : ∀ {k : Key}, Rep K F v (keyOne k) → v = kV k
  | .inl i, r => by cases r; rfl
  | .inr x, r => by cases r; rfl
def getK (to ti : TD) : TD := fun δ Q E => to δ (fun o δ1 => ti δ1 (fun k δ2 => ∃ kvs key d, o.toD = .dK kvs ∧ k.toD = keyOne key ∧ valK kvs key = some d ∧ Q (.d d) δ2) E) E
theorem pd_getK {o i : Expr} {to ti : TD} {pos : Pos} (h : ∀ {to ti : TE}, PE X o to → PE X i ti → PE X (.Subscript o i pos) (tDGet to ti)) (ho : PE X o (LE X.K c W to)) (hi : PE X i (LE X.K c W ti)) : PE X (.Subscript o i pos) (LE X.K c W (getK to ti)) :=
  PE_imp (h ho hi) fun σ H Q ⟨δ, tmp, Qd, Ed, S, q, k, w⟩ => ⟨δ, tmp, _, Ed, S, q, fun u x δ1 H1 q1 S1 => ⟨δ1, _, _, Ed, S1, q1, fun t y δ2 H2 ⟨kvs, key, d, eo, ek, ed, q2⟩ ⟨F, ow, S2⟩ => by
    obtain ⟨F3, S3, _⟩ := S2.top_frz2
    rw [eo, ek] at S3
    obtain rfl := key_one S3.top
    have r0 := S3.pop.top
    cases r0 with
    | dK s r =>
      obtain ⟨z, ez, rz⟩ := repK_get r d ed
      exact ⟨_, z, rfl, .inl ⟨_, key, rd_mono S3.fh s, rfl, ez.symm⟩, k _ _ _ _ q2 ⟨F3, ow, S3.pop.pop.push rz⟩⟩, w.push⟩, w⟩
/-! ### xs.index(x), texts -/
def indexD (to : TD) (ta : TDA) : TD := fun δ Q E => to δ (fun x δ1 => ∃ ns : List Str, x.toD = .lst (ns.map .str) ∧ ta δ1 (fun as δ2 => ∃ (z : Str) (j : Nat), as = [.d (.str z)] ∧ ns[j]? = some z ∧ (∀ m, m < j → ns[m]? ≠ some z) ∧ Q (.d (.int j)) δ2) E) E
theorem pd_index {o e : Expr} {to : TD} {ta : TDA} {apos cpos : Pos} (ho : PE X o (LE X.K c W to)) (ha : PA X [e] (LA X.K c W ta)) (hbase : attributeBase o "index" X.env (eval o X.env) = eval o X.env := by rfl)
    (hfew : ((backTo cpos (starEach [e] X.env)).all (fun x => !x.1) && (backToKw cpos (keywordEach [] X.env)).all (fun x => x.1.isSome) && decide ([e].length + ([] : List Keyword).length + (if ([] : List Keyword).isEmpty then 0 else 1) < 30)) = true := by rfl)
    (hline : (apos.endLine == cpos.line) = true := by rfl) (hs : starEach [e] X.env = (false, eval e X.env) :: starEach [] X.env := by rfl) (hplain : (backTo cpos (starEach [] X.env)).any (·.1) = false := by rfl) :
    PE X (.Call (.Attribute o "index" apos) [e] [] cpos) (LE X.K c W (indexD to ta)) :=
  PE_imp (pe_bm PySem.F.plainAttrs_list PySem.F.slot_list_index PySem.F.type_list_index mt_index ho ha hbase hfew hline hs hplain) fun σ H Q ⟨δ, tmp, Qd, Ed, S, t, k, w⟩ => ⟨δ, tmp, _, Ed, S, t, fun v x δ1 H1 ⟨ns, ex, t1⟩ ⟨F, ow, S1⟩ => by
    obtain ⟨F', S2, _⟩ := S1.top_frz
    rw [ex] at S2
    have r := S2.top
    cases r with
    | lst s1 r1 =>
      obtain ⟨rfl, _⟩ := reps_strs r1
      refine ⟨.inl ⟨rfl, _, SqL.of (S2.fh _ _ s1)⟩, δ1, _, _, Ed, ⟨F', ow, S2⟩, t1, fun vs as δ2 F2 ow2 H2 ⟨z, j, ea, ej, hno, q⟩ S3 ra => ?_, w.push⟩
      subst ea
      cases ra with
      | d rz ra =>
        cases ra
        cases rz
        have r3 := S3.top
        cases r3 with
        | lst s3 r3 =>
          obtain ⟨rfl, _⟩ := reps_strs r3
          refine ⟨_, ns.map V.str, .str z, j, .str z, rfl, rfl, SqL.of (S3.fh _ _ s3), rfl, ?_, by rw [List.getElem?_map, ej]; rfl, ?_, fun m z' hm hz' => ?_, k _ _ _ _ q ⟨F2, ow2, S3.pop.push (.int _)⟩⟩
          · exact List.all_eq_true.mpr fun v hv => by obtain ⟨_, _, rfl⟩ := List.mem_map.mp hv; rfl
          · simp [eqV]
          · rw [List.getElem?_map] at hz'
            obtain ⟨y, hy, rfl⟩ := Option.map_eq_some_iff.mp hz'
            have : y ≠ z := fun e => hno m hm (by rw [hy, e])
            simp [eqV, this], w⟩
/-! ### isinstance(e, X), X a built-in class -/
abbrev isXcT (K : PySem.W.Frag) (a : Addr) (cls : Value) (d : Option Addr) : RDNs := fun ds Q => ∃ (C : Addr) (n : String) (fs : Option (List (Str × D))) (b : Bool), ds = [.exc a (.ref C) d C fs, .ty n] ∧ cls = .ref C ∧ ExcC K C ∧ PySem.W.kitOne K (.ref C) (.type n) = some b ∧ Q (.bl b)
theorem rel_ty {K : PySem.W.Frag} {F : Hp} {v : V} {n : String} (r : Rep K F v (.ty n)) : ∀ u, RelV v u → u = .type n := by
  cases r
  intro u h
  exact h
theorem cn_isXcT {K : PySem.W.Frag} {a : Addr} {cls : Value} {d : Option Addr} : CallNs K (rIsXc K a cls d) (isXcT K a cls d) := fun xs ds F H Q Qd s r ⟨C, n, fs, b, e, hc, T, hk, q⟩ k => by
  subst e
  cases r with
  | cons r t =>
    cases t with
    | cons r2 t =>
      cases t
      cases r with
      | exc0 => exact ⟨C, _, _, b, rfl, hc, .inl rfl, T, rel_ty r2, hk, k _ _ q rfl⟩
      | exc s1 h => exact ⟨C, _, _, b, rfl, hc, .inr ⟨_, _, rfl, s _ _ s1⟩, T, rel_ty r2, hk, k _ _ q rfl⟩
/-! ### (x, ..) * n -/
theorem mul_one (l : Addr) (items : Array Value) (n : Nat) (dd : Option Addr) (sl : Array (Option Value)) (u : Tok) : Meets (Builtin.«tuple.__mul__» ⟨[.ref l, .int 1 u], []⟩) (fun _ R s => s.heap.get? l = some { cls := .type "tuple", dict := dd, data := .seq items n, slots := sl } ∧ R (.ok (.ret (.ref l))) s) :=
  .of_wp fun prog w A R s h => by
    obtain ⟨hp, g, d, tk, os⟩ := s
    obtain ⟨hl, h⟩ := h
    have f1 := AutoSeq1.idx_int
    wp_walk using wpAny_loadPart' hl
    exact ⟨_, rfl, h⟩
def rRepA (K : PySem.W.Frag) : R2 := fun x y H Q => (∃ l xs, x = .ref l ∧ y = .int 1 ∧ SqT K H l xs ∧ Q (.ref l) H) ∨ rRepT K x y H Q
theorem op_repA {X : Cx} : OpR X (binaryOp .Mult) (rRepA X.K) := by
  intro pins s σ H x y v u Q I rx ry h
  rcases h with ⟨l, xs, rfl, rfl, hT, q⟩ | h
  · cases rx
    obtain ⟨t, rfl⟩ := ry
    obtain ⟨its, r, ⟨⟨cls, dd, data, sl⟩, ho, hc, n, hd⟩, hs⟩ := I.tuple hT
    simp only at hc hd
    subst hc hd
    exact wpAny_binaryOp_repeat_ref (T := "tuple") (U := "int") (by decide) ⟨_, ho, rfl⟩ (fun s' => typeIs_int s' 1 t) noFill_tuple_mul F.fills_int_mul F.slot_int_rmul repeat_tuple F.slot_int_index.lookup (call_meets F.slot_int_rmul (typeIs_int s 1 t) F.entry_int_rmul (F.args_int_rmul_2 _ _)
      (int_rmul_tuple 1 t l its.toArray n dd sl) ⟨ho, rfl, ⟨_, ho, rfl⟩, call_meets F.slot_tuple_mul ⟨_, ho, rfl⟩ F.entry_tuple_mul (F.args_tuple_mul_2 _ _) (mul_one l its.toArray n dd sl t) ⟨ho, ⟨.ref l, H, I, rfl, q⟩⟩⟩)
  · exact op_repT pins s σ H x y v u Q I rx ry h
theorem op2_repA {K : PySem.W.Frag} : Op2 K (rRepA K) (fun a b Q => ∃ xs n, a = .tup xs ∧ b = .int n ∧ xs ≠ [] ∧ 1 ≤ n ∧ n ≤ 1000 ∧ xs.length ≤ 1000 ∧ Q (.d (.tup (List.replicate n.toNat xs).flatten))) := fun x y a b F H Q Qd s rx ry ⟨xs, n, e1, e2, ne, h1, h2, h3, q⟩ k => by
  subst e1 e2
  cases ry
  cases rx with
  | tup s1 r1 =>
    by_cases c : n = 1
    · subst c
      have e : (List.replicate (1 : Int).toNat xs).flatten = xs := by simp
      rw [e] at q
      exact .inl ⟨_, _, rfl, rfl, SqT.of (s _ _ s1), k _ _ _ _ q (made_d s (.tup s1 r1))⟩
    · exact .inr ⟨_, _, _, rfl, rfl, SqT.of (s _ _ s1), fun e => ne ((RepL.nil_iff r1).mp e), by omega, h2, by rw [r1.len]; exact h3, fun p np => by have z := made_tup np s (r1.rep n.toNat); exact k _ _ _ _ q z⟩
end
end DL
namespace DR
open PySem PySem.Spec PyProof.Rows L2 DL
section
variable {δ : DSt} {Q : DK} {E : XD}
theorem dzip {ta : TDA} (h : ta δ (fun as δ1 => ∃ (ns : List Str) (ds : List DL.D), as = [.d (.tup (ns.map .str)), .d (.tup ds)] ∧ ds.length = ns.length ∧ ns.length ≤ 1000 ∧ ns.Nodup ∧ Q (.own (.dK ((ns.map Sum.inr : List Key).zip ds))) δ1) E) : dzipD ta δ Q E := h
theorem getK {to ti : TD} (h : to δ (fun o δ1 => ti δ1 (fun k δ2 => ∃ kvs key d, o.toD = .dK kvs ∧ k.toD = keyOne key ∧ valK kvs key = some d ∧ Q (.d d) δ2) E) E) : DL.getK to ti δ Q E := h
theorem index {to : TD} {ta : TDA} (h : to δ (fun x δ1 => ∃ ns : List Str, x.toD = .lst (ns.map .str) ∧ ta δ1 (fun as δ2 => ∃ (z : Str) (j : Nat), as = [.d (.str z)] ∧ ns[j]? = some z ∧ (∀ m, m < j → ns[m]? ≠ some z) ∧ Q (.d (.int j)) δ2) E) E) : indexD to ta δ Q E := h
end
end DR

set_option Elab.async false
set_option linter.all false
set_option maxRecDepth 100000
set_option maxHeartbeats 2000000
/-! DL41: f(a, *xs) of a def with a star; sum of a list of numbers -/
namespace DL
open PySem PySem.Spec PyProof.Rows L2
theorem args_app {K : PySem.W.Frag} {F : Hp} {σ : L2.St} {ws : List V} {as : List AV} (h : RepArgs K F σ ws as) : ∀ {vs : List V} {ds : List D}, RepL K F vs ds → RepArgs K F σ (vs ++ ws) (ds.map .d ++ as)
  | _, _, .nil => h
  | _, _, .cons r t => .d r (args_app h t)
/-- *e in an argument list -/
def starA (t : TD) (r : TDA) : TDA := fun δ Q E => t δ (fun x δ1 => ∃ xs, (x.toD = .tup xs ∨ x.toD = .lst xs) ∧ r δ1 (fun as δ2 => Q (xs.map .d ++ as) δ2) E) E
section
variable {X : Cx} {c : Fc} {W : WX}
theorem pda_star {e : Expr} {es : List Expr} {p : Pos} {t : TD} {r : TDA} (he : PE X e (LE X.K c W t)) (hr : PA X es (LA X.K c W r)) (hs : starEach (.Starred e p :: es) X.env = (true, eval e X.env) :: starEach es X.env := by rfl) : PA X (.Starred e p :: es) (LA X.K c W (starA t r)) :=
  PA_imp (StX.pa_star he hr hs) fun σ H Q ⟨δ, tmp, Qd, Ed, S, t, k, w⟩ => ⟨δ, tmp, _, Ed, S, t, fun v x δ1 H1 ⟨xs, ex, q1⟩ ⟨F, ow, S1⟩ => by
    obtain ⟨F', S2, _⟩ := S1.top_frz
    obtain ⟨q, vs, rfl, hq, hv⟩ : ∃ q vs, v = .ref q ∧ (SqT X.K H1 q vs ∨ SqL X.K H1 q vs) ∧ RepL X.K F' vs xs := by
      rcases ex with e | e <;> rw [e] at S2 <;> have r := S2.top
      · cases r with | tup s1 r1 => exact ⟨_, _, rfl, .inl (SqT.of (S2.fh _ _ s1)), r1⟩
      · cases r with | lst s1 r1 => exact ⟨_, _, rfl, .inr (SqL.of (S2.fh _ _ s1)), r1⟩
    refine ⟨q, vs, rfl, hq, δ1, _, _, Ed, ⟨F', ow, S2.pop.pushL hv⟩, q1, fun ws as δ2 F2 ow2 H2 q2 S3 ra => ?_, w.pushL⟩
    obtain ⟨h1, h2⟩ := SttF.popL hv.len S3
    exact k _ _ _ _ _ _ q2 h2 (args_app ra h1), w⟩
end
section
variable {X : Cx} {c : Fc} {W : WX}
variable {k : Nat} {f C : Addr} {sd : SpD} {x m : Str} {p pos apos : Pos} {e o : Expr} {es : List Expr} {ta : TDA}
theorem pd_callRS (G : FnR X.prog X.w X.K X.mg X.base (L2.CX X.prog X.w) k f (spOf X.K sd)) (hr : Room k X.A) (hg : Gl X x) (hm : X.mg x = some (.ref f)) (kp : PySem.W.keepIn X.K (.ref f) = true) (tk0 : Takes X W) (ha : PA X (e :: es) (LA X.K c W ta))
    (hdb : (x == ("__debug__" : Str)) = false := by decide) (he : starEach (e :: es) X.env = (false, eval e X.env) :: starEach es X.env := by rfl) (hst : (backTo pos (starEach es X.env)).any (·.1) = true := by rfl) :
    PE X (.Call (.Name x p) (e :: es) [] pos) (LE X.K c W (callRD sd ta)) :=
  PE_imp (pe_callRS (E := WE W) G hr hg hm kp (fun τ => passAt tk0 τ) ha hdb he hst) lift_R
end
/-! ### if xs: a tuple or a list -/
def tseqD (t : TD) : TDT := fun δ Q E => t δ (fun x δ1 => ∃ xs, (x.toD = .tup xs ∨ x.toD = .lst xs) ∧ Q (!xs.isEmpty) δ1) E
section
variable {X : Cx} {c : Fc} {W : WX}
theorem repL_nil {K : PySem.W.Frag} {F : Hp} : ∀ {vs : List V} {xs : List D}, RepL K F vs xs → vs.isEmpty = xs.isEmpty
  | _, _, .nil => rfl
  | _, _, .cons _ _ => rfl
theorem ptd_seq {e : Expr} {t : TD} (he : PE X e (LE X.K c W t)) (h : ∀ whole, isTrue e X.env whole = (do let v ← whole; standAt e.pos; holding [v] (truthy v)) := by intro _; rfl) : PT X e (LT X.K c W (tseqD t)) :=
  PT_imp (pt_truth he h) fun σ H Q ⟨δ, tmp, Qd, Ed, S, q, k, w⟩ => ⟨δ, tmp, _, Ed, S, q, fun v x δ1 H1 ⟨xs, ex, q1⟩ ⟨F, ow, S1⟩ => by
    obtain ⟨F', S2, _⟩ := S1.top_frz
    rcases ex with e | e <;> rw [e] at S2 <;> have r := S2.top
    · cases r with | tup s1 r1 => exact ⟨!xs.isEmpty, .inr (.inl ⟨_, SqT.of (S2.fh _ _ s1), by rw [repL_nil r1]⟩), k _ _ _ q1 ⟨F', ow, S2.pop⟩⟩
    · cases r with | lst s1 r1 => exact ⟨!xs.isEmpty, .inl ⟨_, SqL.of (S2.fh _ _ s1), by rw [repL_nil r1]⟩, k _ _ _ q1 ⟨F', ow, S2.pop⟩⟩, w⟩
end
end DL
namespace DR
open PySem PySem.Spec PyProof.Rows L2 DL
variable {δ : DSt} {E : XD}
theorem tseq {t : TD} {Q : Bool → DSt → Prop} (h : t δ (fun x δ1 => ∃ xs, (x.toD = .tup xs ∨ x.toD = .lst xs) ∧ Q (!xs.isEmpty) δ1) E) : DL.tseqD t δ Q E := h
theorem starA {t : TD} {r : TDA} {Q : List AV → DSt → Prop} (h : t δ (fun x δ1 => ∃ xs, (x.toD = .tup xs ∨ x.toD = .lst xs) ∧ r δ1 (fun as δ2 => Q (xs.map .d ++ as) δ2) E) E) : DL.starA t r δ Q E := h
end DR

set_option Elab.async false
set_option linter.all false
set_option maxRecDepth 100000
/-! comprehensions whose body may raise: the exception leaves the block, and then the def or a try of it -/
namespace L2
open PySem PySem.Spec PyProof.Rows
section
variable {M : Model} {A : Around} {E : Value → Shared → Prop} {s : Shared} {env : Env}
/-- what is wished behind the block, its environment known -/
def postX (M : Model) (A : Around) (E : Value → Shared → Prop) (use : Option (Value → Sem Unit)) (Q : Value → Shared → Prop) (acc : Value) (ce : Env) (r : Result) (s' : Shared) : Prop :=
  match r with
  | .ok f => compPost M A E use Q acc ce.locals (.ok f) s'
  | .error x => ∃ m, s'.heap.Ns ce.locals m ∧
      ∀ h', Heap.SameBut ce.locals s'.heap h' →
        wpAny M A (passOn "comprehension.variables-let-go" x ce : Sem Value) (fun _ _ => False) E { s' with heap := h' }
theorem comp_postX {e : Expr} {scope : Scope} {pos : Pos} {newAcc first : Sem Value} {g : Comprehension} {gs : List Comprehension} {cl : List (Str × Addr)}
    {use : Option (Value → Sem Unit)} {Q : Value → Shared → Prop} (hcl : clausesOf e = g :: gs) (hs : ∀ x, foldedSetIterable g.iter env x = pure x)
    (hclos : closureFor scope env = pure cl) (hkind : scope.kind = .function)
    (hnames : ∀ x ∈ scope.names, x.2 = .local → scope.names.lookup x.1 = some .local)
    (h : wpAny M A first (fun x s₁ => wpAny M A (pyIter x) (fun it s₂ =>
      wpAny M A newAcc (fun acc s₃ =>
        wpAny M A (newFunctionEnv scope env.globals cl [] env.qual none .none (some env)) (fun ce s₄ =>
          codeAny M A (.compStart e 0 it acc { ce with scope := relabel scope env })
            (postX M A E use Q acc { ce with scope := relabel scope env }) s₄) E s₃) E s₂) E s₁) E s) :
    wpAny M A (comprehension e scope env pos newAcc false first use) Q E s := by
  have on : ∀ {α : Type} {t : Sem α} {P : α → Shared → Prop} {s : Shared}, wpAny M A t P E s → wpAny M A t P E s := fun h => h
  unfold comprehension
  rw [hclos, hcl]
  refine wpAny_bind (wpAny_mono h (fun x s₁ h₁ => ?_) fun _ _ z => z)
  refine wpAny_bind (wpAny_standAt (wpAny_bind (wpAny_of_eq (hs x) (wpAny_bind (wpAny_holding ?_)))))
  refine wpAny_mono h₁ (fun it s₂ h₂ => ?_) fun _ _ z => z
  refine wpAny_standIf (wpAny_bind (wpAny_mono h₂ (fun acc s₃ h₃ => ?_) fun _ _ z => z))
  refine wpAny_bind (wpAny_pure (wpAny_bind (wpAny_mono h₃ (fun ce s₄ h₄ => ?_) fun _ _ z => z)))
  dsimp only
  have ofL : ∀ x ∈ scope.names, x.2 = .local → Env.kindOf { ce with scope := relabel scope env } x.1 = some .local :=
    fun x hx hl => lookup_relabel_local (hnames x hx hl)
  have inL : ∀ {x}, x ∈ (scope.names.filter fun x => (x.2 == .local || x.2 == .cell) && x.1 != (".0" : Str)).reverse → x ∈ scope.names :=
    fun hx => (List.mem_filter.mp (List.mem_reverse.mp hx)).1
  refine wpAny_holding (wpAny_bind (wpAny_attempt (wpAny_holding (wpAny_run (codeAny_mono h₄ fun r s' hr => ?_)))))
  cases r with
  | ok f =>
    cases use with
    | none =>
      obtain ⟨m, hn, hr⟩ := hr
      refine wpAny_bind (wpAny_holding ?_)
      exact wpAny_comp_letGo (cenv := { ce with scope := relabel scope env }) hkind _ s' m (fun x hx => ofL x (inL hx)) hn
        fun h' m' _ hs' => wpAny_pure (hr h' hs')
    | some u =>
      refine wpAny_bind (wpAny_rule (wpAny_bind (wpAny_holding ?_)))
      refine wpAny_mono hr (fun _ s'' hr' => ?_) fun _ _ z => z
      obtain ⟨m, hn, hr'⟩ := hr'
      refine wpAny_bind ?_
      exact wpAny_comp_letGo (cenv := { ce with scope := relabel scope env }) hkind _ s'' m
        (fun x hx => ofL x ((List.mem_append.mp hx).elim (fun z => inL (List.mem_of_mem_drop z)) fun z => inL (List.mem_of_mem_take z))) hn
        fun h' m' _ hs' => wpAny_pure (hr' h' hs')
  | error x =>
    obtain ⟨m, hn, hr⟩ := hr
    refine wpAny_bind (wpAny_holding ?_)
    exact wpAny_comp_letGo (cenv := { ce with scope := relabel scope env }) hkind _ s' m (fun x hx => ofL x (inL hx)) hn
      fun h' m' _ hs' => wpAny_mono (hr h' hs') (fun _ _ f => f.elim) fun _ _ z => z
end
section
variable {M : Model} {A : Around} {E : Value → Shared → Prop} {s : Shared} {env : Env} {base : Heap} {outer : List Env} {e L : Addr} {Z : Obj → Prop} {fl : Value}
/-- noted in the frame L, whatever flight it was on -/
theorem notes_on {Q : Unit → Shared → Prop} (hZ : HandSPX.Steady Z) (hfr : A.frames = some (env :: outer)) (hf : env.frame = some L) (nf : (fl == rawInt L) = false)
    (hkb : base.StaysIn s.heap) (hen : base.get? e = none) (hl : s.heap.FunFrames base (env :: outer)) (tr : HandSPX.TracedZ s.heap base e Z fl)
    (hQ : ∀ h', HandSPX.HeldZ base (env :: outer) e Z L h' → s.heap.UpToSlots h' → Q () { s with heap := h' }) : wpAny M A (noteFrame (.ref e) env) Q E s := by
  obtain ⟨oe, vs, T, oT, ts, he, hz, hd, h1, hnT, hTe, hT, hdT, h3⟩ := tr
  have keep : ∀ b, b ≠ T → (s.heap.update T (Obj.mapFields (·.setIfInBounds 3 Value.none))).get? b = s.heap.get? b :=
    fun b hb => Heap.get?_update_other _ _ fun q => hb q.symm
  have apart : ∀ b o, s.heap.get? b = some o → (∀ vs, o.data ≠ .fields vs) → b ≠ T := fun b o hb hnf q => by
    subst q
    rw [hT] at hb
    cases hb
    exact hnf _ hdT
  unfold noteFrame
  simp only [hf]
  refine wpAny_bind (wpAny_field he hd h1 ?_)
  rw [if_pos (show (Value.ref T != Value.none) = true from by simp)]
  refine wpAny_bind (wpAny_field hT hdT h3 ?_)
  rw [nf, if_neg Bool.false_ne_true]
  refine wpAny_bind (wpAny_setField hT hdT (Array.getElem?_eq_some_iff.mp h3).1 ?_)
  refine HandSPX.wpAny_entryZ (oe := oe) (vs := vs) hZ hfr ?_ hf ?_ ?_ hen hd (Array.getElem?_eq_some_iff.mp h1).1 hz fun h' hN => ?_
  · exact hl.of_keeps fun b o hb hnf => ⟨o, by rw [keep b (apart b o hb hnf)]; exact hb, rfl⟩
  · rw [keep e fun z => hTe z.symm]
    exact he
  · intro b o hb
    rw [keep b fun q => by rw [q, hnT] at hb; cases hb]
    exact hkb b o hb
  · obtain ⟨x1, x2, x3, x4⟩ := hN
    refine hQ h' ⟨x1, hen, x2, x3⟩ fun b o hb hnf => x4 b o ?_ hnf
    rw [keep b (apart b o hb hnf)]
    exact hb
end
/-- an exception of the block is noted -/
theorem Sky.note {M : Model} {A : Around} {E : Value → Shared → Prop} {s : Shared} {env ce : Env} {outer : List Env} {B : Heap} {a L C : Addr} {Z : Obj → Prop} {Q : Unit → Shared → Prop} (hZ : HandSPX.Steady Z) (hfr : A.frames = some (env :: outer)) (hf : env.frame = some L)
    (hce : ce.frame = env.frame) (hC : C ≠ L) (x : Sky B (env :: outer) a Z C s.heap) (hQ : ∀ h', HandSPX.HeldZ B (env :: outer) a Z L h' → s.heap.UpToSlots h' → Q () { s with heap := h' }) :
    wpAny M A (noteFrame (.ref a) ce) Q E s := by
  have e : noteFrame (.ref a) ce = noteFrame (.ref a) env := by
    unfold noteFrame PySem.frameOf
    rw [hce]
  rw [e]
  rcases x with ⟨hB, hn, hl, oe, vs, he, hz, hd, h1⟩ | ⟨f1, f2, f3, f4⟩ | ⟨f1, f2, f3, f4⟩
  · exact HandSPX.look_newZ hZ hfr hl hf he hB hn hd h1 hz hQ
  · exact notes_on hZ hfr hf (by simp [rawInt]) f1 f2 f3 f4 hQ
  · refine notes_on hZ hfr hf ?_ f1 f2 f3 f4 hQ
    have : rawInt C ≠ rawInt L := fun z => hC (Int.ofNat.inj (by simpa [rawInt] using z))
    simpa using this
end L2
namespace L2
open PySem PySem.Spec PyProof.Rows
section
variable {X : Cx}
/-- the block's context, a wish for what is raised with it -/
abbrev Cx.blkX (X : Cx) (s : Shared) (H : Hp) (scope : Scope) (ce : Env) (fp : List Addr) (xe : Value → Shared → Prop) : Cx := (X.blk s H scope ce fp).tr [] xe
def tLcX (W : WX) (wi : TI) (g : TG) (tt : WX → TT) (te : WX → TE) (vs : List Nat) : TE := fun σ H Q =>
  wi σ H fun J H1 => ∀ D, H1 D = none → ∃ W' : WX, (∀ cls d σ' H', W' cls d σ' H' → W cls d σ H') ∧
    ∃ I : Nat → Nat → Hp → Prop, (∃ m, I 0 m (upd H1 D (.lst []))) ∧ ∀ i m H, I i m H → (J.stop i H ∧ Q (.ref D) H) ∨
      (J.go i H ∧ ∃ Nx : Hp → Prop, (∀ H', Nx H' → ∃ m', m' < m ∧ I (i + 1) m' H') ∧ ∀ x H', J.yld i H x H' → g x (wipe σ vs) H' fun σ2 H2 =>
        wipe σ2 vs = wipe σ vs ∧ tt W' σ2 H2 fun b H3 => if b = true then te W' σ2 H3 (fun y H4 => ∃ acc, H4 D = some (.lst acc) ∧ acc.length < sizeLine ∧ Nx (upd H4 D (.lst (acc ++ [y])))) else Nx H3)
theorem Inv.toX {s : Shared} {H : Hp} {scope : Scope} {ce : Env} {fp : List Addr} {xe : Value → Shared → Prop} {pins : List (Addr × Obj)} {σ : St} {H' : Hp} {s' : Shared} (I : Inv (X.blk s H scope ce fp) pins σ H' s') : Inv (X.blkX s H scope ce fp xe) pins σ H' s' :=
  ⟨I.ok.toTry [] xe, I.os, I.bare, I.base, I.loc, I.cell, I.free, I.freeC, I.pin, I.hok, I.len⟩
theorem funFrames_at {B B' h h' : Heap} : ∀ {l : List Env}, h.FunFrames B l → (∀ L ∈ frs l, h'.get? L = h.get? L ∧ (B.get? L = none → B'.get? L = none)) → h'.FunFrames B' l
  | [], _, _ => trivial
  | env :: l, k, hn => by
    obtain ⟨hk, ⟨L, o, hf, hb, ho, hd⟩, hr⟩ := k
    have hL := hn L (List.mem_filterMap.mpr ⟨env, List.mem_cons_self, hf⟩)
    refine ⟨hk, ⟨L, o, hf, hL.2 hb, hL.1.trans ho, hd⟩, funFrames_at hr fun b hb => ?_⟩
    obtain ⟨e, he, q⟩ := List.mem_filterMap.mp hb
    exact hn b (List.mem_filterMap.mpr ⟨e, List.mem_cons_of_mem _ he, q⟩)
/-- the exception of a block is the def's: what was noted, the block's names gone -/
theorem blk_raises {W W' : WX} {pins : List (Addr × Obj)} {s3 : Shared} {H3 : Hp} {σ : St} {scope : Scope} {ce : Env} {fp : List Addr} {xe : Value → Shared → Prop} {use : Option (Value → Sem Unit)} {Qf : Value → Shared → Prop} {acc : Value} (hs : X.stack = X.env :: X.outer) (hf : X.env.frame = some X.env.locals) (hce : ce.frame = X.env.frame) (tk : Takes X W) (hW : ∀ cls d σ' H', W' cls d σ' H' → W cls d σ H')
    (I3 : Inv X pins σ H3 s3) (hC : s3.heap.objs.size ≤ ce.locals)
    (f3 : ∀ b ∈ fp, FpOk X pins H3 b) {u : Value} {s' : Shared} (x : XE (X.blkX s3 H3 scope ce fp xe) W' u s') :
    notedBy (model X.prog X.w) X.A ce (fun e s' => postX (model X.prog X.w) X.A X.xe use Qf acc ce (.error e) s') u s' := by
  obtain ⟨a, B, sI, pins', σ', H', cls, d, rfl, I, nb, up, sky, na, os, ag, w⟩ := x
  have hfr : X.A.frames = some (X.env :: X.outer) := by rw [I3.ok.frames, hs]
  have nCL : ce.locals ≠ X.env.locals := fun z => absurd (Nat.lt_of_lt_of_le I3.lt hC) (by rw [z]; exact Nat.lt_irrefl _)
  have sky' : Sky B (X.env :: X.outer) a (Zc cls d) ce.locals s'.heap := by
    rw [← hs]
    exact sky
  have fC : FpOk X pins H' ce.locals := I3.fpOk hC I.free
  show wpAny _ _ (noteFrame (.ref a) ce) _ _ _
  refine Sky.note Zc.steady hfr hf hce nCL sky' fun h1 hh up1 => ?_
  obtain ⟨k1, k2, k3, oe, vs, T, oT, ts, he, hz, hd, h1', hnT, hTe, hT, hdT, h3'⟩ := hh
  obtain ⟨m, ⟨oC, es, ep, eC, dC, sk, nf⟩, _⟩ := I.loc
  have eC1 : ∃ sl, h1.get? ce.locals = some { oC with slots := sl } := by
    have nd : ∀ vs, oC.data ≠ .fields vs := fun vs z => by rw [dC] at z; cases z
    obtain ⟨sl, q⟩ := up _ _ eC nd
    obtain ⟨sl2, q2⟩ := up1 _ _ q nd
    exact ⟨sl2, q2⟩
  obtain ⟨sl1, eC1⟩ := eC1
  refine ⟨m, ⟨_, es, ep, eC1, dC, sk, nf⟩, fun h' sb => ?_⟩
  have nA : a ≠ ce.locals := fun z => by
    rw [z, eC1] at he
    cases he
    have hd : oC.data = .fields vs := hd
    rw [dC] at hd
    cases hd
  have nT : T ≠ ce.locals := fun z => by
    rw [z, eC1] at hT
    cases hT
    have hdT : oC.data = .fields ts := hdT
    rw [dC] at hdT
    cases hdT
  have he' : h'.get? a = some oe := by rw [sb.2 a nA]; exact he
  have hT' : h'.get? T = some oT := by rw [sb.2 T nT]; exact hT
  have hid : ∀ (h : Heap) b o, (PySem.W.hideAll h [ce.locals]).get? b = some o → h.get? b = some o ∧ b ≠ ce.locals := fun h b o q =>
    ⟨PySem.W.of_hideAll _ q, fun z => by
      rw [z] at q
      rw [PySem.W.hideAll_none [ce.locals] (List.mem_singleton.mpr rfl)] at q
      cases q⟩
  have hidn : ∀ (h : Heap) b, h.get? b = none → (PySem.W.hideAll h [ce.locals]).get? b = none := fun h b q => by
    cases z : (PySem.W.hideAll h [ce.locals]).get? b with
    | none => rfl
    | some o =>
      have := (hid h b o z).1
      rw [q] at this
      cases this
  have onl : ∀ (h : Heap) b o, h.get? b = some o → b ≠ ce.locals → (PySem.W.hideAll h [ce.locals]).get? b = some o := fun h b o q n =>
    PySem.W.hideAll_get _ q fun z => n (List.mem_singleton.mp z)
  have st : (PySem.W.hideAll B [ce.locals]).StaysIn h' := fun b o q => by
    obtain ⟨q1, q2⟩ := hid B b o q
    rw [sb.2 b q2]
    exact k1 b o q1
  have nfr : ∀ b ∈ frs (X.env :: X.outer), b ≠ ce.locals := fun b hb z => by
    rw [← hs] at hb
    rcases List.mem_cons.mp (I3.stkSub b hb) with y | y
    · exact nCL (z.symm.trans y)
    · exact fC.2.2.1 (z ▸ y)
  have ff : h'.FunFrames (PySem.W.hideAll B [ce.locals]) (X.env :: X.outer) := funFrames_at k3 fun b hb => ⟨sb.2 b (nfr b hb), fun q => hidn B b q⟩
  unfold PySem.passOn
  refine wpAny_bind (wpAny_field he' hd h1' ?_)
  rw [if_neg (show ¬ ((Value.ref T == Value.none) = true) from by simp)]
  have J : Inv X pins σ H' { sI with heap := PySem.W.hideAll sI.heap [ce.locals] } := by
    have J0 : Inv X pins σ H' sI := I3.call' (ch := fp) I.os I.base I.hok I.bare fun b hb => ⟨(f3 b hb).2.2.2.1, (f3 b hb).2.1, (f3 b hb).2.2.2.2.1, (f3 b hb).2.2.2.2.2⟩
    exact J0.turned (t' := sI.toks) (it := ce.locals) (fun b o n e => onl _ b o e n) fC.1 fC.2.1 fC.2.2.2.1 fC.2.2.2.2.1 fC.2.2.2.2.2
  have fin : wpAny (model X.prog X.w) X.A (setFlight (.ref a) ce.frame) (fun _ s4 => wpAny (model X.prog X.w) X.A (throw (.ref a) : Sem Value) (fun _ _ => False) X.xe s4) X.xe { s' with heap := h' } := by
    rw [hce, hf]
    refine HandSPX.setFlight_anyZ (base := PySem.W.hideAll B [ce.locals]) (l := X.env :: X.outer) (Z := Zc cls d) (fl := rawInt X.env.locals) st ff ⟨oe, vs, T, oT, ts, he', hz, hd, h1', hidn B T hnT, hTe, hT', hdT, h3'⟩ fun h4 y1 y2 y3 up4 => wpAny_throw (tk _ _ ?_)
    refine ⟨a, PySem.W.hideAll B [ce.locals], _, pins, σ, H', cls, d, rfl, J, fun b o q hb => ?_, fun b o q hd => ?_, .inr (.inr ?_), na, os, ag, hW _ _ _ _ w⟩
    · obtain ⟨q1, q2⟩ := hid _ b o q
      exact onl _ b o (nb b o q1 hb) q2
    · obtain ⟨q1, q2⟩ := hid _ b o q
      obtain ⟨sl, z1⟩ := up b o q1 hd
      obtain ⟨sl2, z2⟩ := up1 b _ z1 hd
      have z3 : h'.get? b = _ := (sb.2 b q2).trans z2
      obtain ⟨sl4, z4⟩ := up4 b _ z3 hd
      exact ⟨sl4, z4⟩
    · rw [hs]
      exact ⟨y1, hidn B a k2, y2, y3⟩
  first
    | exact wpAny_bind (wpAny_pure (wpAny_bind fin))
    | exact wpAny_bind fin
end
end L2
namespace L2
open PySem PySem.Spec PyProof.Rows
section
variable {X : Cx} {W : WX}
theorem lcX_core {pins : List (Addr × Obj)} {s : Shared} {σ : St} {H : Hp} {Q : VK} {elt tg iter : Expr} {ifs : List Expr} {scope : Scope} {own : List (Str × Nat)} {pos pos' : Pos} {wi : TI} {g : TG} {tt : WX → TT} {te : WX → TE}
    {use : Option (Value → Sem Unit)} {Qf : Value → Shared → Prop} (hst : X.stack = X.env :: X.outer) (hfm : X.env.frame = some X.env.locals) (tk : Takes X W)
    (hc : X.calm = true) (hN : X.N.Nodup) (I : Inv X pins σ H s) (hi : PI X tg iter wi) (ok : BlkOk X.N X.env.scope scope own)
    (hg : ∀ (s : Shared) (H : Hp) (C : Addr) (cl : List (Str × Addr)) (fp : List Addr) (xe : Value → Shared → Prop),
      PG (X.blkX s H scope (compEnvC scope cl C X.env) fp xe) tg g)
    (ht : ∀ (W' : WX) (s : Shared) (H : Hp) (C : Addr) (cl : List (Str × Addr)) (fp : List Addr) (xe : Value → Shared → Prop),
      Takes (X.blkX s H scope (compEnvC scope cl C X.env) fp xe) W' → PTs (X.blkX s H scope (compEnvC scope cl C X.env) fp xe) ifs (tt W'))
    (he : ∀ (W' : WX) (s : Shared) (H : Hp) (C : Addr) (cl : List (Str × Addr)) (fp : List Addr) (xe : Value → Shared → Prop),
      Takes (X.blkX s H scope (compEnvC scope cl C X.env) fp xe) W' → PE (X.blkX s H scope (compEnvC scope cl C X.env) fp xe) elt (te W'))
    (hs : ∀ x, foldedSetIterable iter X.env x = pure x)
    (h : tLcX W wi g tt te (own.map (·.2)) σ H Q)
    (hRR : ∀ D C s' m H', Inv X pins σ H' s' → Q (.ref D) H' → s'.heap.Ns C m → FpOk X pins H' C →
      compPost (model X.prog X.w) X.A X.xe use Qf (.ref D) C (.ok .next) s') :
    wpAny (model X.prog X.w) X.A (comprehension (.ListComp elt [⟨tg, iter, ifs, 0⟩] scope pos) scope X.env pos' (newList []) false (eval iter X.env) use) Qf X.xe s := by
  have cells : ∀ y ∈ scope.names, y.2 = .free → ∃ c, X.env.cells.lookup y.1 = some c := fun y hy e =>
    (ok.free y hy e).elim (fun k => I.ok.has _ (.inl k)) fun k => I.ok.has _ (.inr k)
  refine comp_postX (use := use) rfl hs (closure_ok cells) ok.kind (fun y hy e => by rw [ok.uniq y hy, e]) ?_
  refine thn (hi.run pins s σ H _ I h) fun xv s1 hx => thn hx fun itv s2 h2 => ?_
  obtain ⟨it, fp, tn, J, H2, rfl, I2, T, st2, f2, q⟩ := h2
  refine wpAny_newObj_type (newEnv_comp ?_) (by show 0 ≤ sizeLine; decide)
  generalize hD : s2.heap.objs.size = D
  obtain ⟨W', hW, B, ⟨m0, w0⟩, turn⟩ := q D (I2.hok.fresh (Nat.le_of_eq hD))
  generalize e3 : ({ s2 with heap := s2.heap.push { cls := .type "list", data := .seq ([] : List Value).toArray } } : Shared) = s3
  have h3 : s3.heap = s2.heap.push { cls := .type "list", data := .seq ([] : List Value).toArray } := by rw [← e3]
  have I3 : Inv X pins σ (upd H2 D (.lst [])) s3 := by
    rw [← e3]
    refine I2.laid (t' := s2.toks) (fun b o e => Heap.get?_push_of_some _ e) (Nat.le_of_eq hD) ⟨Nat.zero_le _, [], 0, .nil, ?_⟩
    rw [← hD]
    exact Heap.get?_push_size _ rfl
  have f3 : ∀ b ∈ fp, FpOk X pins (upd H2 D (.lst [])) b ∧ b < s3.heap.objs.size := fun b hb => by
    obtain ⟨o, e, _⟩ := T.obj _ _ st2 b hb
    have lt := Heap.lt_size e
    refine ⟨⟨?_, (f2 b hb).2⟩, ?_⟩
    · rw [upd_ne (by rw [← hD]; exact Nat.ne_of_lt lt)]
      exact (f2 b hb).1
    · rw [h3, Heap.size_push]
      exact Nat.lt_succ_of_lt lt
  have st3 : tn 0 s3.heap := T.keep _ _ _ st2 fun b _ o e => by
    rw [h3]
    exact Heap.get?_push_of_some _ e
  have I4 := block_start I3 ok hN f3
  have hLs : X.env.locals < s3.heap.objs.size := I3.lt
  generalize hcl : cellsFrom (s3.heap.objs.size + 1) scope.names (cloFrom X.env.cells scope.names []) = cl at I4 ⊢
  show codeAny _ _ (.compStart (.ListComp elt [⟨tg, iter, ifs, 0⟩] scope pos) 0 (.ref it) (.ref D) (compEnvC scope cl s3.heap.objs.size X.env))
    (postX (model X.prog X.w) X.A X.xe use Qf (.ref D) (compEnvC scope cl s3.heap.objs.size X.env)) { s3 with heap := pushCells (s3.heap.push { cls := .type "dict", data := .dict #[] }) scope.names }
  have pg := hg s3 (upd H2 D (.lst [])) s3.heap.objs.size cl fp
  have pt := fun xe => ht W' s3 (upd H2 D (.lst [])) s3.heap.objs.size cl fp xe
  have pe := fun xe => he W' s3 (upd H2 D (.lst [])) s3.heap.objs.size cl fp xe
  have fr0 : ∀ b ∈ fp, (upd H2 D (.lst [])) b = none := fun b hb => (f3 b hb).1.1
  have nC : s3.heap.objs.size ≤ (compEnvC scope cl s3.heap.objs.size X.env).locals := Nat.le_refl _
  have cf : (compEnvC scope cl s3.heap.objs.size X.env).frame = X.env.frame := rfl
  have cL : (compEnvC scope cl s3.heap.objs.size X.env).locals = s3.heap.objs.size := rfl
  generalize compEnvC scope cl s3.heap.objs.size X.env = ce at I4 pg pt pe nC cf cL ⊢
  generalize upd H2 D (.lst []) = H3 at I3 I4 pg pt pe w0 fr0 f3
  generalize hs4 : ({ s3 with heap := pushCells (s3.heap.push { cls := .type "dict", data := .dict #[] }) scope.names } : Shared) = s4 at I4 ⊢
  have st4 : tn 0 s4.heap := T.keep _ _ _ st3 fun b _ o e => by
    rw [← hs4]
    exact pushCells_keeps _ _ _ _ (Heap.get?_push_of_some _ e)
  -- what is raised
  obtain ⟨xe, hxe⟩ : ∃ xe : Value → Shared → Prop, xe = fun u s' => XE (X.blkX s3 H3 scope ce fp fun _ _ => False) W' u s' := ⟨_, rfl⟩
  have tkB : Takes (X.blkX s3 H3 scope ce fp xe) W' := fun u s' ⟨a, B, sI, pins', σ', H', cls, d, e1, I', r⟩ => by
    rw [hxe]
    exact ⟨a, B, sI, pins', σ', H', cls, d, e1, ⟨⟨I'.ok.mod, I'.ok.kind, I'.ok.glob, I'.ok.blt, I'.ok.above, I'.ok.inj, I'.ok.has, I'.ok.cab, I'.ok.hd, I'.ok.frames, I'.ok.stk, I'.ok.exf, I'.ok.bs, I'.ok.bsz, I'.ok.noex, I'.ok.exfs, I'.ok.funs, I'.ok.frf⟩,
      I'.os, I'.bare, I'.base, I'.loc, I'.cell, I'.free, I'.freeC, I'.pin, I'.hok, I'.len⟩, r⟩
  have out : ∀ u s', xe u s' → notedBy (model X.prog X.w) X.A ce (fun e s' => postX (model X.prog X.w) X.A X.xe use Qf (.ref D) ce (.error e) s') u s' := fun u s' x => by
    rw [hxe] at x
    exact blk_raises hst hfm cf tk hW I3 nC (fun b hb => (f3 b hb).1) x
  have pt := pt xe tkB
  have pe := pe xe tkB
  have pg := pg xe
  have I4 : Inv (X.blkX s3 H3 scope ce fp xe) [] (wipe σ (own.map (·.2))) H3 s4 := I4.toX
  clear hxe tkB
  have fps : ∀ {σ' : St} {H' : Hp} {s' : Shared}, Inv (X.blkX s3 H3 scope ce fp xe) [] σ' H' s' → (∀ b ∈ fp, H' b = none) → ∀ b ∈ fp, FpOk (X.blkX s3 H3 scope ce fp xe) [] H' b := fun {σ' H' s'} I' hn b hb =>
    ⟨hn b hb, (I'.ok.exf b hb).1, I'.ok.exfs b hb, .inl hb, fun x c e => (I'.ok.exf b hb).2 x c e, fun p hp => absurd (show p ∈ ([] : List (Addr × Obj)) ++ [] from hp) (by simp)⟩
  have loop : codeAny (model X.prog X.w) X.A (.compLoop (.ListComp elt [⟨tg, iter, ifs, 0⟩] scope pos) 0 (.ref it) (.ref D) ce) (postX (model X.prog X.w) X.A X.xe use Qf (.ref D) ce) s4 := by
    refine compLoop_any (fun n s' => ∃ i H', Inv (X.blkX s3 H3 scope ce fp xe) [] (wipe σ (own.map (·.2))) H' s' ∧ tn i s'.heap ∧
      (∀ b ∈ fp, H' b = none) ∧ B i n H') ?_ m0 ⟨0, H3, I4, st4, fr0, w0⟩
    rintro n s5 ⟨i, H5, I5, st5, n5, w5⟩
    rcases turn i n H5 w5 with ⟨stop, qq⟩ | ⟨go, Nx, hNx, step⟩
    · refine thnF (T.done (X.blkX s3 H3 scope ce fp xe) rfl rfl rfl hc i [] s5 _ H5 (fun _ _ => False) I5 (fps I5 n5) st5 stop) fun r s6 ⟨hr, I6⟩ => ?_
      subst hr
      have I7 : Inv X pins σ H5 s6 := I3.call' (ch := fp) I6.os I6.base I6.hok I6.bare fun b hb =>
        let z := (f3 b hb).1.2
        ⟨z.2.2.1, z.1, z.2.2.2.1, z.2.2.2.2⟩
      obtain ⟨m, hn, _⟩ := I6.loc
      exact hRR D ce.locals s6 m H5 I7 qq hn (I3.fpOk nC I6.free)
    · refine thnF (T.item (X.blkX s3 H3 scope ce fp xe) rfl rfl rfl hc i [] s5 _ H5 (fun _ _ => False) I5 (fps I5 n5) st5 go) fun r s6 ⟨u, hr, h6⟩ => ?_
      subst hr
      refine thnF h6 fun _ s7 ⟨x, H7, I7, r7, y7, st7, n7⟩ => ?_
      refine wpAny_mono (pg.run _ s7 _ H7 x u _ (I7.pinned (fps I7 n7) (T.obj _ _ st7)) r7 (step x H7 y7)) (fun _ s8 ⟨σ8, H8, I8, hw8, q8⟩ => ?_) out
      refine wpAny_mono (pt.run _ s8 σ8 H8 _ I8 q8) (fun b s9 ⟨H9, I9, q9⟩ => ?_) out
      have next : ∀ {s' : Shared} {H' : Hp}, Inv (X.blkX s3 H3 scope ce fp xe) ([] ++ pinsAt fp s7.heap) σ8 H' s' → Nx H' →
          ∃ m, m < n ∧ ∃ i H', Inv (X.blkX s3 H3 scope ce fp xe) [] (wipe σ (own.map (·.2))) H' s' ∧ tn i s'.heap ∧ (∀ b ∈ fp, H' b = none) ∧ B i m H' := fun {s' H'} I' nx => by
        obtain ⟨m', hm, w'⟩ := hNx H' nx
        have pin' : ∀ b ∈ fp, ∀ o, s7.heap.get? b = some o → s'.heap.get? b = some o ∧ H' b = none := fun b hb o e =>
          let z := I'.pin (b, o) (List.mem_append_right _ (List.mem_append_right _ (mem_pinsAt hb e)))
          ⟨z.1, z.2.1⟩
        refine ⟨m', hm, i + 1, H', (I'.unpinned (pins := [])).weak (by rw [← hw8, wipe_length]) (fun j v e => ?_), T.keep _ _ _ st7 fun b hb o e => (pin' b hb o e).1, fun b hb => ?_, w'⟩
        · rw [← hw8] at e
          exact (wipe_some e).1
        · obtain ⟨o, e, _⟩ := T.obj _ _ st7 b hb
          exact (pin' b hb o e).2
      cases b with
      | false => exact next I9 q9
      | true =>
        have q9 : te W' σ8 H9 (fun y H4 => ∃ acc, H4 D = some (.lst acc) ∧ acc.length < sizeLine ∧ Nx (upd H4 D (.lst (acc ++ [y])))) := q9
        refine wpAny_mono (pe.run _ s9 σ8 H9 _ I9 q9) (fun z s10 ⟨yv, H10, I10, r10, acc, hD10, hz10, nx⟩ => ?_) out
        exact app_ok (X := X.blkX s3 H3 scope ce fp xe) I10 hD10 hz10 r10 fun s11 I11 => next I11 nx
  exact codeAny_compStart_list loop (T.self X.A 0 _ _ _ st4 loop)
end
end L2
namespace L2
open PySem PySem.Spec PyProof.Rows
section
variable {X : Cx} {W : WX} {elt tg iter : Expr} {ifs : List Expr} {scope : Scope} {own : List (Str × Nat)} {pos : Pos} {wi : TI} {g : TG} {tt : WX → TT} {te : WX → TE}
/-- as a value -/
theorem pe_lcX (hst : X.stack = X.env :: X.outer) (hfm : X.env.frame = some X.env.locals) (tk : Takes X W) (hc : X.calm = true) (hN : X.N.Nodup) (hi : PI X tg iter wi) (ok : BlkOk X.N X.env.scope scope own)
    (hg : ∀ (s : Shared) (H : Hp) (C : Addr) (cl : List (Str × Addr)) (fp : List Addr) (xe : Value → Shared → Prop),
      PG (X.blkX s H scope (compEnvC scope cl C X.env) fp xe) tg g)
    (ht : ∀ (W' : WX) (s : Shared) (H : Hp) (C : Addr) (cl : List (Str × Addr)) (fp : List Addr) (xe : Value → Shared → Prop),
      Takes (X.blkX s H scope (compEnvC scope cl C X.env) fp xe) W' → PTs (X.blkX s H scope (compEnvC scope cl C X.env) fp xe) ifs (tt W'))
    (he : ∀ (W' : WX) (s : Shared) (H : Hp) (C : Addr) (cl : List (Str × Addr)) (fp : List Addr) (xe : Value → Shared → Prop),
      Takes (X.blkX s H scope (compEnvC scope cl C X.env) fp xe) W' → PE (X.blkX s H scope (compEnvC scope cl C X.env) fp xe) elt (te W'))
    (hs : ∀ x, foldedSetIterable iter X.env x = pure x := by intro _; rfl) : PE X (.ListComp elt [⟨tg, iter, ifs, 0⟩] scope pos) (tLcX W wi g tt te (own.map (·.2))) := by
  refine ⟨fun pins s σ H Q I h => ?_⟩
  rw [eval_ListComp]
  refine lcX_core hst hfm tk hc hN I hi ok hg ht he hs h fun D C s' m H' I' q hn f => ⟨m, hn, fun h'' sb => ?_⟩
  exact ⟨.ref D, H', I'.turned (t' := s'.toks) (fun b o hb e => (sb.2 b hb).trans e) f.1 f.2.1 f.2.2.2.1 f.2.2.2.2.1 f.2.2.2.2.2, rfl, q⟩
/-- name = [..] on one line -/
theorem ps_setLcX {i : Nat} {y : Str} {py spos : Pos} (hst : X.stack = X.env :: X.outer) (hfm : X.env.frame = some X.env.locals) (tk : Takes X W) (hc : X.calm = true) (hN : X.N.Nodup) (hy : X.N[i]? = some y) (hyl : X.env.scope.names.lookup y = some .local)
    (hsw : swapsWith (.ListComp elt [⟨tg, iter, ifs, 0⟩] scope pos) (some (.Name y py)) spos.line X.env = pure true) (hi : PI X tg iter wi) (ok : BlkOk X.N X.env.scope scope own)
    (hg : ∀ (s : Shared) (H : Hp) (C : Addr) (cl : List (Str × Addr)) (fp : List Addr) (xe : Value → Shared → Prop),
      PG (X.blkX s H scope (compEnvC scope cl C X.env) fp xe) tg g)
    (ht : ∀ (W' : WX) (s : Shared) (H : Hp) (C : Addr) (cl : List (Str × Addr)) (fp : List Addr) (xe : Value → Shared → Prop),
      Takes (X.blkX s H scope (compEnvC scope cl C X.env) fp xe) W' → PTs (X.blkX s H scope (compEnvC scope cl C X.env) fp xe) ifs (tt W'))
    (he : ∀ (W' : WX) (s : Shared) (H : Hp) (C : Addr) (cl : List (Str × Addr)) (fp : List Addr) (xe : Value → Shared → Prop),
      Takes (X.blkX s H scope (compEnvC scope cl C X.env) fp xe) W' → PE (X.blkX s H scope (compEnvC scope cl C X.env) fp xe) elt (te W'))
    (hs : ∀ x, foldedSetIterable iter X.env x = pure x := by intro _; rfl) :
    PS X (.Assign [.Name y py] (.ListComp elt [⟨tg, iter, ifs, 0⟩] scope pos) spos) (tAsg (tLcX W wi g tt te (own.map (·.2))) (gName i)) := by
  refine ⟨fun pins s σ H D I h => ?_⟩
  rw [exec_Assign_Name_used _ _ _ _ hsw]
  refine wpAny_bind (wpAny_standAt (wpAny_bind (wpAny_bind ?_)))
  have h : tLcX W wi g tt te (own.map (·.2)) σ H (fun x H1 => gName i x σ H1 D.nx) := h
  refine thn (lcX_core (use := some (assign (.Name y py) X.env)) (Qf := fun _ s' => SP X pins D .next s') hst hfm tk hc hN I hi ok hg ht he hs h fun L C s' m H' I' q hn f => ?_) fun _ s' hq => wpAny_pure (wpAny_pure hq)
  refine wpAny_assign_Name (store_ok2 (v := V.ref L) I' hN hy (.inl hyl) rfl (fun s2 I2 ⟨a, sb, ha⟩ => ?_) (.inr hyl))
  have nCa : C ≠ a := fun z => by
    rcases ha with e | e
    · exact f.2.1 (z.trans e)
    · exact f.2.2.2.2.1 y a e z.symm
  refine ⟨m, hn.sameBut sb nCa, fun h3 sb3 => ?_⟩
  exact ⟨_, H', I2.turned (t' := s2.toks) (fun b o hb e => (sb3.2 b hb).trans e) f.1 f.2.1 f.2.2.2.1 f.2.2.2.2.1 f.2.2.2.2.2, q⟩
end
end L2

set_option Elab.async false
set_option linter.all false
set_option maxRecDepth 100000
namespace DL
open PySem PySem.Spec PyProof.Rows L2
/-- what is known behind an exception of a block: the data as it was ahead -/
def outX (δ : DSt) : DSt := δ.map fun o => match o with
  | some (.d x) => some (.d x)
  | _ => none
def lcXD (g : TDG) (tt : TDT) (te : TD) (vs : List Nat) (E : XD) : List DL.D → List DL.D → DSt → (List DL.D → DSt → Prop) → Prop
  | [], acc, δ, Q => Q acc δ
  | x :: xs, acc, δ, Q => g x δ fun δ1 => tt δ1 (fun b δ2 => if b = true then te δ2 (fun y δ3 => acc.length < sizeLine ∧ lcXD g tt te vs E xs (acc ++ [y.toD]) (wipeD δ3 vs) Q) E
    else lcXD g tt te vs E xs acc (wipeD δ2 vs) Q) E
def compXD (ti : TDI) (g : TDG) (tt : TDT) (te : TD) (vs : List Nat) : TD := fun δ Q E => ti δ (fun xs δ1 => lcXD g tt te vs (fun x _ => E x (outX δ1)) xs [] (wipeD δ1 vs) fun acc δ2 => Q (.own (.lst acc)) δ2) E
section
variable {K : PySem.W.Frag} {c : Fc} {F F' H H' : Hp} {ow ow' : Addr → Option Hold} {δ δ' : DSt} {tmp : List (V × DV)} {σ σ' : L2.St}
theorem outX_get {i : Nat} {x : DV} (h : (outX δ)[i]? = some (some x)) : ∃ y, x = .d y ∧ δ[i]? = some (some (.d y)) := by
  unfold outX at h
  rw [List.getElem?_map] at h
  cases q : δ[i]? with
  | none => rw [q] at h; cases h
  | some o =>
    rw [q] at h
    match o with
    | none => cases h
    | some (.own _) => cases h
    | some (.d y) => cases h; exact ⟨y, rfl, rfl⟩
/-- the data of a state, as values -/
theorem SttF.stash (S : SttF K c F ow δ tmp σ H) : ∃ vs ds, RepL K F vs ds ∧ ∀ (i : Nat) (x : D), δ[i]? = some (some (.d x)) → ∃ (n : Nat) (v : V), σ[i]? = some (some v) ∧ vs[n]? = some v ∧ ds[n]? = some x := by
  have go : ∀ m, ∃ vs ds, RepL K F vs ds ∧ ∀ (i : Nat) (x : D), i < m → δ[i]? = some (some (.d x)) → ∃ (n : Nat) (v : V), σ[i]? = some (some v) ∧ vs[n]? = some v ∧ ds[n]? = some x := fun m => by
    induction m with
    | zero => exact ⟨[], [], .nil, fun i x h => absurd h (Nat.not_lt_zero _)⟩
    | succ m ih =>
      obtain ⟨vs, ds, r, h⟩ := ih
      by_cases hx : ∃ x, δ[m]? = some (some (.d x))
      · obtain ⟨x, hx⟩ := hx
        obtain ⟨v, e, rv⟩ := S.sl m _ hx
        refine ⟨v :: vs, x :: ds, .cons rv r, fun i y hi q => ?_⟩
        by_cases z : i = m
        · subst z
          rw [hx] at q; cases q
          exact ⟨0, v, e, rfl, rfl⟩
        · obtain ⟨n, u, e1, e2, e3⟩ := h i y (by omega) q
          exact ⟨n + 1, u, e1, e2, e3⟩
      · refine ⟨vs, ds, r, fun i y hi q => ?_⟩
        by_cases z : i = m
        · subst z; exact absurd ⟨y, q⟩ hx
        · exact h i y (by omega) q
  obtain ⟨vs, ds, r, h⟩ := go δ.length
  refine ⟨vs, ds, r, fun i x q => h i x ?_ q⟩
  rcases Nat.lt_or_ge i δ.length with z | z
  · exact z
  · rw [List.getElem?_eq_none z] at q; cases q
theorem RepL.at {vs : List V} {ds : List D} (r : RepL K F vs ds) : ∀ {n : Nat} {v : V} {x : D}, vs[n]? = some v → ds[n]? = some x → Rep K F v x := by
  intro n
  induction n generalizing vs ds with
  | zero =>
    intro v x h k
    cases r with
    | nil => cases h
    | cons h1 t => cases h; cases k; exact h1
  | succ n ih =>
    intro v x h k
    cases r with
    | nil => cases h
    | cons h1 t => exact ih t h k
/-- back in the outer state -/
theorem SttF.out {F0 H0 : Hp} {ow0 : Addr → Option Hold} {tmp0 : List (V × DV)} (S0 : SttF K c F0 ow0 δ tmp0 σ H0) {vs : List V} {ds : List D} (st : ∀ (i : Nat) (x : D), δ[i]? = some (some (.d x)) → ∃ (n : Nat) (v : V), σ[i]? = some (some v) ∧ vs[n]? = some v ∧ ds[n]? = some x)
    (S : SttF K c F ow δ' tmp σ' H) (r : RepL K F vs ds) : SttF K c F ow (outX δ) tmp σ H := by
  refine { S with len := ?_, sl := fun i x q => ?_, ps := S0.ps }
  · rw [S0.len]
    unfold outX
    rw [List.length_map]
  · obtain ⟨y, rfl, e⟩ := outX_get q
    obtain ⟨n, v, e1, e2, e3⟩ := st i y e
    exact ⟨v, e1, r.at e2 e3⟩
end
section
variable {X : Cx} {c : Fc} {W : WX}
theorem lift_compX {K : PySem.W.Frag} {ti : TDI} {g : TDG} {tt : TDT} {te : TD} {vs : List Nat} (hv : ∀ i ∈ vs, i ∉ c.sl) : ∀ σ H Q, LE K c W (compXD ti g tt te vs) σ H Q →
    tLcX W (LI K c W ti) (LG K c vs g) (fun W' => LT K c W' tt) (fun W' => LE K c W' te) vs σ H Q := fun σ H Q ⟨δ, tmp, Qd, Ed, S, q, k, w⟩ => by
  refine ⟨δ, tmp, _, _, S, q, fun J v src items δ1 H1 q1 sv ⟨F1, ow1, S1⟩ => ?_, w⟩
  intro D nD
  obtain ⟨zs, ds, rz, st⟩ := S1.stash
  have S1' := S1.push (Rep.gho rz)
  have S2 := (S1'.wipe hv).pushNew (o := .lst []) nD ⟨[], upd_same, .nil⟩
  refine ⟨fun cls d _ H' => W cls d σ H', fun _ _ _ _ z => z, fun i m H => m = items.length - i ∧ i ≤ items.length ∧ ∃ δ acc, Stt K c (wipeD δ vs) ((.ref D, .own (.lst acc)) :: (.int 0, .d (.gho zs ds)) :: (v, .d src) :: tmp) (wipe σ vs) H ∧ lcXD g tt te vs (fun x _ => Ed x (outX δ1)) (items.drop i) acc (wipeD δ vs) fun acc δ2 => Qd (.own (.lst acc)) δ2,
    ⟨items.length, by simp, Nat.zero_le _, δ1, [], ⟨_, _, S2⟩, q1⟩, ?_⟩
  have wd : ∀ {acc : List DL.D}, WD K c (fun cls d _ H' => W cls d σ H') ((.ref D, .own (.lst acc)) :: (.int 0, .d (.gho zs ds)) :: (v, .d src) :: tmp) fun x _ => Ed x (outX δ1) := fun {acc} x δ' σ' H' F' ow' cls d hx S' er => by
    have rg : RepL K F' zs ds := by
      have := S'.tm.2.1
      cases (show Rep K F' (.int 0) (.gho zs ds) from this) with
      | gho h => exact h
    exact w x (outX δ1) σ H' F' ow' cls d hx (S1.out st S'.pop.pop.pop rg) er
  rintro i m H2 ⟨rfl, hi, δ2, acc, ⟨F2, ow2, S3⟩, q2⟩
  have src2 : Rep K F2 v src := S3.tm.2.2.1
  by_cases hlt : i < items.length
  · refine .inr ⟨sv.go i F2 H2 S3.fh src2 hlt, fun H => i + 1 ≤ items.length ∧ ∃ δ acc, Stt K c (wipeD δ vs) ((.ref D, .own (.lst acc)) :: (.int 0, .d (.gho zs ds)) :: (v, .d src) :: tmp) (wipe σ vs) H ∧ lcXD g tt te vs (fun x _ => Ed x (outX δ1)) (items.drop (i + 1)) acc (wipeD δ vs) fun acc δ2 => Qd (.own (.lst acc)) δ2,
      fun H' h => ⟨items.length - (i + 1), by omega, rfl, h⟩, fun x H' y => ?_⟩
    obtain ⟨F3, e3, r3⟩ := sv.yld i F2 H2 x H' S3.fh src2 y _ (List.getElem?_eq_getElem hlt)
    rw [List.drop_eq_getElem_cons hlt] at q2
    refine ⟨wipeD δ2 vs, (.ref D, .own (.lst acc)) :: (.int 0, .d (.gho zs ds)) :: (v, .d src) :: tmp, _, _, ⟨F3, ow2, (S3.ext e3).push r3⟩, q2, fun δ4 σ4 H4 q4 S4 hw => ?_⟩
    have hw' : wipe σ4 vs = wipe σ vs := by
      rw [hw]
      exact wipe_idem vs fun _ h => h
    refine ⟨hw', δ4, _, _, _, S4, q4, fun b δ5 H5 q5 ⟨F5, ow5, S5⟩ => ?_, wd⟩
    cases b with
    | false =>
      have S6 := S5.wipe hv
      rw [hw'] at S6
      exact ⟨hlt, δ5, acc, ⟨_, _, S6⟩, q5⟩
    | true =>
      refine ⟨δ5, _, _, _, ⟨F5, ow5, S5⟩, q5, fun u z δ6 H6 ⟨hz, q6⟩ ⟨F6, ow6, S6⟩ => ?_, wd⟩
      obtain ⟨F7, S7, s7⟩ := S6.top_frz
      obtain ⟨p', e0, _, _, _, ws, ep, rw'⟩ := S7.tm.2.1
      cases e0
      have S8 := S7.pop.writeT (o' := .lst (acc ++ [z.toD])) (ob := .lst (ws ++ [u])) ⟨_, upd_same, rw'.app (.cons S7.top .nil)⟩
      have S9 := S8.wipe hv
      rw [hw'] at S9
      exact ⟨ws, ep, by rw [rw'.len]; exact hz, hlt, δ6, _, ⟨_, _, S9⟩, q6⟩
  · have e : i = items.length := by omega
    subst e
    rw [List.drop_length] at q2
    refine .inl ⟨sv.stop _ F2 H2 S3.fh src2 (Nat.le_refl _), k _ _ _ _ q2 ?_⟩
    obtain ⟨ow4, S4⟩ := (S3.unwipe hv).down
    obtain ⟨ow5, S5⟩ := S4.down
    exact ⟨F2, ow5, S5⟩
theorem pd_lcX {elt tg iter : Expr} {ifs : List Expr} {scope : Scope} {own : List (Str × Nat)} {pos : Pos} {ti : TDI} {g : TDG} {tt : TDT} {te : TD} (hst : X.stack = X.env :: X.outer) (hfm : X.env.frame = some X.env.locals) (tk : Takes X W) (hc : X.calm = true) (hN : X.N.Nodup) (hi : PI X tg iter (LI X.K c W ti)) (ok : BlkOk X.N X.env.scope scope own)
    (hg : ∀ (s : Shared) (H : Hp) (C : Addr) (cl : List (Str × Addr)) (fp : List Addr) (xe : Value → Shared → Prop), PG (X.blkX s H scope (compEnvC scope cl C X.env) fp xe) tg (LG X.K c (own.map (·.2)) g))
    (ht : ∀ (W' : WX) (s : Shared) (H : Hp) (C : Addr) (cl : List (Str × Addr)) (fp : List Addr) (xe : Value → Shared → Prop), Takes (X.blkX s H scope (compEnvC scope cl C X.env) fp xe) W' → PTs (X.blkX s H scope (compEnvC scope cl C X.env) fp xe) ifs (LT X.K c W' tt))
    (he : ∀ (W' : WX) (s : Shared) (H : Hp) (C : Addr) (cl : List (Str × Addr)) (fp : List Addr) (xe : Value → Shared → Prop), Takes (X.blkX s H scope (compEnvC scope cl C X.env) fp xe) W' → PE (X.blkX s H scope (compEnvC scope cl C X.env) fp xe) elt (LE X.K c W' te))
    (hv : ∀ i ∈ own.map (·.2), i ∉ c.sl) (hs : ∀ x, foldedSetIterable iter X.env x = pure x := by intro _; rfl) :
    PE X (.ListComp elt [⟨tg, iter, ifs, 0⟩] scope pos) (LE X.K c W (compXD ti g tt te (own.map (·.2)))) :=
  PE_imp (pe_lcX (tt := fun W' => LT X.K c W' tt) (te := fun W' => LE X.K c W' te) hst hfm tk hc hN hi ok hg ht he hs) (lift_compX hv)
theorem psd_setLcX {i : Nat} {o : Bool} {y : Str} {py : Pos} {elt tg iter : Expr} {ifs : List Expr} {scope : Scope} {own : List (Str × Nat)} {pos spos : Pos} {ti : TDI} {g : TDG} {tt : TDT} {te : TD} (ni : i ∉ c.sl) (hst : X.stack = X.env :: X.outer) (hfm : X.env.frame = some X.env.locals) (tk : Takes X W) (hc : X.calm = true) (hN : X.N.Nodup) (hy : X.N[i]? = some y) (hyl : X.env.scope.names.lookup y = some .local)
    (hsw : swapsWith (.ListComp elt [⟨tg, iter, ifs, 0⟩] scope pos) (some (.Name y py)) spos.line X.env = pure true) (hi : PI X tg iter (LI X.K c W ti)) (ok : BlkOk X.N X.env.scope scope own)
    (hg : ∀ (s : Shared) (H : Hp) (C : Addr) (cl : List (Str × Addr)) (fp : List Addr) (xe : Value → Shared → Prop), PG (X.blkX s H scope (compEnvC scope cl C X.env) fp xe) tg (LG X.K c (own.map (·.2)) g))
    (ht : ∀ (W' : WX) (s : Shared) (H : Hp) (C : Addr) (cl : List (Str × Addr)) (fp : List Addr) (xe : Value → Shared → Prop), Takes (X.blkX s H scope (compEnvC scope cl C X.env) fp xe) W' → PTs (X.blkX s H scope (compEnvC scope cl C X.env) fp xe) ifs (LT X.K c W' tt))
    (he : ∀ (W' : WX) (s : Shared) (H : Hp) (C : Addr) (cl : List (Str × Addr)) (fp : List Addr) (xe : Value → Shared → Prop), Takes (X.blkX s H scope (compEnvC scope cl C X.env) fp xe) W' → PE (X.blkX s H scope (compEnvC scope cl C X.env) fp xe) elt (LE X.K c W' te))
    (hv : ∀ i ∈ own.map (·.2), i ∉ c.sl) (hs : ∀ x, foldedSetIterable iter X.env x = pure x := by intro _; rfl) :
    PS X (.Assign [.Name y py] (.ListComp elt [⟨tg, iter, ifs, 0⟩] scope pos) spos) (LS X.K c W (setLcD i o (compXD ti g tt te (own.map (·.2))))) :=
  PS_imp (ps_setLcX (i := i) (tt := fun W' => LT X.K c W' tt) (te := fun W' => LE X.K c W' te) hst hfm tk hc hN hy hyl hsw hi ok hg ht he hs) fun D σ H ⟨δ, tmp, Dd, S, q, k, kr, kb, kc, w⟩ => by
    show tLcX _ _ _ _ _ _ σ H fun x H1 => gName i x σ H1 D.nx
    refine lift_compX hv _ _ _ ⟨δ, tmp, _, _, S, q, fun v x δ' H' q' ⟨F, ow, S'⟩ => ?_, w⟩
    obtain ⟨F', S2⟩ := S'.top_as o
    exact k _ _ _ q' (S2.set' ni)
end
end DL
namespace DR
open PySem PySem.Spec PyProof.Rows L2 DL
theorem compX {δ : DSt} {Q : DK} {E : XD} {ti : TDI} {g : TDG} {tt : TDT} {te : TD} {vs : List Nat} (h : ti δ (fun xs δ1 => lcXD g tt te vs (fun x _ => E x (outX δ1)) xs [] (wipeD δ1 vs) fun acc δ2 => Q (.own (.lst acc)) δ2) E) : compXD ti g tt te vs δ Q E := h
/-- by what stays true -/
theorem lcX_inv {g : TDG} {tt : TDT} {te : TD} {vs : List Nat} {xs : List DL.D} {δ : DSt} {Q : List DL.D → DSt → Prop} {E : XD} (J : Nat → List DL.D → DSt → Prop) (h0 : J 0 [] δ)
    (hs : ∀ i x acc δ (N : List DL.D → DSt → Prop), xs[i]? = some x → J i acc δ → (∀ acc' δ', J (i + 1) acc' δ' → N acc' δ') →
      g x δ (fun δ1 => tt δ1 (fun b δ2 => if b = true then te δ2 (fun y δ3 => acc.length < sizeLine ∧ N (acc ++ [y.toD]) (wipeD δ3 vs)) E else N acc (wipeD δ2 vs)) E))
    (hn : ∀ acc δ, J xs.length acc δ → Q acc δ) : lcXD g tt te vs E xs [] δ Q := by
  have go : ∀ (m i : Nat) acc δ, i + m = xs.length → J i acc δ → lcXD g tt te vs E (xs.drop i) acc δ Q := fun m => by
    induction m with
    | zero =>
      intro i acc δ e h
      have e : i = xs.length := e
      subst e
      rw [List.drop_length]
      exact hn acc δ h
    | succ m ih =>
      intro i acc δ e h
      have hl : i < xs.length := by omega
      rw [List.drop_eq_getElem_cons hl]
      exact hs i _ acc δ (fun a d => lcXD g tt te vs E (xs.drop (i + 1)) a d Q) (List.getElem?_eq_getElem hl) h fun acc' δ' h' => ih (i + 1) acc' δ' (by omega) h'
  exact go xs.length 0 [] δ (Nat.zero_add _) h0
/-- the first item is the last: its turn raises -/
theorem lcX_cons {g : TDG} {tt : TDT} {te : TD} {vs : List Nat} {x : DL.D} {xs acc : List DL.D} {δ : DSt} {Q : List DL.D → DSt → Prop} {E : XD}
    (h : ∀ N : List DL.D → DSt → Prop, g x δ (fun δ1 => tt δ1 (fun b δ2 => if b = true then te δ2 (fun y δ3 => acc.length < sizeLine ∧ N (acc ++ [y.toD]) (wipeD δ3 vs)) E else N acc (wipeD δ2 vs)) E)) : lcXD g tt te vs E (x :: xs) acc δ Q :=
  h fun a d => lcXD g tt te vs E xs a d Q
/-- the items stand for others; each gives one, or the body raises and nothing of it is asked further -/
theorem lcX_mapM {α : Type} {g : TDG} {tt : TDT} {te : TD} {vs : List Nat} {l : List α} {r : α → DL.D} {δ : DSt} {Q : List DL.D → DSt → Prop} {E : XD} (f : α → DL.D)
    (hs : ∀ x (acc : List DL.D) (N : List DL.D → DSt → Prop), x ∈ l → acc.length < l.length → N (acc ++ [f x]) δ →
      g (r x) δ (fun δ1 => tt δ1 (fun b δ2 => if b = true then te δ2 (fun y δ3 => acc.length < sizeLine ∧ N (acc ++ [y.toD]) (wipeD δ3 vs)) E else N acc (wipeD δ2 vs)) E))
    (hn : Q (l.map f) δ) : lcXD g tt te vs E (l.map r) [] δ Q := by
  refine lcX_inv (fun i acc δ' => δ' = δ ∧ acc = (l.take i).map f) ⟨rfl, by rw [List.take_zero]; rfl⟩ (fun i x acc δ' N hx ⟨e1, e2⟩ k => ?_) fun acc δ' ⟨e1, e2⟩ => by subst e1; rw [e2, List.length_map, List.take_length]; exact hn
  subst e1
  obtain ⟨x, hy, rfl⟩ := map_at hx
  have hl := at_lt hy
  refine hs x acc N (List.mem_of_getElem? hy) (by rw [e2, List.length_map, List.length_take]; omega) (k _ _ ⟨rfl, ?_⟩)
  rw [List.take_succ, hy, List.map_append, ← e2]
  rfl
end DR

set_option Elab.async false
set_option linter.all false
set_option maxRecDepth 100000
/-! zip of two, each a list or a tuple, of one length -/
namespace Z2
open PySem
open PySem.Sem (wp)
def It (b : Bool) (h : Heap) (it l : Addr) (i : Nat) : Prop := if b = true then h.IsTupleIter it l i else h.IsListIter it l i
def Sq (b : Bool) (h : Heap) (l : Addr) (xs : Array Value) : Prop := if b = true then h.IsTuple l xs else h.IsList l xs
theorem keepI {b : Bool} {h h2 : Heap} {it l : Addr} {i : Nat} (z : It b h it l i) (k : ∀ o, h.get? it = some o → h2.get? it = some o) : It b h2 it l i := by
  cases b with
  | false => obtain ⟨o, a, r⟩ := (show h.IsListIter it l i from z); exact (show h2.IsListIter it l i from ⟨o, k o a, r⟩)
  | true => obtain ⟨o, a, r⟩ := (show h.IsTupleIter it l i from z); exact (show h2.IsTupleIter it l i from ⟨o, k o a, r⟩)
theorem keepL {b : Bool} {h h2 : Heap} {l : Addr} {xs : Array Value} (z : Sq b h l xs) (k : ∀ o, h.get? l = some o → h2.get? l = some o) : Sq b h2 l xs := by
  cases b with
  | false => obtain ⟨o, a, r⟩ := (show h.IsList l xs from z); exact (show h2.IsList l xs from ⟨o, k o a, r⟩)
  | true => obtain ⟨o, a, r⟩ := (show h.IsTuple l xs from z); exact (show h2.IsTuple l xs from ⟨o, k o a, r⟩)
theorem It.there {b : Bool} {h : Heap} {it l : Addr} {i : Nat} (z : It b h it l i) : ∃ o, h.get? it = some o ∧ ∀ v, o.data ≠ .cell v := by
  cases b with
  | false => obtain ⟨o, a, c, d⟩ := (show h.IsListIter it l i from z); exact ⟨o, a, fun v q => by rw [d] at q; cases q⟩
  | true => obtain ⟨o, a, c, d⟩ := (show h.IsTupleIter it l i from z); exact ⟨o, a, fun v q => by rw [d] at q; cases q⟩
section
variable {prog : Program} {w : World} {A : Around} {E : Value → Shared → Prop} {s : Shared} {p q : Bool}
theorem nextOf_item {it l : Addr} {i : Nat} {xs : Array Value} {x : Value} {Q : Value → Shared → Prop} (h1 : It p s.heap it l i) (h2 : Sq p s.heap l xs) (hx : xs[i]? = some x)
    (hQ : ∀ k, It p k it l (i + 1) → Heap.SameBut it s.heap k → Q x { s with heap := k }) : wpAny (model prog w) A (Builtin.SmallTypes.nextOf (.ref it)) Q E s := by
  cases p with
  | false => exact wpAny_nextOf_list_item (show s.heap.IsListIter it l i from h1) (show s.heap.IsList l xs from h2) hx fun k a b => hQ k (show k.IsListIter it l (i + 1) from a) b
  | true => exact RZ.nextOf_tuple_item (show s.heap.IsTupleIter it l i from h1) (show s.heap.IsTuple l xs from h2) hx fun k a b => hQ k (show k.IsTupleIter it l (i + 1) from a) b
theorem nextOf_end {it l : Addr} {i : Nat} {xs : Array Value} {Q : Value → Shared → Prop} (hh : A.handled = none) (h1 : It p s.heap it l i) (h2 : Sq p s.heap l xs) (hx : xs[i]? = none)
    (hE : ∀ k e, Heap.ExtBut it s.heap k → (∃ o, k.get? e = some o ∧ o.cls = .type "StopIteration") → E (.ref e) { s with heap := k }) : wpAny (model prog w) A (Builtin.SmallTypes.nextOf (.ref it)) Q E s := by
  cases p with
  | false => exact wpAny_nextOf_list_end hh (show s.heap.IsListIter it l i from h1) (show s.heap.IsList l xs from h2) hx hE
  | true => exact RZ.nextOf_tuple_end hh (show s.heap.IsTupleIter it l i from h1) (show s.heap.IsTuple l xs from h2) hx hE
abbrev Duo (h : Heap) (T : Addr) (a b : Value) : Prop := h.get? T = some { cls := .type "tuple", data := .seq #[a, b] }
theorem put {T : Addr} {a b x : Value} {k : Nat} {Q : Unit → Shared → Prop} (hT : Duo s.heap T a b) (h : ∀ h2, h2.get? T = some { cls := .type "tuple", data := .seq ((#[a, b] : Array Value).setIfInBounds k x) } → Heap.SameBut T s.heap h2 → Q () { s with heap := h2 }) :
    wpAny (model prog w) A (updateSeq T (·.setIfInBounds k x)) Q E s := by
  refine wpAny_updateSeq hT rfl (h _ ?_ (Heap.SameBut.update ..))
  rw [Heap.get?_update_self _ hT rfl]
  simp [Obj.mapSeq]
variable {n l1 l2 : Nat} {i : Nat} {xs ys : Array Value} {x y a b : Value}
theorem next_item {Q : Value → Shared → Prop} (g1 : l1 < n) (g2 : l2 < n) (hz : IsZip s.heap (n + 4) (n + 2) (n + 3) .none) (hI : Duo s.heap (n + 2) (.ref n) (.ref (n + 1))) (hO : Duo s.heap (n + 3) a b)
    (h1 : It p s.heap n l1 i) (h2 : It q s.heap (n + 1) l2 i) (q1 : Sq p s.heap l1 xs) (q2 : Sq q s.heap l2 ys) (e1 : xs[i]? = some x) (e2 : ys[i]? = some y)
    (hQ : ∀ k, IsZip k (n + 4) (n + 2) (n + 3) (rawInt s.heap.objs.size) → Duo k (n + 3) x y → It p k n l1 (i + 1) → It q k (n + 1) l2 (i + 1) → Duo k s.heap.objs.size x y → k.objs.size = s.heap.objs.size + 1 →
      (∀ d o, d ≠ n + 4 → d ≠ n + 3 → d ≠ n → d ≠ n + 1 → s.heap.get? d = some o → k.get? d = some o) → Q (.ref s.heap.objs.size) { s with heap := k }) :
    wpAny (model prog w) A (Builtin.«zip.__next__» ⟨[.ref (n + 4)], []⟩) (fun fin t => ∃ v, fin = .done (.ret v) ∧ Q v t) E s := by
  show wpAny _ _ (field (.ref (n + 4)) 2 >>= _) _ _ s
  refine wpAny_bind (wpAny_field hz rfl (x := .bool false) rfl ?_)
  show wpAny _ _ (field (.ref (n + 4)) 3 >>= _) _ _ s
  refine wpAny_bind (wpAny_field hz rfl (x := .ref (n + 2)) rfl (wpAny_bind (wpAny_seqItems hI rfl ?_)))
  show wpAny _ _ (Builtin.SmallTypes.ownedTupleIsFree (.ref (n + 4)) >>= _) _ _ s
  refine wpAny_bind ?_
  unfold Builtin.SmallTypes.ownedTupleIsFree
  refine wpAny_bind (wpAny_field hz rfl (x := .none) rfl (wpAny_pure ?_))
  simp only [if_true]
  refine wpAny_bind (wpAny_rule (wpAny_bind (wpAny_field hz rfl (x := .ref (n + 3)) rfl (wpAny_bind (wpAny_setField_rec hz (by simp) fun k1 z1 sb1 => ?_)))))
  have z1 : IsZip k1 (n + 4) (n + 2) (n + 3) .ellipsis := z1
  refine wpAny_bind ?_
  simp only [List.zipIdx_cons, List.zipIdx_nil, List.forIn_cons, List.forIn_nil]
  -- the first
  refine wpAny_bind (wpAny_bind (wpAny_onRaise ?_))
  show wpAny _ _ (Builtin.SmallTypes.nextOf (.ref n) >>= _) _ _ _
  refine wpAny_bind (nextOf_item (keepI h1 fun o q => (sb1.2 n (by change @Ne Nat _ _; omega)).trans q) (keepL q1 fun o q => (sb1.2 l1 (by change @Ne Nat _ _; omega)).trans q) e1 fun k2 i1 sb2 => wpAny_pure ?_)
  have O2 : Duo k2 (n + 3) a b := (sb2.2 (n + 3) (by change @Ne Nat _ _; omega)).trans ((sb1.2 (n + 3) (by change @Ne Nat _ _; omega)).trans hO)
  refine wpAny_bind (wpAny_seqItems O2 rfl (wpAny_bind (put O2 fun k3 O3 sb3 => wpAny_bind (wpAny_letGo (wpAny_pure ?_)))))
  have O3 : Duo k3 (n + 3) x b := O3
  -- the second
  refine wpAny_bind (wpAny_bind (wpAny_onRaise ?_))
  show wpAny _ _ (Builtin.SmallTypes.nextOf (.ref (n + 1)) >>= _) _ _ _
  have up3 : ∀ d o, d ≠ n + 4 → d ≠ n + 3 → d ≠ n → s.heap.get? d = some o → k3.get? d = some o := fun d o d1 d2 d3 q => (sb3.2 d d2).trans ((sb2.2 d d3).trans ((sb1.2 d d1).trans q))
  refine wpAny_bind (nextOf_item (keepI h2 fun o q => up3 _ o (by change @Ne Nat _ _; omega) (by change @Ne Nat _ _; omega) (by change @Ne Nat _ _; omega) q) (keepL q2 fun o q => up3 _ o (by change @Ne Nat _ _; omega) (by change @Ne Nat _ _; omega) (by change @Ne Nat _ _; omega) q) e2 fun k4 i2 sb4 => wpAny_pure ?_)
  have O4 : Duo k4 (n + 3) x b := (sb4.2 (n + 3) (by change @Ne Nat _ _; omega)).trans O3
  refine wpAny_bind (wpAny_seqItems O4 rfl (wpAny_bind (put O4 fun k7 O7 sb7 => wpAny_bind (wpAny_letGo (wpAny_pure (wpAny_pure ?_))))))
  have O7 : Duo k7 (n + 3) x y := O7
  -- the new tuple
  refine wpAny_bind (wpAny_seqItems O7 rfl (wpAny_bind (wpAny_newTuple ?_)))
  have sz : k7.objs.size = s.heap.objs.size := by rw [sb7.1, sb4.1, sb3.1, sb2.1, sb1.1]
  have up7 : ∀ d o, d ≠ n + 4 → d ≠ n + 3 → d ≠ n → d ≠ n + 1 → s.heap.get? d = some o → k7.get? d = some o := fun d o d1 d2 d3 d4 q => (sb7.2 d d2).trans ((sb4.2 d d4).trans (up3 d o d1 d2 d3 q))
  have z7 : IsZip k7 (n + 4) (n + 2) (n + 3) .ellipsis := (sb7.2 (n + 4) (by change @Ne Nat _ _; omega)).trans ((sb4.2 (n + 4) (by change @Ne Nat _ _; omega)).trans ((sb3.2 (n + 4) (by change @Ne Nat _ _; omega)).trans ((sb2.2 (n + 4) (by change @Ne Nat _ _; omega)).trans z1)))
  have j1 : It p k7 n l1 (i + 1) := keepI i1 fun o q => (sb7.2 n (by change @Ne Nat _ _; omega)).trans ((sb4.2 n (by change @Ne Nat _ _; omega)).trans ((sb3.2 n (by change @Ne Nat _ _; omega)).trans q))
  have j2 : It q k7 (n + 1) l2 (i + 1) := keepI i2 fun o q => (sb7.2 (n + 1) (by change @Ne Nat _ _; omega)).trans q
  have zl : n + 4 < k7.objs.size := Heap.lt_size z7
  show wpAny _ _ (Builtin.SmallTypes.ownedTupleHandOut (.ref (n + 4)) (.ref k7.objs.size) >>= _) _ _ _
  refine wpAny_bind ?_
  unfold Builtin.SmallTypes.ownedTupleHandOut
  have z8 : IsZip (k7.push { cls := .type "tuple", data := .seq #[x, y] }) (n + 4) (n + 2) (n + 3) .ellipsis := Heap.get?_push_of_some _ z7
  refine wpAny_bind (wpAny_setField_rec z8 (by simp) fun k8 z9 sb8 => ?_)
  have z9 : IsZip k8 (n + 4) (n + 2) (n + 3) (rawInt k7.objs.size) := z9
  refine wpAny_setField_rec z9 (by simp) fun k9 z10 sb9 => wpAny_pure ⟨_, rfl, ?_⟩
  have z10 : IsZip k9 (n + 4) (n + 2) (n + 3) (rawInt k7.objs.size) := z10
  have up : ∀ d o, d ≠ n + 4 → k7.get? d = some o → k9.get? d = some o := fun d o d1 q => (sb9.2 d d1).trans ((sb8.2 d d1).trans (Heap.get?_push_of_some _ q))
  have T9 : Duo k9 k7.objs.size x y := (sb9.2 _ (Nat.ne_of_gt zl)).trans ((sb8.2 _ (Nat.ne_of_gt zl)).trans (Heap.get?_push_size _ rfl))
  have s9 : k9.objs.size = k7.objs.size + 1 := by rw [sb9.1, sb8.1, Heap.size_push]
  show Q (.ref k7.objs.size) _
  rw [sz] at z10 T9 s9 ⊢
  exact hQ k9 z10 (up _ _ (by change @Ne Nat _ _; omega) O7) (keepI j1 fun o q => up _ o (by change @Ne Nat _ _; omega) q) (keepI j2 fun o q => up _ o (by change @Ne Nat _ _; omega) q) T9 s9 fun d o d1 d2 d3 d4 q => up d o d1 (up7 d o d1 d2 d3 d4 q)
theorem next_end {Q : Fin → Shared → Prop} (hh : A.handled = none) (g1 : l1 < n) (hz : IsZip s.heap (n + 4) (n + 2) (n + 3) .none) (hI : Duo s.heap (n + 2) (.ref n) (.ref (n + 1))) (h1 : It p s.heap n l1 i) (q1 : Sq p s.heap l1 xs) (e1 : xs[i]? = none)
    (hE : ∀ k e, (∀ d o, d ≠ n + 4 → d ≠ n → s.heap.get? d = some o → k.get? d = some o) → (∃ o, k.get? e = some o ∧ o.cls = .type "StopIteration") → E (.ref e) { s with heap := k }) :
    wpAny (model prog w) A (Builtin.«zip.__next__» ⟨[.ref (n + 4)], []⟩) Q E s := by
  show wpAny _ _ (field (.ref (n + 4)) 2 >>= _) _ _ s
  refine wpAny_bind (wpAny_field hz rfl (x := .bool false) rfl ?_)
  show wpAny _ _ (field (.ref (n + 4)) 3 >>= _) _ _ s
  refine wpAny_bind (wpAny_field hz rfl (x := .ref (n + 2)) rfl (wpAny_bind (wpAny_seqItems hI rfl ?_)))
  show wpAny _ _ (Builtin.SmallTypes.ownedTupleIsFree (.ref (n + 4)) >>= _) _ _ s
  refine wpAny_bind ?_
  unfold Builtin.SmallTypes.ownedTupleIsFree
  refine wpAny_bind (wpAny_field hz rfl (x := .none) rfl (wpAny_pure ?_))
  simp only [if_true]
  refine wpAny_bind (wpAny_rule (wpAny_bind (wpAny_field hz rfl (x := .ref (n + 3)) rfl (wpAny_bind (wpAny_setField_rec hz (by simp) fun k1 z1 sb1 => ?_)))))
  have z1 : IsZip k1 (n + 4) (n + 2) (n + 3) .ellipsis := z1
  refine wpAny_bind ?_
  simp only [List.zipIdx_cons, List.zipIdx_nil, List.forIn_cons, List.forIn_nil]
  refine wpAny_bind (wpAny_bind (wpAny_onRaise ?_))
  show wpAny _ _ (Builtin.SmallTypes.nextOf (.ref n) >>= _) _ _ _
  refine wpAny_bind (nextOf_end hh (keepI h1 fun o q => (sb1.2 n (by change @Ne Nat _ _; omega)).trans q) (keepL q1 fun o q => (sb1.2 l1 (by change @Ne Nat _ _; omega)).trans q) e1 fun k2 e sb2 ⟨oe, hoe, hc⟩ => ?_)
  have z2 : IsZip k2 (n + 4) (n + 2) (n + 3) .ellipsis := sb2 _ _ (by change @Ne Nat _ _; omega) z1
  have ne : e ≠ n + 4 := fun x => by subst x; rw [z2] at hoe; cases hoe; simp at hc
  exact wpAny_setField_rec z2 (by simp) fun k3 _ sb3 => hE k3 e (fun d o d1 d2 q => (sb3.2 d d1).trans (sb2 _ _ d2 ((sb1.2 d d1).trans q))) ⟨oe, (sb3.2 e ne).trans hoe, hc⟩
theorem pyNext_item {Q : Option Value → Shared → Prop} (g1 : l1 < n) (g2 : l2 < n) (hz : IsZip s.heap (n + 4) (n + 2) (n + 3) .none) (hI : Duo s.heap (n + 2) (.ref n) (.ref (n + 1))) (hO : Duo s.heap (n + 3) a b)
    (h1 : It p s.heap n l1 i) (h2 : It q s.heap (n + 1) l2 i) (q1 : Sq p s.heap l1 xs) (q2 : Sq q s.heap l2 ys) (e1 : xs[i]? = some x) (e2 : ys[i]? = some y)
    (hQ : ∀ k, IsZip k (n + 4) (n + 2) (n + 3) (rawInt s.heap.objs.size) → Duo k (n + 3) x y → It p k n l1 (i + 1) → It q k (n + 1) l2 (i + 1) → Duo k s.heap.objs.size x y → k.objs.size = s.heap.objs.size + 1 →
      (∀ d o, d ≠ n + 4 → d ≠ n + 3 → d ≠ n → d ≠ n + 1 → s.heap.get? d = some o → k.get? d = some o) → Q (some (.ref s.heap.objs.size)) { s with heap := k }) : wpAny (model prog w) A (pyNext (.ref (n + 4))) Q E s := by
  have ty : s.TypeIs (.ref (n + 4)) "zip" := ⟨_, hz, rfl⟩
  unfold pyNext
  refine wpAny_bind (wpAny_attempt (wpAny_callSpecial?_slot (name := Str.ofString "__next__") ty F.slot_zip_next (wpAny_call_entry F.slot_zip_next ty F.entry_zip_next ?_ (F.args_zip_next_1 _))))
  exact next_item g1 g2 hz hI hO h1 h2 q1 q2 e1 e2 fun k a1 a2 a3 a4 a5 a6 a7 => wpAny_pure (hQ k a1 a2 a3 a4 a5 a6 a7)
theorem pyNext_end {Q : Option Value → Shared → Prop} (hh : A.handled = none) (g1 : l1 < n) (hz : IsZip s.heap (n + 4) (n + 2) (n + 3) .none) (hI : Duo s.heap (n + 2) (.ref n) (.ref (n + 1))) (h1 : It p s.heap n l1 i) (q1 : Sq p s.heap l1 xs) (e1 : xs[i]? = none)
    (hQ : ∀ k, (∀ d o, d ≠ n + 4 → d ≠ n → s.heap.get? d = some o → k.get? d = some o) → Q none { s with heap := k }) : wpAny (model prog w) A (pyNext (.ref (n + 4))) Q E s := by
  have ty : s.TypeIs (.ref (n + 4)) "zip" := ⟨_, hz, rfl⟩
  unfold pyNext
  refine wpAny_bind (wpAny_attempt (wpAny_callSpecial?_slot (name := Str.ofString "__next__") ty F.slot_zip_next (wpAny_call_entry F.slot_zip_next ty F.entry_zip_next (next_end hh g1 hz hI h1 q1 e1 fun k e hk ⟨o, ho, hc⟩ => ?_) (F.args_zip_next_1 _))))
  exact wpAny_bind (wpAny_isInstance (T := "StopIteration") (b := true) ⟨o, ho, hc⟩ isSubtype_stop (wpAny_pure (hQ _ hk)))
end
/-! ### making one -/
abbrev lit (p : Bool) (l : Addr) : Obj := { cls := .type (if p = true then "tuple_iterator" else "list_iterator"), data := .fields #[.ref l, .int 0 0] }
abbrev K1 (h : Heap) (p : Bool) (l1 : Addr) : Heap := h.push (lit p l1)
abbrev K2 (h : Heap) (p q : Bool) (l1 l2 : Addr) : Heap := (K1 h p l1).push (lit q l2)
abbrev K3 (h : Heap) (p q : Bool) (l1 l2 : Addr) : Heap := (K2 h p q l1 l2).push { cls := .type "tuple", data := .seq #[.ref h.objs.size, .ref (K1 h p l1).objs.size] }
abbrev K4 (h : Heap) (p q : Bool) (l1 l2 : Addr) : Heap := (K3 h p q l1 l2).push { cls := .type "tuple", data := .seq #[.none, .none] }
abbrev K5 (h : Heap) (p q : Bool) (l1 l2 : Addr) : Heap := (K4 h p q l1 l2).push { cls := .type "zip", data := .fields #[.none, .bool false, .bool false, .ref (K2 h p q l1 l2).objs.size, .ref (K3 h p q l1 l2).objs.size] }
set_option maxHeartbeats 1000000 in
theorem meets_new (l1 l2 : Addr) (xs ys : Array Value) (p q : Bool) (hpq : p ≠ q) : Meets (Builtin.«zip.__new__» ⟨[.type "zip", .ref l1, .ref l2], []⟩) (fun _ R s => Sq p s.heap l1 xs ∧ Sq q s.heap l2 ys ∧
      R (.ok (.ret (.ref (K4 s.heap p q l1 l2).objs.size))) { s with heap := K5 s.heap p q l1 l2 }) :=
  .of_wp fun prog w A R s h => by
    obtain ⟨hp, g, d, tk, os⟩ := s
    obtain ⟨a1, a2, h⟩ := h
    have hsub := sub_zip
    have b2' : Sq q (Shared.heap ⟨hp.push (lit p l1), g, d, tk, os⟩) l2 ys := keepL a2 fun o e => Heap.get?_push_of_some _ e
    cases p with
    | false =>
      have b1 : Heap.IsList (Shared.heap ⟨hp, g, d, tk, os⟩) l1 xs := a1
      cases q with
      | false => exact absurd rfl hpq
      | true =>
        have b2 : Heap.IsTuple (Shared.heap ⟨hp.push { cls := .type "list_iterator", data := .fields #[.ref l1, .int 0 0] }, g, d, tk, os⟩) l2 ys := b2'
        wp_walk using wpAny_pyIter_list b1, wpAny_pyIter_tuple b2
        exact ⟨_, rfl, h⟩
    | true =>
      have b1 : Heap.IsTuple (Shared.heap ⟨hp, g, d, tk, os⟩) l1 xs := a1
      cases q with
      | false =>
        have b2 : Heap.IsList (Shared.heap ⟨hp.push { cls := .type "tuple_iterator", data := .fields #[.ref l1, .int 0 0] }, g, d, tk, os⟩) l2 ys := b2'
        wp_walk using wpAny_pyIter_tuple b1, wpAny_pyIter_list b2
        exact ⟨_, rfl, h⟩
      | true => exact absurd rfl hpq
theorem call_new {prog : Program} {w : World} {A : Around} {E : Value → Shared → Prop} {s : Shared} {l1 l2 : Addr} {xs ys : Array Value} {p q : Bool} (hpq : p ≠ q) {Q : Value → Shared → Prop} (a1 : Sq p s.heap l1 xs) (a2 : Sq q s.heap l2 ys)
    (h : ∀ k, IsZip k (s.heap.objs.size + 4) (s.heap.objs.size + 2) (s.heap.objs.size + 3) .none → Duo k (s.heap.objs.size + 2) (.ref s.heap.objs.size) (.ref (s.heap.objs.size + 1)) → Duo k (s.heap.objs.size + 3) .none .none →
      It p k s.heap.objs.size l1 0 → It q k (s.heap.objs.size + 1) l2 0 → (∀ d o, s.heap.get? d = some o → k.get? d = some o) → Q (.ref (s.heap.objs.size + 4)) { s with heap := k }) :
    wpAny (model prog w) A (call (.type "zip") [.ref l1, .ref l2]) Q E s := by
  refine callType_new F.called_zip (by decide) (F.typeCall_zip_2 _ _) (F.newCall_zip_2 _ _) (fun obj => F.args_object_init_3 obj _ _) F.entry_zip_new (meets_new l1 l2 xs ys p q hpq) ⟨a1, a2, ?_⟩
  have z1 : (K1 s.heap p l1).objs.size = s.heap.objs.size + 1 := Heap.size_push ..
  have z2 : (K2 s.heap p q l1 l2).objs.size = s.heap.objs.size + 2 := by rw [Heap.size_push, z1]
  have z3 : (K3 s.heap p q l1 l2).objs.size = s.heap.objs.size + 3 := by rw [Heap.size_push, z2]
  have z4 : (K4 s.heap p q l1 l2).objs.size = s.heap.objs.size + 4 := by rw [Heap.size_push, z3]
  have at5 : (K5 s.heap p q l1 l2).get? (K4 s.heap p q l1 l2).objs.size = some _ := Heap.get?_push_size _ rfl
  have at4 : (K5 s.heap p q l1 l2).get? (K3 s.heap p q l1 l2).objs.size = some _ := Heap.get?_push_of_some _ (Heap.get?_push_size _ rfl)
  have at3 : (K5 s.heap p q l1 l2).get? (K2 s.heap p q l1 l2).objs.size = some _ := Heap.get?_push_of_some _ (Heap.get?_push_of_some _ (Heap.get?_push_size _ rfl))
  have up2 : ∀ d o, (K2 s.heap p q l1 l2).get? d = some o → (K5 s.heap p q l1 l2).get? d = some o := fun d o q => Heap.get?_push_of_some _ (Heap.get?_push_of_some _ (Heap.get?_push_of_some _ q))
  have at2 : (K5 s.heap p q l1 l2).get? (K1 s.heap p l1).objs.size = some _ := up2 _ _ (Heap.get?_push_size _ rfl)
  have at1 : (K5 s.heap p q l1 l2).get? s.heap.objs.size = some _ := up2 _ _ (Heap.get?_push_of_some _ (Heap.get?_push_size _ rfl))
  show _ ∧ _
  rw [z2, z3, z4] at at5
  rw [z3] at at4
  rw [z1, z2] at at3
  rw [z1] at at2
  rw [z4]
  have mk : ∀ (p : Bool) (it l : Addr) (k : Heap), k.get? it = some (lit p l) → It p k it l 0 := fun p it l k e => by
    cases p with
    | false => exact (show k.IsListIter it l 0 from ⟨_, e, rfl, rfl⟩)
    | true => exact (show k.IsTupleIter it l 0 from ⟨_, e, rfl, rfl⟩)
  exact ⟨⟨_, at5, rfl⟩, h _ at5 at3 at4 (mk p _ _ _ at1) (mk q _ _ _ at2) fun d o q => up2 d o (Heap.get?_push_of_some _ (Heap.get?_push_of_some _ q))⟩
end Z2
namespace DL
open PySem PySem.Spec PyProof.Rows L2
def SqB (b : Bool) (K : PySem.W.Frag) (G : Hp) (a : Addr) (xs : List V) : Prop := if b = true then SqT K G a xs else SqL K G a xs
theorem sq_of {X : Cx} {pins : List (Addr × Obj)} {σ : L2.St} {G : Hp} {s : Shared} {b : Bool} {a : Addr} {xs : List V} (I : Inv X pins σ G s) (h : SqB b X.K G a xs) : ∃ its, Vals xs its ∧ Z2.Sq b s.heap a its.toArray ∧ ∀ ys, SqB b X.K G a ys → ys = xs := by
  cases b with
  | false =>
    have h : SqL X.K G a xs := h
    obtain ⟨its, r, p, _⟩ := I.list h
    exact ⟨its, r, p.isList, fun ys k => I.list_inj (show SqL X.K G a ys from k) h⟩
  | true =>
    have h : SqT X.K G a xs := h
    obtain ⟨its, r, p, _⟩ := I.tuple h
    exact ⟨its, r, (show s.heap.IsTuple a its.toArray from p), fun ys k => I.tuple_inj (show SqT X.K G a ys from k) h⟩
/-- what stands at a and b (of one length), the items in new pairs -/
def Itz2 (K : PySem.W.Frag) (p q : Bool) (a b : Addr) : It where
  go := fun i G => ∃ (xs ys : List V) (x y : V), SqB p K G a xs ∧ SqB q K G b ys ∧ xs[i]? = some x ∧ ys[i]? = some y
  yld := fun i G v G2 => ∃ T x y, v = .ref T ∧ G T = none ∧ G2 = upd G T (.tup [x, y]) ∧ (∀ xs, SqB p K G a xs → xs[i]? = some x) ∧ ∀ xs, SqB q K G b xs → xs[i]? = some y
  stop := fun i G => ∃ xs : List V, SqB p K G a xs ∧ xs.length ≤ i
theorem mem4 {n d : Nat} (h : d ∈ [n + 4, n + 2, n + 3, n, n + 1]) : d = n + 4 ∨ d = n + 2 ∨ d = n + 3 ∨ d = n ∨ d = n + 1 := by simpa using h
theorem turn_zip2 {P : Program} {w : World} {K : PySem.W.Frag} {elts : List Expr} {kk : Nat} {tpos : Pos} {p q : Bool} {n a b : Nat} (ga : a < n) (gb : b < n) :
    Turn P w K (.Tuple elts kk tpos) (Itz2 K p q a b) [n + 4, n + 2, n + 3, n, n + 1] (n + 4) (fun i h => IsZip h (n + 4) (n + 2) (n + 3) .none ∧ Z2.Duo h (n + 2) (.ref n) (.ref (n + 1)) ∧ (∃ x y, Z2.Duo h (n + 3) x y) ∧ Z2.It p h n a i ∧ Z2.It q h (n + 1) b i) where
  mem := by simp
  obj := fun i h ⟨hz, hI, ⟨x, y, hO⟩, h1, h2⟩ d hd => by
    rcases mem4 hd with z | z | z | z | z <;> rw [z]
    · exact ⟨_, hz, fun v z => nomatch z⟩
    · exact ⟨_, hI, fun v z => nomatch z⟩
    · exact ⟨_, hO, fun v z => nomatch z⟩
    · exact h1.there
    · exact h2.there
  keep := fun i h h2 ⟨hz, hI, ⟨x, y, hO⟩, h1, h3⟩ k => ⟨k _ (by simp) _ hz, k _ (by simp) _ hI, ⟨x, y, k _ (by simp) _ hO⟩, Z2.keepI h1 fun o q => k _ (by simp) o q, Z2.keepI h3 fun o q => k _ (by simp) o q⟩
  item := by
    intro X hP hw hK hc i pins s σ G E I hf ⟨hz, hI, ⟨x0, y0, hO⟩, h1, h2⟩ ⟨xs, ys, x, y, qa, qb, hx, hy⟩
    subst hP hw hK
    obtain ⟨its1, r1, p1, j1⟩ := sq_of I qa
    obtain ⟨its2, r2, p2, j2⟩ := sq_of I qb
    obtain ⟨u1, e1, ru1⟩ := r1.get hx
    obtain ⟨u2, e2, ru2⟩ := r2.get hy
    have zl : n + 4 < s.heap.objs.size := Heap.lt_size hz
    refine Z2.pyNext_item ga gb hz hI hO h1 h2 p1 p2 (x := u1) (y := u2) (by simpa using e1) (by simpa using e2) fun k z2 O2 i1 i2 T2 sz hk => ⟨_, rfl, wpAny_letOwnedTupleGo_zip (s := { s with heap := k }) z2 fun k2 z3 sb => ?_⟩
    have T3 : k2.get? s.heap.objs.size = some { cls := .type "tuple", data := .seq #[u1, u2] } := (sb.2 _ (Nat.ne_of_gt zl)).trans T2
    have new : ObjOk X.prog X.w (upd G s.heap.objs.size (.tup [x, y])) k2 s.heap.objs.size (.tup [x, y]) := ⟨by show 2 ≤ sizeLine; decide, [u1, u2], .cons ru1 (.cons ru2 .nil), ⟨_, T3, rfl, _, rfl⟩⟩
    have J : Inv X pins σ (upd G s.heap.objs.size (.tup [x, y])) { s with heap := k2 } :=
      I.turnedNew (t' := s.toks) (ch := [n + 4, n + 2, n + 3, n, n + 1]) (fun d o hd q => (sb.2 d (fun z => hd (by simp [z]))).trans (hk d o (fun z => hd (by simp [z])) (fun z => hd (by simp [z])) (fun z => hd (by simp [z])) (fun z => hd (by simp [z])) q)) hf (Nat.le_refl _) new
    have ne : ∀ {m : Nat}, m ≠ n + 4 → ∀ {o : Obj}, k.get? m = some o → k2.get? m = some o := fun {m} h {o} q => (sb.2 _ h).trans q
    refine ⟨.ref s.heap.objs.size, _, J, rfl, ⟨_, x, y, rfl, I.hok.fresh (Nat.le_refl _), rfl, fun l hl => by rw [j1 l hl]; exact hx, fun l hl => by rw [j2 l hl]; exact hy⟩,
      ⟨z3, ne (by omega) (hk _ _ (by change @Ne Nat _ _; omega) (by change @Ne Nat _ _; omega) (by change @Ne Nat _ _; omega) (by change @Ne Nat _ _; omega) hI), ⟨u1, u2, ne (by omega) O2⟩, Z2.keepI i1 fun o q => ne (by omega) q, Z2.keepI i2 fun o q => ne (by omega) q⟩, fun d hd => ?_⟩
    have ld : d < s.heap.objs.size := by
      show @LT.lt Nat _ _ _
      rcases mem4 hd with q | q | q | q | q <;> (rw [q]; omega)
    rw [upd_ne (Nat.ne_of_lt ld)]
    exact (hf d hd).1
  done := by
    intro X hP hw hK hc i pins s σ G E I hf ⟨hz, hI, ⟨x0, y0, hO⟩, h1, h2⟩ ⟨xs, qa, hx⟩
    subst hP hw hK
    obtain ⟨its, rv, p, _⟩ := sq_of I qa
    have hl := rv.length
    exact Z2.pyNext_end (I.ok.hd hc) ga hz hI h1 p (by simp; omega) fun k hk => ⟨rfl, I.turnedL (t' := s.toks) (ch := [n + 4, n + 2, n + 3, n, n + 1]) (fun d o hd q => hk d o (fun z => hd (by simp [z])) (fun z => hd (by simp [z])) q) hf⟩
  self := fun A i s Q E st h => wpAny_pyIter_zip st.1 h
def iZip2 (K : PySem.W.Frag) (ta : TA) : TI := fun σ G R => ta σ G fun vs G1 => ∃ p q a b xs ys, p ≠ q ∧ vs = [.ref a, .ref b] ∧ SqB p K G1 a xs ∧ SqB q K G1 b ys ∧ R (Itz2 K p q a b) G1
section
variable {X : Cx} {c : Fc} {W : WX}
theorem sqB_lt {pins : List (Addr × Obj)} {σ : L2.St} {G : Hp} {s : Shared} {b : Bool} {a : Addr} {xs : Array Value} (h : Z2.Sq b s.heap a xs) : a < s.heap.objs.size := by
  cases b with
  | false => obtain ⟨o, e, _⟩ := (show s.heap.IsList a xs from h); exact Heap.lt_size e
  | true => obtain ⟨o, e, _⟩ := (show s.heap.IsTuple a xs from h); exact Heap.lt_size e
theorem pi_zip2 {e e2 : Expr} {ta : TA} {p pos tpos : Pos} {elts : List Expr} {kk : Nat} (hg : Gl X "zip") (hm : X.mg "zip" = none) (ha : PA X [e, e2] ta)
    (hs : starEach [e, e2] X.env = (false, eval e X.env) :: starEach [e2] X.env := by rfl) (hpl : (backTo pos (starEach [e2] X.env)).any (·.1) = false := by rfl) :
    PI X (.Tuple elts kk tpos) (.Call (.Name "zip" p) [e, e2] [] pos) (iZip2 X.K ta) := by
  refine ⟨fun pins s σ G R I h => Call_ (ld_blt I hg hm PyProof.Rows.boot_zip (PyProof.Rows.callWith_type1 (thn (ha.run pos pins s σ G _ I h) fun us s1 ⟨vs, G1, I1, r1, kp, kq, a, b, xs, ys, npq, ex, qa, qb, q⟩ => ?_) hs hpl))⟩
  subst ex
  cases r1 with
  | cons ra rr =>
    obtain ⟨u, rfl, rc⟩ := vals1 rr
    cases ra
    obtain rfl : u = Value.ref b := rc
    obtain ⟨i1, _, p1, _⟩ := sq_of I1 qa
    obtain ⟨i2, _, p2, _⟩ := sq_of I1 qb
    refine Z2.call_new npq p1 p2 fun k hz hI hO h1 h2 hk => wpAny_pyIter_zip hz ?_
    refine ⟨s1.heap.objs.size + 4, _, _, _, G1, rfl, I1.kept (t' := s1.toks) hk, turn_zip2 (n := s1.heap.objs.size) (sqB_lt (pins := pins) (σ := σ) (G := G1) p1) (sqB_lt (pins := pins) (σ := σ) (G := G1) p2), ⟨hz, hI, ⟨_, _, hO⟩, h1, h2⟩, fun d hd => ?_, q⟩
    have le : s1.heap.objs.size ≤ d := by
      show @LE.le Nat _ _ _
      rcases mem4 hd with q | q | q | q | q <;> (rw [q]; omega)
    exact I1.fpOk le (I1.hok.fresh le)
/-- data that is a list or a tuple -/
def SeqB (b : Bool) (x : D) (xs : List D) : Prop := if b = true then x = .tup xs else (x = .lst xs ∨ x = .ro xs)
theorem row_b {K : PySem.W.Frag} {F H : Hp} {b : Bool} {p : Addr} {x : D} {xs : List D} (e : SeqB b x xs) (s : Same F H) (r : Rep K F (.ref p) x) : ∃ vs, SqB b K H p vs ∧ RepL K F vs xs := by
  cases b with
  | false => obtain ⟨vs, h, k⟩ := row_l (show x = .lst xs ∨ x = .ro xs from e) s r; exact ⟨vs, h, k⟩
  | true =>
    have e : x = .tup xs := e
    subst e
    obtain ⟨vs, h, k⟩ := row_t s r; exact ⟨vs, h, k⟩
theorem serve_zip2 {K : PySem.W.Frag} {p q : Bool} {a b : Addr} {x y : D} {xs ys : List D} (ex : SeqB p x xs) (ey : SeqB q y ys) (l1 : ys.length = xs.length) : Serve K (Itz2 K p q a b) (.int 0) (.gho [.ref a, .ref b] [x, y]) (zipL xs ys) := by
  refine ⟨fun i F H s r hi => ?_, fun i F H s r hi => ?_, fun i F H z H' s r t d hd => ?_⟩
  · obtain ⟨vs, h1, k1⟩ := row_b ex s (gho2 r).1
    obtain ⟨us, h2, k2⟩ := row_b ey s (gho2 r).2
    rw [zip_len] at hi
    obtain ⟨v, e1, _⟩ := k1.get (List.getElem?_eq_getElem (show i < xs.length by omega))
    obtain ⟨u, e2, _⟩ := k2.get (List.getElem?_eq_getElem (show i < ys.length by omega))
    exact ⟨vs, us, v, u, h1, h2, e1, e2⟩
  · obtain ⟨vs, h1, k1⟩ := row_b ex s (gho2 r).1
    rw [zip_len] at hi
    exact ⟨vs, h1, by rw [k1.len]; omega⟩
  · obtain ⟨vs, h1, k1⟩ := row_b ex s (gho2 r).1
    obtain ⟨us, h2, k2⟩ := row_b ey s (gho2 r).2
    obtain ⟨T, v, u, rfl, nT, rfl, y1, y2⟩ := t
    obtain ⟨d1, d2, g1, g2, rfl⟩ := zip_at hd
    obtain ⟨v', e1, r1⟩ := k1.get g1
    obtain ⟨u', e2, r2⟩ := k2.get g2
    rw [y1 vs h1] at e1
    rw [y2 us h2] at e2
    cases e1; cases e2
    have sF : Same F (upd F T (.tup [v, u])) := same_upd (Same.refl F) (s.free nT)
    exact ⟨_, Ext.new s nT, .tup upd_same (.cons (r1.mono sF) (.cons (r2.mono sF) .nil))⟩
def zipMI (ta : TDA) : TDI := fun δ Q E => ta δ (fun as δ1 => ∃ p q x y xs ys, p ≠ q ∧ as = [.d x, .d y] ∧ SeqB p x xs ∧ SeqB q y ys ∧ ys.length = xs.length ∧ Q (zipL xs ys) δ1) E
theorem pid_zipM {e e2 : Expr} {ta : TDA} {p pos tpos : Pos} {elts : List Expr} {kk : Nat} (hg : Gl X "zip") (hm : X.mg "zip" = none) (ha : PA X [e, e2] (LA X.K c W ta))
    (hs : starEach [e, e2] X.env = (false, eval e X.env) :: starEach [e2] X.env := by rfl) (hpl : (backTo pos (starEach [e2] X.env)).any (·.1) = false := by rfl) : PI X (.Tuple elts kk tpos) (.Call (.Name "zip" p) [e, e2] [] pos) (LI X.K c W (zipMI ta)) :=
  PI_imp (pi_zip2 hg hm ha hs hpl) fun σ H R ⟨δ, tmp, Qd, Ed, S, q, k, w⟩ => ⟨δ, tmp, _, _, S, q, fun vs as δ' F ow H' ⟨kp, kq, x, y, xs, ys, npq, ea, ex, ey, hl, q'⟩ S' ra => by
    subst ea
    have rl := args_d (ds := [x, y]) ra
    cases rl with
    | @cons v1 _ vs1 _ r1 t =>
      cases t with
      | @cons v2 _ vs2 _ r2 t =>
        cases t
        have one : ∀ {b : Bool} {v : V} {x : D} {xs : List D}, SeqB b x xs → Rep X.K F v x → ∃ a us, v = .ref a ∧ SqB b X.K H' a us := fun {b v x xs} e r => by
          cases b with
          | false =>
            rcases (show x = .lst xs ∨ x = .ro xs from e) with rfl | rfl
            · cases r with | lst s1 _ => exact ⟨_, _, rfl, S'.fh.seq (SqL.of s1)⟩
            · cases r with | ro s1 _ => exact ⟨_, _, rfl, S'.fh.seq s1⟩
          | true =>
            have e : x = .tup xs := e
            subst e
            cases r with | tup s1 _ => exact ⟨_, _, rfl, SqT.of (S'.fh _ _ s1)⟩
        obtain ⟨a, us, rfl, h1⟩ := one ex r1
        obtain ⟨b, vs, rfl, h2⟩ := one ey r2
        exact ⟨kp, kq, a, b, us, vs, npq, rfl, h1, h2, k _ _ _ _ _ _ q' (serve_zip2 ex ey hl) ⟨F, ow, S'.push (.gho (.cons r1 (.cons r2 .nil)))⟩⟩, w⟩
end
end DL
namespace DR
open PySem PySem.Spec PyProof.Rows L2 DL
theorem zipm {δ : DSt} {E : XD} {Q : List DL.D → DSt → Prop} {ta : TDA} (h : ta δ (fun as δ1 => ∃ p q x y xs ys, p ≠ q ∧ as = [.d x, .d y] ∧ SeqB p x xs ∧ SeqB q y ys ∧ ys.length = xs.length ∧ Q (zipL xs ys) δ1) E) : zipMI ta δ Q E := h
end DR

set_option Elab.async false
set_option linter.all false
set_option maxRecDepth 100000
set_option maxHeartbeats 2000000
/-! several except clauses, each with or without a name -/
namespace DL
open PySem PySem.Spec PyProof.Rows L2
inductive ClauseM where
  | nm (cv : Value) (ix : Nat) (su : Addr → Value → Option Addr → TS)
  | no (cv : Value) (su : Addr → Value → Option Addr → TS)
def wishesM (K : PySem.W.Frag) (out : WX) (D : Ends) : List ClauseM → WX
  | [] => out
  | .nm c i su :: r => fun cv dd τ G => ∃ yes, PySem.W.exmOne K cv c = some yes ∧ (yes = true → ∀ a, G a = none → su a cv dd (sunk i D) (τ.set i (some (.ref a))) G) ∧ (yes = false → wishesM K out D r cv dd τ G)
  | .no c su :: r => fun cv dd τ G => ∃ yes, PySem.W.exmOne K cv c = some yes ∧ (yes = true → ∀ a, G a = none → su a cv dd D τ G) ∧ (yes = false → wishesM K out D r cv dd τ G)
inductive ClausesM (X : Cx) : List ExceptHandler → List ClauseM → Prop
  | nil : ClausesM X [] []
  | cons {x n : Str} {cv : Value} {i : Nat} {su : Addr → Value → Option Addr → TS} {s0 : Stmt} {more : List Stmt} {np pp : Pos} {hs : List ExceptHandler} {qs : List ClauseM} (hi : X.N[i]? = some n) (hl : X.env.kindOf n = some .local) (hn : Names X x cv)
      (hb : ∀ (a : Addr) (ob : Obj) (cls : Value) (dd : Option Addr) (pn : List (Addr × Obj)), Zc cls dd ob → (∃ vs, ob.data = .fields vs) → PSs (X.suite a ((a, ob) :: pn)) (s0 :: more) (su a cls dd)) (r : ClausesM X hs qs) :
      ClausesM X (.ExceptHandler (some (.Name x np)) (some n) (s0 :: more) pp :: hs) (.nm cv i su :: qs)
  | bare {x : Str} {cv : Value} {su : Addr → Value → Option Addr → TS} {s0 : Stmt} {more : List Stmt} {np pp : Pos} {hs : List ExceptHandler} {qs : List ClauseM} (hn : Names X x cv)
      (hb : ∀ (a : Addr) (ob : Obj) (cls : Value) (dd : Option Addr) (pn : List (Addr × Obj)), Zc cls dd ob → (∃ vs, ob.data = .fields vs) → PSs (X.suite a ((a, ob) :: pn)) (s0 :: more) (su a cls dd)) (r : ClausesM X hs qs) :
      ClausesM X (.ExceptHandler (some (.Name x np)) none (s0 :: more) pp :: hs) (.no cv su :: qs)
section
variable {X : Cx} {bd : List Stmt} {g : ExceptHandler} {gs : List ExceptHandler} {qs : List ClauseM} {pos : Pos} {tb : WX → TS} {out : WX}
theorem ps_tryM (hst : X.stack = X.env :: X.outer) (hfr : X.env.frame = some X.env.locals) (nd : X.N.Nodup) (tk : Takes X out)
    (hb : ∀ (W : WX) (pn : List (Addr × Obj)) (xe : Value → Shared → Prop), Takes (X.tr pn xe) W → PassesOwn (model X.prog X.w) X.A X.env xe → PSs (X.tr pn xe) bd (tb W))
    (hh : ClausesM X (g :: gs) qs) : PS X (.Try bd (g :: gs) [] [] pos) (fun D τ G => tb (wishesM X.K out D qs) D τ G) := by
  refine ⟨fun pins st τ G D I hw => ?_⟩
  have okX := I.ok
  have frX : X.A.frames = some (X.env :: X.outer) := okX.frames.trans (by rw [hst])
  apply wpAny_Try_except
  have run := (hb (wishesM X.K out D qs) (X.pn ++ pins) (fun e t1 => wpAny (model X.prog X.w) X.A (noteFrame e X.env) (fun _ t2 => wpAny (model X.prog X.w) X.A (setFlight e none) (fun _ t3 =>
    wpAny (model X.prog X.w) X.A (handleBy e X.env (g :: gs)) (SP X pins D) X.xe t3) X.xe t2) X.xe t1) (fun u t y => ?_) PassesOwn.looking).run [] st τ G D (I.toTry _) hw
  · refine wpAny_mono run (fun fl t1 q => ?_) (fun e t1 q => q)
    cases fl with
    | next => obtain ⟨τ2, G2, J, q⟩ := q; exact wpAny_execs_nil ⟨_, _, J.ofTry okX, q⟩
    | brk => obtain ⟨τ2, G2, J, q⟩ := q; exact ⟨_, _, J.ofTry okX, q⟩
    | cont => obtain ⟨τ2, G2, J, q⟩ := q; exact ⟨_, _, J.ofTry okX, q⟩
    | ret u => obtain ⟨v2, τ2, G2, J, rr, q⟩ := q; exact ⟨_, _, _, J.ofTry okX, rr, q⟩
  · obtain ⟨a, B, tI, pins2, τ2, G2, cv, dd, rfl, J0, nb, up, sk, na, os, ag, ww⟩ := y
    have J1 : Inv X pins τ2 G2 tI := J0.ofTry okX
    have sk2 : Sky B (X.env :: X.outer) a (Zc cv dd) X.env.locals t.heap := by rw [hst] at sk; exact sk
    refine Sky.land Zc.steady frX hfr sk2 fun k3 fl3 up3 => ?_
    have J3 : Inv X pins τ2 G2 { t with heap := k3 } := J1.landed nb fl3.1 (up.trans up3) os ag
    obtain ⟨o3, w3, ho3, hz3, hd3⟩ := fl3.there
    have out3 : ∀ {k : Heap} {ob : Obj} {ws : Array Value}, k.FunFrames B (X.env :: X.outer) → k.get? a = some ob → ob.data = .fields ws → ¬ a ∈ frs (X.env :: X.outer) := fun {k ob ws} ff he hd hm => by
      obtain ⟨_, ob2, he2, nof⟩ := ff.mem hm
      cases he.symm.trans he2
      exact nof _ hd
    have nfr := out3 fl3.2.2.1 ho3 hd3
    have nloc : a ≠ X.env.locals := fun z => nfr (List.mem_filterMap.mpr ⟨_, List.mem_cons_self, by rw [z]; exact hfr⟩)
    have nfs : a ∉ X.fs := fun hm => by
      obtain ⟨en, he, q⟩ := List.mem_filterMap.mp hm
      exact nfr (List.mem_filterMap.mpr ⟨en, .tail _ he, q⟩)
    have S3 := J3.suite ho3 hd3 na nloc nfs
    have each : ∀ {hs : List ExceptHandler} {rs : List ClauseM}, ClausesM X hs rs → wishesM X.K out D rs cv dd τ2 G2 →
        wpAny (model X.prog X.w) X.A (handleBy (.ref a) X.env hs) (SP X pins D) X.xe { t with heap := k3 } := fun {hs rs} hk => by
      induction hk with
      | nil =>
        intro wo
        refine wpAny_handleBy_nil ?_
        obtain ⟨_, _, _, ob, vs, T, oT, ts2, he, _, hd, h1, _⟩ := id fl3
        unfold PySem.passOn
        refine wpAny_bind (wpAny_field he hd h1 ?_)
        rw [if_neg (show ¬ ((Value.ref T == Value.none) = true) by simp)]
        have last : wpAny (model X.prog X.w) X.A (setFlight (.ref a) X.env.frame) (fun _ t4 => wpAny (model X.prog X.w) X.A (throw (.ref a) : Sem Flow) (SP X pins D) X.xe t4) X.xe { t with heap := k3 } := by
          rw [hfr]
          refine HandSPX.setFlight_upZ fl3 fun k4 hk4 up4 => wpAny_throw (tk _ _ ?_)
          exact ⟨a, B, tI, pins, τ2, G2, cv, dd, rfl, J1, nb, (up.trans up3).trans up4, .inr (.inr (hst ▸ hk4)), na, os, ag, wo⟩
        first
          | exact wpAny_bind (wpAny_pure (wpAny_bind last))
          | exact wpAny_bind last
      | @cons x n c i su s0 more np pp hs2 rs2 hi hl hn hb r ih =>
        rintro ⟨yes, hx, hy, hno⟩
        have look : PySem.W.Looks (model X.prog X.w) k3 (typeOf (.ref a)) cv := fun A Q E u f q => wpAny_typeOf_ref (f _ _ ho3) (hz3.1.symm ▸ q)
        have exm := PySem.W.exm_one (M := model X.prog X.w) J3.kIn look hx
        have name : ∀ {Q E : Value → Shared → Prop}, Q c { t with heap := k3 } → wpAny (model X.prog X.w) (X.A.mark (some (.ref a))) (eval (.Name x np) X.env) Q E { t with heap := k3 } := fun {Q E} q => by
          rcases hn with ⟨h1, h2, h3 | ⟨h3, h4, h5⟩⟩
          · exact ld_glob (X := X.suite a ((a, o3) :: (X.pn ++ pins))) S3 h1 h3 q h2
          · exact ld_blt (X := X.suite a ((a, o3) :: (X.pn ++ pins))) S3 h1 h3 h4 q h5 h2
        refine wpAny_handleBy_cons (codeAny_handlers_test (name (exm.here ?_))) (fun z => nomatch z)
        cases yes with
        | false => exact ih (hno rfl)
        | true =>
          refine codeAny_handlers_suite_as (HandSPX.lands_againZ fl3 fun k4 fl4 up4 => ?_)
          have J4 : Inv X pins τ2 G2 { t with heap := k4 } := J1.landed nb fl4.1 ((up.trans up3).trans up4) os ag
          obtain ⟨o4, w4, ho4, hz4, hd4⟩ := fl4.there
          refine store_ok (X := X.suite a ((a, o4) :: (X.pn ++ pins))) (v := .ref a) (J4.suite ho4 hd4 na nloc nfs) nd hi (.inl hl) rfl (fun t5 S5 => ?_) (.inr hl)
          have sinks : ∀ {τ6 : L2.St} {G6 : Hp} {Q : Shared → Prop} {t6 : Shared}, Inv (X.suite a ((a, o4) :: (X.pn ++ pins))) [] τ6 G6 t6 → (∀ t7, Inv X pins (τ6.set i none) G6 t7 → Q t7) →
              wpAny (model X.prog X.w) X.A (do bindName X.env n .none; unbindBehindTheSuite X.env n pp) (fun _ t7 => Q t7) X.xe t6 := fun {τ6 G6 Q t6} S6 f => gone_ok (S6.unsuite okX) nd hi hl f
          refine wpAny_mono ((hb a o4 cv dd (X.pn ++ pins) hz4 ⟨_, hd4⟩).run [] t5 _ G2 _ S5 (hy rfl a na)) (fun fl t6 q => ?_) (fun _ _ z => z.elim)
          cases fl with
          | next => obtain ⟨τ6, G6, S6, q6⟩ := q; exact sinks S6 fun t7 J7 => ⟨_, _, J7, q6⟩
          | brk => obtain ⟨τ6, G6, S6, q6⟩ := q; exact sinks S6 fun t7 J7 => ⟨_, _, J7, q6⟩
          | cont => obtain ⟨τ6, G6, S6, q6⟩ := q; exact sinks S6 fun t7 J7 => ⟨_, _, J7, q6⟩
          | ret u => obtain ⟨v6, τ6, G6, S6, r6, q6⟩ := q; exact sinks S6 fun t7 J7 => ⟨_, _, _, J7, r6, q6⟩
      | @bare x c su s0 more np pp hs2 rs2 hn hb r ih =>
        rintro ⟨yes, hx, hy, hno⟩
        have look : PySem.W.Looks (model X.prog X.w) k3 (typeOf (.ref a)) cv := fun A Q E u f q => wpAny_typeOf_ref (f _ _ ho3) (hz3.1.symm ▸ q)
        have exm := PySem.W.exm_one (M := model X.prog X.w) J3.kIn look hx
        have name : ∀ {Q E : Value → Shared → Prop}, Q c { t with heap := k3 } → wpAny (model X.prog X.w) (X.A.mark (some (.ref a))) (eval (.Name x np) X.env) Q E { t with heap := k3 } := fun {Q E} q => by
          rcases hn with ⟨h1, h2, h3 | ⟨h3, h4, h5⟩⟩
          · exact ld_glob (X := X.suite a ((a, o3) :: (X.pn ++ pins))) S3 h1 h3 q h2
          · exact ld_blt (X := X.suite a ((a, o3) :: (X.pn ++ pins))) S3 h1 h3 h4 q h5 h2
        refine wpAny_handleBy_cons (codeAny_handlers_test (name (exm.here ?_))) (fun z => nomatch z)
        cases yes with
        | false => exact ih (hno rfl)
        | true =>
          refine codeAny_handlers_suite (HandSPX.lands_againZ fl3 fun k4 fl4 up4 => ?_)
          have J4 : Inv X pins τ2 G2 { t with heap := k4 } := J1.landed nb fl4.1 ((up.trans up3).trans up4) os ag
          obtain ⟨o4, w4, ho4, hz4, hd4⟩ := fl4.there
          have S4 := J4.suite ho4 hd4 na nloc nfs
          refine wpAny_mono ((hb a o4 cv dd (X.pn ++ pins) hz4 ⟨_, hd4⟩).run [] _ _ G2 _ S4 (hy rfl a na)) (fun fl t6 q => ?_) (fun _ _ z => z.elim)
          cases fl with
          | next => obtain ⟨τ6, G6, S6, q6⟩ := q; exact ⟨_, _, S6.unsuite okX, q6⟩
          | brk => obtain ⟨τ6, G6, S6, q6⟩ := q; exact ⟨_, _, S6.unsuite okX, q6⟩
          | cont => obtain ⟨τ6, G6, S6, q6⟩ := q; exact ⟨_, _, S6.unsuite okX, q6⟩
          | ret u => obtain ⟨v6, τ6, G6, S6, r6, q6⟩ := q; exact ⟨_, _, _, S6.unsuite okX, r6, q6⟩
    exact each hh ww
end
/-! in data -/
inductive ClauseX where
  | nm (cv : Value) (ix : Nat) (su : Addr → Value → Option Addr → TDS)
  | no (cv : Value) (su : TDS)
def catchM (K : PySem.W.Frag) (D : EndsD) : List ClauseX → XD
  | [] => D.ex
  | .nm c i su :: r => fun x δ => ∃ yes, PySem.W.exmOne K (.ref x.C) c = some yes ∧ (yes = true → ∀ a dd, (x.fs = none → dd = none) → su a (.ref x.C) dd (sunkD i D) (δ.set i (some (.d (.exc a (.ref x.C) dd x.C x.fs))))) ∧ (yes = false → catchM K D r x δ)
  | .no c su :: r => fun x δ => ∃ yes, PySem.W.exmOne K (.ref x.C) c = some yes ∧ (yes = true → su { D with ex := noX } δ) ∧ (yes = false → catchM K D r x δ)
def tryM (K : PySem.W.Frag) (qs : List ClauseX) (tb : TDS) : TDS := fun D δ => tb { D with ex := catchM K D qs } δ
inductive ClausesX (X : Cx) (c : Fc) : List ExceptHandler → List ClauseX → Prop
  | nil : ClausesX X c [] []
  | cons {x n : Str} {cv : Value} {i : Nat} {su : Addr → Value → Option Addr → TDS} {s0 : Stmt} {more : List Stmt} {np pp : Pos} {hs : List ExceptHandler} {qs : List ClauseX} (ni : i ∉ c.sl) (hi : X.N[i]? = some n) (hl : X.env.kindOf n = some .local) (hn : Names X x cv)
      (hb : ∀ (a : Addr) (ob : Obj) (cls : Value) (dd : Option Addr) (pn : List (Addr × Obj)), Zc cls dd ob → (∃ vs, ob.data = .fields vs) → PSs (X.suite a ((a, ob) :: pn)) (s0 :: more) (LS X.K c W0 (su a cls dd))) (r : ClausesX X c hs qs) :
      ClausesX X c (.ExceptHandler (some (.Name x np)) (some n) (s0 :: more) pp :: hs) (.nm cv i su :: qs)
  | bare {x : Str} {cv : Value} {su : TDS} {s0 : Stmt} {more : List Stmt} {np pp : Pos} {hs : List ExceptHandler} {qs : List ClauseX} (hn : Names X x cv)
      (hb : ∀ (a : Addr) (ob : Obj) (cls : Value) (dd : Option Addr) (pn : List (Addr × Obj)), Zc cls dd ob → (∃ vs, ob.data = .fields vs) → PSs (X.suite a ((a, ob) :: pn)) (s0 :: more) (LS X.K c W0 su)) (r : ClausesX X c hs qs) :
      ClausesX X c (.ExceptHandler (some (.Name x np)) none (s0 :: more) pp :: hs) (.no cv su :: qs)
def ClauseX.up (K : PySem.W.Frag) (c : Fc) : ClauseX → ClauseM
  | .nm cv i su => .nm cv i fun a cls d => LS K c W0 (su a cls d)
  | .no cv su => .no cv fun _ _ _ => LS K c W0 su
theorem ClausesX.up {X : Cx} {c : Fc} {hs : List ExceptHandler} {qs : List ClauseX} (h : ClausesX X c hs qs) : ClausesM X hs (qs.map (ClauseX.up X.K c)) := by
  induction h with
  | nil => exact .nil
  | cons ni hi hl hn hb r ih => exact .cons hi hl hn hb ih
  | bare hn hb r ih => exact .bare hn (fun a ob cls dd pn => hb a ob cls dd pn) ih
theorem psd_tryM (K : PySem.W.Frag) {X : Cx} (hK : X.K = K) {c : Fc} {W : WX} {bd : List Stmt} {g : ExceptHandler} {gs : List ExceptHandler} {qs : List ClauseX} {pos : Pos} {tb : TDS} (hst : X.stack = X.env :: X.outer) (hfr : X.env.frame = some X.env.locals) (nd : X.N.Nodup) (tk : Takes X W)
    (hb : ∀ (W : WX) (pn : List (Addr × Obj)) (xe : Value → Shared → Prop), Takes (X.tr pn xe) W → PassesOwn (model X.prog X.w) X.A X.env xe → PSs (X.tr pn xe) bd (LS X.K c W tb))
    (hh : ClausesX X c (g :: gs) qs) : PS X (.Try bd (g :: gs) [] [] pos) (LS X.K c W (tryM K qs tb)) := by
  subst hK
  exact PS_imp (ps_tryM (tb := fun W => LS X.K c W tb) hst hfr nd tk hb hh.up) fun D σ H ⟨δ, tmp, Dd, S, q, k, kr, kb, kc, w⟩ => by
    refine ⟨δ, tmp, _, S, q, k, kr, kb, kc, ?_⟩
    have go : ∀ {hs : List ExceptHandler} {rs : List ClauseX}, ClausesX X c hs rs → WD X.K c (wishesM X.K W D (rs.map (ClauseX.up X.K c))) tmp (catchM X.K Dd rs) := fun {hs rs} h => by
      induction h with
      | nil => exact w
      | @cons x n cv i su s0 more np pp hs2 rs2 ni hi hl hn hb r ih =>
        rintro ⟨C, fs⟩ δ1 σ1 H1 F ow cls d ⟨yes, ey, hy, hno⟩ S1 er
        obtain ⟨rfl, er2⟩ := id er
        have hn2 : fs = none → d = none := fun e => by subst e; exact er2
        refine ⟨yes, ey, fun e a na => ?_, fun e => ih _ _ _ _ F ow _ d (hno e) S1 er⟩
        have rx : Rep X.K F (.ref a) (.exc a (.ref C) d C fs) := by
          cases fs with
          | none => obtain rfl : d = none := er2; exact .exc0
          | some fs => obtain ⟨dd, vs, rfl, e2, e3⟩ := er2; exact .exc e2 e3
        exact ⟨_, tmp, _, (S1.push rx).set' ni, hy e a d hn2, fun δ2 σ2 H2 q2 ⟨F2, ow2, S2⟩ => k _ _ _ q2 ⟨F2, ow2, S2.del ni⟩, kr, fun δ2 σ2 H2 q2 ⟨F2, ow2, S2⟩ => kb _ _ _ q2 ⟨F2, ow2, S2.del ni⟩, fun δ2 σ2 H2 q2 ⟨F2, ow2, S2⟩ => kc _ _ _ q2 ⟨F2, ow2, S2.del ni⟩, fun _ _ _ _ _ _ _ _ z => z.elim⟩
      | @bare x cv su s0 more np pp hs2 rs2 hn hb r ih =>
        rintro ⟨C, fs⟩ δ1 σ1 H1 F ow cls d ⟨yes, ey, hy, hno⟩ S1 er
        obtain ⟨rfl, er2⟩ := id er
        exact ⟨yes, ey, fun e a na => ⟨δ1, tmp, _, ⟨F, ow, S1⟩, hy e, k, kr, kb, kc, fun _ _ _ _ _ _ _ _ z => z.elim⟩, fun e => ih _ _ _ _ F ow _ d (hno e) S1 er⟩
    exact go hh
end DL
namespace DR
open PySem PySem.Spec PyProof.Rows L2 DL
theorem trym {K : PySem.W.Frag} {qs : List ClauseX} {tb : TDS} {D : EndsD} {δ : DSt} (h : tb { D with ex := catchM K D qs } δ) : tryM K qs tb D δ := h
end DR

set_option Elab.async false
set_option linter.all false
set_option maxRecDepth 100000
/-! x != [] and x == [] of any list -/
namespace DL
open PySem PySem.Spec PyProof.Rows L2
def lensNe (K : PySem.W.Frag) (r : Bool) : R2 := fun x y H Q => ∃ a b xs ys, x = .ref a ∧ y = .ref b ∧ SqL K H a xs ∧ SqL K H b ys ∧ xs.length ≠ ys.length ∧ Q (.bl r) H
def rNeX (K : PySem.W.Frag) : R2 := fun x y H Q => rNeD K x y H Q ∨ lensNe K true x y H Q
theorem op_neX {X : Cx} (hu : X.A.units + 64 < cLine) : OpR X (compareOp .NotEq) (rNeX X.K) := by
  intro pins s σ H x y v u Q I rx ry h
  rcases h with h | ⟨a, b, xs, ys, rfl, rfl, ha, hb, hl, q⟩
  · exact op_neD hu pins s σ H x y v u Q I rx ry h
  obtain rfl : v = Value.ref a := rx
  obtain rfl : u = Value.ref b := ry
  obtain ⟨i1, r1, p1, _⟩ := I.list ha
  obtain ⟨i2, r2, p2, _⟩ := I.list hb
  have l1 := r1.length
  have l2 := r2.length
  refine SeqAt.RcNeAt.lists_lengths p1.isList p2.isList ?_ (Nat.lt_of_le_of_lt (Nat.le_add_right _ _) hu) _ _ _ _ ⟨.bl _, H, I, rfl, q⟩
  simp
  omega
def lstLike (d : D) (xs : List D) : Prop := d = .lst xs ∨ d = .ro xs
abbrev neX : RD2s := fun a b Q => eqP true a b Q ∨ ∃ xs ys, lstLike a xs ∧ lstLike b ys ∧ xs.length ≠ ys.length ∧ Q (.bl true)
theorem sql_of {K : PySem.W.Frag} {F H : Hp} {v : V} {d : D} {xs : List D} (e : lstLike d xs) (s : Same F H) (r : Rep K F v d) : ∃ a vs, v = .ref a ∧ SqL K H a vs ∧ vs.length = xs.length := by
  rcases e with rfl | rfl
  · cases r with | lst s1 r1 => exact ⟨_, _, rfl, s.seq (SqL.of s1), r1.len⟩
  · cases r with | ro s1 r1 => exact ⟨_, _, rfl, s.seq s1, r1.len⟩
theorem op2_neX {K : PySem.W.Frag} : Op2s K (rNeX K) neX := fun x y a b F H Q Qd s rx ry h k => by
  rcases h with h | ⟨xs, ys, h1, h2, h3, q⟩
  · exact .inl (op2_neD x y a b F H Q Qd s rx ry h k)
  · obtain ⟨a1, vs, rfl, g1, l1⟩ := sql_of h1 s rx
    obtain ⟨b1, us, rfl, g2, l2⟩ := sql_of h2 s ry
    exact .inr ⟨a1, b1, vs, us, rfl, rfl, g1, g2, by rw [l1, l2]; exact h3, k _ _ q rfl⟩
end DL

set_option Elab.async false
set_option linter.all false
set_option maxRecDepth 100000
/-! DL47: a, b = x, y where one is a cell; a written tuple unpacked -/
namespace DL
open PySem PySem.Spec PyProof.Rows L2
section
variable {X : Cx} {c : Fc} {W : WX}
theorem psd_parC {i j : Nat} {oi oj : Bool} {x y : Str} {a b : Expr} {t : TDK} {px py pt pos : Pos} {kt k2 pt2} (ha : PA X [a, b] (LK X.K c W t)) (ni : i ∉ c.sl) (nj : j ∉ c.sl) (h : ∀ {ta : TA}, PA X [a, b] ta → PS X (.Assign [.Tuple [.Name x px, .Name y py] k2 pt2] (.Tuple [a, b] kt pt) pos) (tAsg (tTup ta) (gTup X.K 2 (gCons (gName i) (gCons (gName j) gNil))))) (hij : i ≠ j) :
    PS X (.Assign [.Tuple [.Name x px, .Name y py] k2 pt2] (.Tuple [a, b] kt pt) pos) (LS X.K c W (parD i j oi oj t)) :=
  PS_imp (h ha) fun D σ H ⟨δ, tmp, Dd, S, q, k, kr, kb, kc, w⟩ => ⟨δ, tmp, _, _, S, q, fun vs xs δ' H' ⟨x, y, e, q'⟩ hl S' => by
    subst e
    match vs, hl with
    | [v, u], _ =>
      refine ⟨show 2 ≤ sizeLine by decide, fun p np => ⟨p, [v, u], rfl, SqT.of upd_same, rfl, v, [u], rfl, u, [], rfl, rfl, ?_⟩⟩
      obtain ⟨F, ow, S'⟩ := S'
      have S2 : SttF X.K c F ow δ' ((u, y) :: (v, x) :: tmp) σ H' := S'
      have S2 := S2.ext (Ext.newH (o := .tup [v, u]) S2.fh np)
      obtain ⟨F3, S3⟩ := S2.top_as oj
      obtain ⟨F4, ow4, S4⟩ := S3.set' nj
      obtain ⟨F5, S5⟩ := S4.top_as oi
      refine k _ _ _ q' ?_
      rw [List.set_comm _ _ hij]
      exact S5.set' ni, w⟩
end
end DL
namespace DR
open PySem PySem.Spec PyProof.Rows L2 DL
theorem tupgV {is : List Nat} {xs : List DL.D} {δ : DSt} {Q : DSt → Prop} (h : namesG is xs δ Q) : tupG is (DV.d (.tup xs)).toD δ Q := ⟨xs, rfl, h⟩
end DR

set_option Elab.async false
set_option linter.all false
set_option maxRecDepth 100000
set_option maxHeartbeats 2000000
/-! DL48: tuple(zip(a, b)) of two tuples -/
namespace ZT
open PySem PySem.Spec
open PySem.Sem (wp)
theorem nolen_zip : typeLookup (.type "zip") "__len__" = pure none := by rw [typeLookup_type, builtinLookup_eq_fast]; kernel_rfl
theorem nohint_zip : typeLookup (.type "zip") "__length_hint__" = pure none := by rw [typeLookup_type, builtinLookup_eq_fast]; kernel_rfl
section
variable {prog : Program} {w : World} {A : Around} {E : Value → Shared → Prop} {s : Shared} {z TI TO i1 i2 l1 l2 S : Addr} {xs ys : Array Value}
/-- two tuples are zipped, i pairs were given out -/
def ZSt (z TI TO i1 i2 l1 l2 : Addr) (xs ys : Array Value) (S : Addr) (i : Nat) (h : Heap) : Prop :=
  IsPair h TI (.ref i1) (.ref i2) ∧ (h.IsTupleIter i1 l1 i ∧ h.IsTupleIter i2 l2 i) ∧ (h.IsTuple l1 xs ∧ h.IsTuple l2 ys) ∧
    ((IsZip h z TI TO .none ∧ ∃ a b, IsPair h TO a b) ∨ ∃ T f oT, IsZipHeld h z TI TO T f ∧ h.get? T = some oT ∧ T ≠ z ∧ T ≠ i1 ∧ T ≠ i2 ∧ T ≠ S)
theorem ZSt.typ {i : Nat} (h : ZSt z TI TO i1 i2 l1 l2 xs ys S i s.heap) : s.TypeIs (.ref z) "zip" := by
  obtain ⟨_, _, _, ⟨q, _⟩ | ⟨_, _, _, q, _⟩⟩ := h <;> exact ⟨_, q, rfl⟩
theorem ZSt.keep {i : Nat} {g g' : Heap} (hm : S ∉ [z, TI, TO, i1, i2, l1, l2]) (st : ZSt z TI TO i1 i2 l1 l2 xs ys S i g) (hk : ∀ b o, b ≠ S → g.get? b = some o → g'.get? b = some o) : ZSt z TI TO i1 i2 l1 l2 xs ys S i g' := by
  simp only [List.mem_cons, List.not_mem_nil, or_false, not_or] at hm
  obtain ⟨dz, dTI, dTO, di1, di2, dl1, dl2⟩ := hm
  obtain ⟨q2, ⟨q4, q5⟩, ⟨q6, q7⟩, hz⟩ := st
  refine ⟨hk _ _ (Ne.symm dTI) q2, ⟨q4.at fun o e => hk _ o (Ne.symm di1) e, q5.at fun o e => hk _ o (Ne.symm di2) e⟩, ⟨q6.at fun o e => hk _ o (Ne.symm dl1) e, q7.at fun o e => hk _ o (Ne.symm dl2) e⟩, ?_⟩
  rcases hz with ⟨q1, a, b, q3⟩ | ⟨T, f, oT, q1, qT, r1, r2, r3, r4⟩
  · exact .inl ⟨hk _ _ (Ne.symm dz) q1, a, b, hk _ _ (Ne.symm dTO) q3⟩
  · exact .inr ⟨T, f, oT, hk _ _ (Ne.symm dz) q1, hk _ _ r4 qT, r1, r2, r3, r4⟩
theorem zst_item {i : Nat} {Q : Option Value → Shared → Prop} (D : ZipApart z TI TO i1 i2 l1 l2) (hS : S < s.heap.objs.size) (hi : i < min xs.size ys.size) (st : ZSt z TI TO i1 i2 l1 l2 xs ys S i s.heap)
    (hQ : ∀ g x y, xs[i]? = some x → ys[i]? = some y → IsPair g s.heap.objs.size x y → ZSt z TI TO i1 i2 l1 l2 xs ys S (i + 1) g → (∀ b o, b ∉ [z, TO, i1, i2] → s.heap.get? b = some o → g.get? b = some o) → Q (some (.ref s.heap.objs.size)) { s with heap := g }) :
    wpAny (model prog w) A (pyNext (.ref z)) Q E s := by
  obtain ⟨q2, ⟨q4, q5⟩, ⟨q6, q7⟩, hz⟩ := st
  have ex := Array.getElem?_eq_getElem (Nat.lt_of_lt_of_le hi (Nat.min_le_left ..))
  have ey := Array.getElem?_eq_getElem (Nat.lt_of_lt_of_le hi (Nat.min_le_right ..))
  have lt : ∀ {c o}, s.heap.get? c = some o → s.heap.objs.size ≠ c := fun e => Nat.ne_of_gt (Heap.lt_size e)
  have n1 : s.heap.objs.size ≠ i1 := let ⟨_, e, _⟩ := q4; lt e
  have n2 : s.heap.objs.size ≠ i2 := let ⟨_, e, _⟩ := q5; lt e
  rcases hz with ⟨q1, a, b, q3⟩ | ⟨T, f, oT, q1, qT, r1, r2, r3, r4⟩
  · refine RZ.pyNext_zipT_item D q1 q2 q3 q4 q5 q6 q7 ex ey fun g c1 c2 c3 c4 c5 c6 hk => ?_
    exact hQ g _ _ ex ey c5 ⟨hk _ _ D.TIz D.TITO D.TIi1 D.TIi2 q2, ⟨c3, c4⟩, ⟨q6.at fun o e => hk _ o D.l1z D.l1TO D.l1i1 D.l1i2 e, q7.at fun o e => hk _ o D.l2z D.l2TO D.l2i1 D.l2i2 e⟩, .inr ⟨s.heap.objs.size, false, _, c1, c5, lt q1, n1, n2, Nat.ne_of_gt hS⟩⟩
      fun c o hc e => hk c o (fun q => hc (by simp [q])) (fun q => hc (by simp [q])) (fun q => hc (by simp [q])) (fun q => hc (by simp [q])) e
  · refine next_h D q1 qT q2 q4 q5 q6 q7 ex ey fun g c1 c3 c4 c5 hk => ?_
    exact hQ g _ _ ex ey c5 ⟨hk _ _ D.TIz D.TIi1 D.TIi2 q2, ⟨c3, c4⟩, ⟨q6.at fun o e => hk _ o D.l1z D.l1i1 D.l1i2 e, q7.at fun o e => hk _ o D.l2z D.l2i1 D.l2i2 e⟩, .inr ⟨T, true, oT, c1, hk _ _ r1 r2 r3 qT, r1, r2, r3, r4⟩⟩
      fun c o hc e => hk c o (fun q => hc (by simp [q])) (fun q => hc (by simp [q])) (fun q => hc (by simp [q])) e
theorem zst_end {Q : Option Value → Shared → Prop} (hA : A.handled = none) (D : ZipApart z TI TO i1 i2 l1 l2) (st : ZSt z TI TO i1 i2 l1 l2 xs ys S (min xs.size ys.size) s.heap)
    (hQ : ∀ g, (∀ b o, b ∉ [z, TO, i1, i2] → s.heap.get? b = some o → g.get? b = some o) → Q none { s with heap := g }) :
    wpAny (model prog w) A (pyNext (.ref z)) Q E s := by
  obtain ⟨q2, ⟨q4, q5⟩, ⟨q6, q7⟩, hz⟩ := st
  have he : xs[min xs.size ys.size]? = none ∨ ys[min xs.size ys.size]? = none := by
    rcases Nat.le_total xs.size ys.size with h | h
    · exact .inl (Array.getElem?_eq_none (by rw [Nat.min_eq_left h]; exact Nat.le_refl _))
    · exact .inr (Array.getElem?_eq_none (by rw [Nat.min_eq_right h]; exact Nat.le_refl _))
  rcases hz with ⟨q1, a, b, q3⟩ | ⟨T, f, oT, q1, qT, r1, r2, r3, r4⟩
  · exact RZ.pyNext_zipT_end hA D q1 q2 q3 q4 q5 q6 q7 he fun g hk => hQ g fun c o hc e => hk c o (fun q => hc (by simp [q])) (fun q => hc (by simp [q])) (fun q => hc (by simp [q])) (fun q => hc (by simp [q])) e
  · exact last_h hA D q1 qT q2 q4 q5 q6 q7 he fun g hk => hQ g fun c o hc e => hk c o (fun q => hc (by simp [q])) (fun q => hc (by simp [q])) (fun q => hc (by simp [q])) e
/-- the pairs given out so far, all new -/
def Prs (h0 h : Heap) (bad : List Addr) (xs ys : Array Value) (acc : Array Value) (i : Nat) : Prop := acc.size = i ∧ ∀ j, j < i → ∃ p x y, acc[j]? = some (.ref p) ∧ xs[j]? = some x ∧ ys[j]? = some y ∧ IsPair h p x y ∧ h0.objs.size ≤ p ∧ p ∉ bad
/-- no two of the first i are the same -/
def Apt (acc : Array Value) (i : Nat) : Prop := ∀ j k, j < i → k < i → acc[j]? = acc[k]? → j = k
theorem ext_zip {R : Result → Shared → Prop} (hA : A.handled = none) (D : ZipApart z TI TO i1 i2 l1 l2) (hn : min xs.size ys.size ≤ sizeLine) (hm : S ∉ [z, TI, TO, i1, i2, l1, l2]) (hlt : ∀ b ∈ [z, TO, i1, i2], b < S) (res : Value) (h0 : Heap) (h0S : h0.objs.size ≤ S) :
    ∀ (k i : Nat) (s : Shared) (acc : Array Value) (c : Nat), min xs.size ys.size - i = k → i ≤ min xs.size ys.size → ZSt z TI TO i1 i2 l1 l2 xs ys S i s.heap → s.heap.get? S = some { cls := .type "list", dict := none, data := .seq acc c, slots := #[] } →
    Prs h0 s.heap [S, z, TO, i1, i2] xs ys acc i → Apt acc i → (∀ b o, b ∉ [S, z, TO, i1, i2] → h0.get? b = some o → s.heap.get? b = some o) →
    (∀ h' acc' c', (∀ b o, b ∉ [S, z, TO, i1, i2] → h0.get? b = some o → h'.get? b = some o) → h'.get? S = some { cls := .type "list", dict := none, data := .seq acc' c', slots := #[] } → Prs h0 h' [S, z, TO, i1, i2] xs ys acc' (min xs.size ys.size) → Apt acc' (min xs.size ys.size) → R (.ok (.ret res)) { s with heap := h' }) →
    codeAny (model prog w) A (.builtin "list.extend.loop" ⟨[.ref S, .ref z, res], []⟩) R s := by
  have hS4 : S ∉ [z, TO, i1, i2] := fun q => hm (by simp only [List.mem_cons, List.not_mem_nil, or_false] at q ⊢; rcases q with q | q | q | q <;> simp [q])
  intro k
  induction k with
  | zero =>
    intro i s acc c hk hi hst hS hp hap hkeep hR
    have hin : i = min xs.size ys.size := by omega
    subst hin
    refine codeAny_builtin F.entry_extend_loop ?_
    rw [Around.under_plainId F.plain_extend_loop _]
    show wpAny _ A.in1 (pyNext (.ref z) >>= _) _ _ s
    refine wpAny_bind (zst_end (A := A.in1) hA D hst fun g hk2 => ?_)
    refine wpAny_pure (hR g acc c (fun b o hb e => hk2 b o (fun q => hb (List.mem_cons_of_mem _ q)) (hkeep b o hb e)) (hk2 S _ hS4 hS) ⟨hp.1, fun j hj => ?_⟩ hap)
    obtain ⟨p, x, y, e1, e2, e3, e4, e5, e6⟩ := hp.2 j hj
    exact ⟨p, x, y, e1, e2, e3, hk2 _ _ (fun q => e6 (List.mem_cons_of_mem _ q)) e4, e5, e6⟩
  | succ k ih =>
    intro i s acc c hk hi hst hS hp hap hkeep hR
    have hl : i < min xs.size ys.size := by omega
    have hSl := Heap.lt_size hS
    refine codeAny_builtin F.entry_extend_loop ?_
    rw [Around.under_plainId F.plain_extend_loop _]
    show wpAny _ A.in1 (pyNext (.ref z) >>= _) _ _ s
    refine wpAny_bind (zst_item (A := A.in1) D hSl hl hst fun g x y ex ey hpair hst' hk2 => ?_)
    have hS' := hk2 S _ hS4 hS
    have pne : s.heap.objs.size ∉ [S, z, TO, i1, i2] := fun q => by
      rcases List.mem_cons.mp q with q | q
      · exact absurd hSl (by rw [q]; exact Nat.lt_irrefl _)
      · exact absurd (Nat.lt_trans (hlt _ q) hSl) (Nat.lt_irrefl _)
    have p0 : h0.objs.size ≤ s.heap.objs.size := Nat.le_of_lt (Nat.lt_of_le_of_lt h0S hSl)
    show wpAny _ A.in1 (updateSeq S (·.push (.ref s.heap.objs.size)) >>= _) _ _ _
    refine wpAny_bind ?_
    refine wpAny_updateSeq (s := { s with heap := g }) hS' rfl (wpAny_pure ⟨plainId_quiet F.plain_extend_loop _, ih (i + 1) _ (acc.push (.ref s.heap.objs.size)) _ (by omega) hl (hst'.keep hm fun b o hb e => (Heap.get?_update_other _ _ (Ne.symm hb)).trans e) (Heap.get?_update_self _ hS' rfl) ?_ ?_ (fun b o hb e => (Heap.get?_update_other _ _ (fun q : S = b => hb (q ▸ List.mem_cons_self))).trans (hk2 b o (fun q => hb (List.mem_cons_of_mem _ q)) (hkeep b o hb e))) hR⟩)
      (by rw [hp.1]; have := Nat.lt_of_lt_of_le hl hn; omega) (by show (acc.push (.ref s.heap.objs.size)).size ≤ sizeLine + 1; rw [Array.size_push, hp.1]; exact Nat.le_trans (Nat.lt_of_lt_of_le hl hn) (Nat.le_succ _))
    rotate_left
    · intro j k' hj hk' e
      have at_old : ∀ j, j < i → (acc.push (.ref s.heap.objs.size))[j]? = acc[j]? := fun j hj => by rw [Array.getElem?_push, if_neg (by rw [hp.1]; omega)]
      have at_new : (acc.push (.ref s.heap.objs.size))[i]? = some (.ref s.heap.objs.size) := by rw [Array.getElem?_push, if_pos hp.1.symm]
      have no : ∀ j, j < i → acc[j]? ≠ some (.ref s.heap.objs.size) := fun j hj q => by
        obtain ⟨p, x', y', e1, _, _, e4, _⟩ := hp.2 j hj
        rw [e1] at q
        cases q
        exact absurd (Heap.lt_size e4) (Nat.lt_irrefl _)
      by_cases h1 : j = i
      · by_cases h2 : k' = i
        · rw [h1, h2]
        · rw [h1, at_new, at_old k' (by omega)] at e
          exact absurd e.symm (no k' (by omega))
      · by_cases h2 : k' = i
        · rw [h2, at_new, at_old j (by omega)] at e
          exact absurd e (no j (by omega))
        · rw [at_old j (by omega), at_old k' (by omega)] at e
          exact hap j k' (by omega) (by omega) e
    refine ⟨by rw [Array.size_push, hp.1], fun j hj => ?_⟩
    by_cases hji : j = i
    · subst hji
      refine ⟨s.heap.objs.size, x, y, by rw [Array.getElem?_push, if_pos hp.1.symm], ex, ey, (Heap.get?_update_other _ _ (fun q : S = s.heap.objs.size => pne (q ▸ List.mem_cons_self))).trans hpair, p0, pne⟩
    · obtain ⟨p, x', y', e1, e2, e3, e4, e5, e6⟩ := hp.2 j (by omega)
      refine ⟨p, x', y', by rw [Array.getElem?_push, if_neg (by rw [hp.1]; exact hji)]; exact e1, e2, e3, (Heap.get?_update_other _ _ (fun q : S = p => e6 (q ▸ List.mem_cons_self))).trans (hk2 _ _ (fun q => e6 (List.mem_cons_of_mem _ q)) e4), e5, e6⟩
/-- a list's room, made once: what updateSeq twice leaves -/
theorem collect_zip {Q : List Value → Shared → Prop} (hA : A.handled = none) (D : ZipApart z TI TO i1 i2 l1 l2) (hn : min xs.size ys.size ≤ sizeLine)
    (q1 : IsZip s.heap z TI TO .none) (q2 : IsPair s.heap TI (.ref i1) (.ref i2)) (q3 : ∃ a b, IsPair s.heap TO a b) (q4 : s.heap.IsTupleIter i1 l1 0) (q5 : s.heap.IsTupleIter i2 l2 0) (q6 : s.heap.IsTuple l1 xs) (q7 : s.heap.IsTuple l2 ys)
    (hQ : ∀ h' acc, (∀ b o, b ∉ [z, TO, i1, i2] → s.heap.get? b = some o → h'.get? b = some o) → Prs s.heap h' [z, TO, i1, i2] xs ys acc (min xs.size ys.size) → Apt acc (min xs.size ys.size) → Q acc.toList { s with heap := h' }) :
    wpAny (model prog w) A (collect (.ref z)) Q E s := by
  have there : ∀ b ∈ [z, TI, TO, i1, i2, l1, l2], b < s.heap.objs.size := fun b hb => by
    simp only [List.mem_cons, List.not_mem_nil, or_false] at hb
    obtain ⟨a, b', q3⟩ := q3
    obtain ⟨o1, q4, _⟩ := q4
    obtain ⟨o2, q5, _⟩ := q5
    obtain ⟨o3, q6, _⟩ := q6
    obtain ⟨o4, q7, _⟩ := q7
    rcases hb with rfl | rfl | rfl | rfl | rfl | rfl | rfl
    · exact Heap.lt_size q1
    · exact Heap.lt_size q2
    · exact Heap.lt_size q3
    · exact Heap.lt_size q4
    · exact Heap.lt_size q5
    · exact Heap.lt_size q6
    · exact Heap.lt_size q7
  have hm : s.heap.objs.size ∉ [z, TI, TO, i1, i2, l1, l2] := fun q => Nat.lt_irrefl _ (there _ q)
  have hlt : ∀ b ∈ [z, TO, i1, i2], b < s.heap.objs.size := fun b hb => there b (by simp only [List.mem_cons, List.not_mem_nil, or_false] at hb ⊢; rcases hb with q | q | q | q <;> simp [q])
  have hSz : s.heap.objs.size ≠ z := fun e => hm (by rw [e]; exact List.mem_cons_self)
  unfold collect
  refine wpAny_bind (wpAny_runValue (codeAny_builtin F.entry_proto_collect ?_))
  rw [Around.under_plainId F.plain_proto_collect _]
  show wpAny _ A.in1 (newList [] >>= fun l => again (.builtin "list.__iadd__" ⟨[l, .ref z], []⟩)) _ _ s
  refine wpAny_bind (wpAny_newObj_type ?_)
  refine wpAny_pure ⟨plainId_quiet F.plain_list_iadd _, codeAny_builtin F.entry_list_iadd ?_⟩
  rw [Around.under_plainId F.plain_list_iadd _]
  have hS₁ : (s.heap.push { cls := .type "list", data := .seq ([] : List Value).toArray }).get? s.heap.objs.size = some { cls := .type "list", data := .seq ([] : List Value).toArray } := Heap.get?_push_size _ rfl
  have up : ∀ {b o}, s.heap.get? b = some o → (s.heap.push { cls := .type "list", data := .seq ([] : List Value).toArray }).get? b = some o := fun e => Heap.get?_push_of_some _ e
  have st1 : ZSt z TI TO i1 i2 l1 l2 xs ys s.heap.objs.size 0 (s.heap.push { cls := .type "list", data := .seq ([] : List Value).toArray }) := ⟨up q2, ⟨q4.at fun o e => up e, q5.at fun o e => up e⟩, ⟨q6.at fun o e => up e, q7.at fun o e => up e⟩, .inl ⟨up q1, let ⟨a, b, q⟩ := q3; ⟨a, b, up q⟩⟩⟩
  have hT : ({ s with heap := s.heap.push { cls := .type "list", data := .seq ([] : List Value).toArray } } : Shared).TypeIs (.ref z) "zip" := ⟨_, up q1, rfl⟩
  show wpAny _ A.in1 (Builtin.List.listExtendWith (.ref s.heap.objs.size) (.ref z) (.ref s.heap.objs.size)) _ _ _
  unfold Builtin.List.listExtendWith
  refine wpAny_bind (wpAny_typeOf hT ?_)
  have h1 : Builtin.List.listSameRef (.ref s.heap.objs.size) (.ref z) = false := by simp [Builtin.List.listSameRef, hSz]
  have h2 : (Value.type "zip" == Value.type "list") = false := by decide
  have h3 : (Value.type "zip" == Value.type "tuple") = false := by decide
  simp only [h1, h2, h3, Bool.or_false, Bool.false_eq_true, if_false]
  refine wpAny_bind (wpAny_pyIter_zip (s := { s with heap := s.heap.push { cls := .type "list", data := .seq ([] : List Value).toArray } }) (up q1) ?_)
  refine wpAny_bind (wpAny_holding ?_)
  unfold Builtin.List.listLengthHint
  refine wpAny_bind (wpAny_specialOf hT nolen_zip ?_)
  show wpAny _ A.in1 (specialOf (Value.ref z) (Str.ofString "__length_hint__") >>= _) _ _ _
  refine wpAny_bind (wpAny_specialOf hT nohint_zip ?_)
  refine wpAny_pure ?_
  show wpAny _ A.in1 (rule "list.extend.makes-room" >>= fun _ => Builtin.List.listTouch (.ref s.heap.objs.size) >>= fun _ =>
    again (.builtin "list.extend.loop" ⟨[.ref s.heap.objs.size, .ref z, .ref s.heap.objs.size], []⟩)) _ _ _
  refine wpAny_bind (wpAny_rule ?_)
  refine wpAny_bind ?_
  show wpAny _ A.in1 (updateSeq s.heap.objs.size (·.push .none) >>= fun _ => updateSeq s.heap.objs.size (·.pop)) _ _ _
  refine wpAny_bind (wpAny_updateSeq (s := { s with heap := s.heap.push { cls := .type "list", data := .seq ([] : List Value).toArray } }) hS₁ rfl ?_)
  have hS₂ := Heap.get?_update_self (Obj.mapSeq (·.push Value.none)) hS₁ rfl
  refine wpAny_updateSeq (s := { s with heap := (s.heap.push { cls := .type "list", data := .seq ([] : List Value).toArray }).update s.heap.objs.size (Obj.mapSeq (·.push Value.none)) }) hS₂ rfl ?_
  have hS₃ := Heap.get?_update_self (Obj.mapSeq (·.pop)) hS₂ rfl
  have oth : ∀ b o, b ≠ s.heap.objs.size → (s.heap.push { cls := .type "list", data := .seq ([] : List Value).toArray }).get? b = some o →
      (((s.heap.push { cls := .type "list", data := .seq ([] : List Value).toArray }).update s.heap.objs.size (Obj.mapSeq (·.push Value.none))).update s.heap.objs.size (Obj.mapSeq (·.pop))).get? b = some o :=
    fun b o hb e => (Heap.get?_update_other _ _ (Ne.symm hb)).trans ((Heap.get?_update_other _ _ (Ne.symm hb)).trans e)
  have bad : ∀ {b : Addr}, b ∉ [z, TO, i1, i2] → b ≠ s.heap.objs.size → b ∉ [s.heap.objs.size, z, TO, i1, i2] := fun h1 h2 q => (List.mem_cons.mp q).elim h2 h1
  refine wpAny_pure ⟨plainId_quiet F.plain_extend_loop _, ext_zip (A := A) hA D hn hm hlt _ s.heap (Nat.le_refl _) _ 0 _ _ _ rfl (Nat.zero_le _) (st1.keep hm oth) hS₃ ⟨rfl, fun j hj => absurd hj (Nat.not_lt_zero _)⟩ (fun j _ hj => absurd hj (Nat.not_lt_zero _)) (fun b o hb e => oth b o (fun q => hb (q ▸ List.mem_cons_self)) (up e)) fun h' acc' c' hk hS' hp hap => ?_⟩
  show wpAny _ A (load s.heap.objs.size >>= _) _ _ _
  refine wpAny_bind (wpAny_load (s := { s with heap := h' }) hS' ?_)
  refine wpAny_pure (hQ h' acc' (fun b o hb e => hk b o (bad hb (Nat.ne_of_lt (Heap.lt_size e))) e) ⟨hp.1, fun j hj => ?_⟩ hap)
  obtain ⟨p, x, y, e1, e2, e3, e4, e5, e6⟩ := hp.2 j hj
  exact ⟨p, x, y, e1, e2, e3, e4, e5, fun q => e6 (List.mem_cons_of_mem _ q)⟩
end
end ZT
namespace DL
open PySem PySem.Spec PyProof.Rows L2
open PySem.Sem (wp)
/-! ### several new objects at once -/
def updAll (H : Hp) : List (Addr × HO) → Hp
  | [] => H
  | (a, o) :: l => updAll (upd H a o) l
theorem updAll_ne : ∀ {l : List (Addr × HO)} {H : Hp} {b : Addr}, b ∉ l.map (·.1) → updAll H l b = H b
  | [], _, _, _ => rfl
  | (a, o) :: l, H, b, h => by
    rw [List.map_cons, List.mem_cons, not_or] at h
    show updAll (upd H a o) l b = _
    rw [updAll_ne h.2, upd_ne h.1]
theorem updAll_at : ∀ {l : List (Addr × HO)} {H : Hp} {a : Addr} {o : HO}, (l.map (·.1)).Nodup → (a, o) ∈ l → updAll H l a = some o
  | (a, o) :: l, H, b, u, nd, h => by
    rw [List.map_cons, List.nodup_cons] at nd
    show updAll (upd H a o) l b = _
    rcases List.mem_cons.mp h with h | h
    · cases h
      rw [updAll_ne nd.1, upd_same]
    · exact updAll_at nd.2 h
theorem Ext.newAll : ∀ {l : List (Addr × HO)} {F H : Hp}, Same F H → (l.map (·.1)).Nodup → (∀ p ∈ l, H p.1 = none) → Ext F H (updAll F l) (updAll H l)
  | [], _, _, s, _, _ => Ext.refl s
  | (a, o) :: l, F, H, s, nd, n => by
    rw [List.map_cons, List.nodup_cons] at nd
    have e1 : Ext F H (upd F a o) (upd H a o) := Ext.new s (n _ List.mem_cons_self)
    refine e1.trans (Ext.newAll e1.fh nd.2 fun p hp => ?_)
    have ne : p.1 ≠ a := fun q => nd.1 (List.mem_map.mpr ⟨p, hp, q⟩)
    rw [upd_ne ne]
    exact n p (List.mem_cons_of_mem _ hp)
theorem laidAll {X : Cx} {pins : List (Addr × Obj)} {σ : L2.St} {h' : Heap} {t' : Nat} : ∀ {l : List (Addr × HO)} {H : Hp} {s : Shared}, Inv X pins σ H s → (∀ b u, s.heap.get? b = some u → h'.get? b = some u) → (l.map (·.1)).Nodup → (∀ p ∈ l, s.heap.get? p.1 = none ∧ H p.1 = none) →
    (∀ p ∈ l, ∀ (G : Hp) (g : Heap), g.get? p.1 = h'.get? p.1 → ObjOk X.prog X.w G g p.1 p.2) → (∀ p ∈ l, (h'.get? p.1).isSome = true) → Inv X pins σ (updAll H l) { s with heap := h', toks := t' }
  | [], H, s, I, k, _, _, _, _ => I.kept k
  | (a, o) :: l, H, s, I, k, nd, fr, ok, is => by
    rw [List.map_cons, List.nodup_cons] at nd
    obtain ⟨G, g1, g2⟩ := restrict h' fun b => decide (b = a) || (s.heap.get? b).isSome
    have ga : G.get? a = h'.get? a := g1 a (by simp)
    have gk : ∀ b u, s.heap.get? b = some u → G.get? b = some u := fun b u e => by rw [g1 b (by rw [e]; simp)]; exact k b u e
    have gs : ∀ b u, G.get? b = some u → h'.get? b = some u := fun b u e => by
      cases q : (decide (b = a) || (s.heap.get? b).isSome) with
      | true => rw [← g1 b q]; exact e
      | false => rw [g2 b q] at e; cases e
    have I1 : Inv X pins σ (upd H a o) { s with heap := G, toks := s.toks } := I.laidN gk (fr _ List.mem_cons_self).1 (fr _ List.mem_cons_self).2 (ok _ List.mem_cons_self _ G ga)
    show Inv X pins σ (updAll (upd H a o) l) _
    refine laidAll (s := { s with heap := G, toks := s.toks }) I1 gs nd.2 (fun p hp => ?_) (fun p hp => ok p (List.mem_cons_of_mem _ hp)) fun p hp => is p (List.mem_cons_of_mem _ hp)
    have ne : p.1 ≠ a := fun q => nd.1 (List.mem_map.mpr ⟨p, hp, q⟩)
    have f := fr p (List.mem_cons_of_mem _ hp)
    exact ⟨g2 _ (by rw [f.1, decide_eq_false ne]; rfl), by rw [upd_ne ne]; exact f.2⟩
/-- the pairs of a zip -/
def prL : List Addr → List V → List V → List (Addr × HO)
  | q :: qs, x :: xs, y :: ys => (q, .tup [x, y]) :: prL qs xs ys
  | _, _, _ => []
theorem prL_keys : ∀ {qs : List Addr} {xs ys : List V}, qs.length = xs.length → xs.length = ys.length → (prL qs xs ys).map (·.1) = qs
  | [], _, _, _, _ => rfl
  | q :: qs, [], _, h, _ => nomatch h
  | q :: qs, x :: xs, [], _, h => nomatch h
  | q :: qs, x :: xs, y :: ys, h1, h2 => congrArg (q :: ·) (prL_keys (Nat.succ.inj h1) (Nat.succ.inj h2))
theorem prL_at : ∀ {qs : List Addr} {xs ys : List V} {p : Addr × HO}, p ∈ prL qs xs ys → ∃ (j : Nat) (x y : V), qs[j]? = some p.1 ∧ xs[j]? = some x ∧ ys[j]? = some y ∧ p.2 = .tup [x, y]
  | [], _, _, _, h => by cases h
  | _ :: _, [], _, _, h => by cases h
  | _ :: _, _ :: _, [], _, h => by cases h
  | q :: qs, x :: xs, y :: ys, p, h => by
    rcases List.mem_cons.mp h with h | h
    · subst h; exact ⟨0, x, y, rfl, rfl, rfl, rfl⟩
    · obtain ⟨j, x', y', e1, e2, e3, e4⟩ := prL_at h
      exact ⟨j + 1, x', y', e1, e2, e3, e4⟩
theorem reps_zip {K : PySem.W.Frag} {F : Hp} : ∀ {qs : List Addr} {xs ys : List V} {ds es : List D}, RepL K F xs ds → RepL K F ys es → qs.length = xs.length → xs.length = ys.length → (∀ p ∈ prL qs xs ys, F p.1 = some p.2) → RepL K F (qs.map V.ref) (zipL ds es)
  | [], [], [], _, _, .nil, .nil, _, _, _ => .nil
  | q :: qs, x :: xs, y :: ys, _, _, .cons r1 t1, .cons r2 t2, h1, h2, h => .cons (.tup (h _ List.mem_cons_self) (.cons r1 (.cons r2 .nil))) (reps_zip t1 t2 (Nat.succ.inj h1) (Nat.succ.inj h2) fun p hp => h p (List.mem_cons_of_mem _ hp))
section
variable {prog : Program} {w : World} {A : Around} {E : Value → Shared → Prop} {s : Shared} {z TI TO i1 i2 l1 l2 : Addr} {xs ys : Array Value}
theorem code_tuple_zip {Q₁ : Value → Shared → Prop} (hA : A.handled = none) (D : ZipApart z TI TO i1 i2 l1 l2) (hn : min xs.size ys.size ≤ sizeLine)
    (q1 : IsZip s.heap z TI TO .none) (q2 : IsPair s.heap TI (.ref i1) (.ref i2)) (q3 : ∃ a b, IsPair s.heap TO a b) (q4 : s.heap.IsTupleIter i1 l1 0) (q5 : s.heap.IsTupleIter i2 l2 0) (q6 : s.heap.IsTuple l1 xs) (q7 : s.heap.IsTuple l2 ys)
    (h : ∀ h' acc, (∀ b o, b ∉ [z, TO, i1, i2] → s.heap.get? b = some o → h'.get? b = some o) → ZT.Prs s.heap h' [z, TO, i1, i2] xs ys acc (min xs.size ys.size) → ZT.Apt acc (min xs.size ys.size) → Q₁ (.ref h'.objs.size) { s with heap := h'.push { cls := .type "tuple", data := .seq acc } }) :
    codeAny (model prog w) A (.call (.builtin "tuple.__new__") ⟨[.type "tuple", .ref z], []⟩) (wants Q₁ E) s := by
  refine codeAny_of_tree ?_
  show wpAny _ A.in1 (do checkBuiltinCall "tuple.__new__" ⟨[.type "tuple", .ref z], []⟩; again (.builtin "tuple.__new__" ⟨[.type "tuple", .ref z], []⟩)) _ _ s
  refine wpAny_bind (wpAny_of_eq (F.newCall_tuple_1 _) (wpAny_pure ⟨plainId_quiet F.plain_tuple_new _, codeAny_builtin F.entry_tuple_new ?_⟩))
  rw [Around.under_plainId F.plain_tuple_new _]
  have hsub := sub_tuple_self
  have hinit := init_tuple_lookup
  have hmh := madeHere_tuple
  have hTI : s.TypeIs (.ref z) "zip" := ⟨_, q1, rfl⟩
  wp_walk using wpAny_typeOf hTI, ZT.collect_zip (A := A.in1) hA D hn q1 q2 q3 q4 q5 q6 q7
  intro h' acc hk hacc hap
  show wpAny _ _ (Builtin.Tuple.tupleExact acc.toList.toArray >>= fun v => ret v) _ _ _
  unfold Builtin.Tuple.tupleExact
  refine wpAny_bind (wpAny_newObj_type ?_ (by show acc.toList.toArray.size ≤ sizeLine; simp only [Array.toArray_toList]; rw [hacc.1]; exact hn))
  refine wpAny_pure ?_
  have e : acc.toList.toArray = acc := by simp
  rw [e]
  exact h h' acc hk hacc hap
theorem call_tuple_zip {Q : Value → Shared → Prop} (hA : A.handled = none) (D : ZipApart z TI TO i1 i2 l1 l2) (hn : min xs.size ys.size ≤ sizeLine)
    (q1 : IsZip s.heap z TI TO .none) (q2 : IsPair s.heap TI (.ref i1) (.ref i2)) (q3 : ∃ a b, IsPair s.heap TO a b) (q4 : s.heap.IsTupleIter i1 l1 0) (q5 : s.heap.IsTupleIter i2 l2 0) (q6 : s.heap.IsTuple l1 xs) (q7 : s.heap.IsTuple l2 ys)
    (hQ : ∀ h' acc, (∀ b o, b ∉ [z, TO, i1, i2] → s.heap.get? b = some o → h'.get? b = some o) → ZT.Prs s.heap h' [z, TO, i1, i2] xs ys acc (min xs.size ys.size) → ZT.Apt acc (min xs.size ys.size) → Q (.ref h'.objs.size) { s with heap := h'.push { cls := .type "tuple", data := .seq acc } }) :
    wpAny (model prog w) A (call (.type "tuple") [.ref z]) Q E s := by
  refine callType_codes (Q₁ := fun obj s₁ => s₁.TypeIs obj "tuple" ∧ Q obj s₁) F.called_tuple (F.typeCall_tuple_1 _) F.entry_object_init
    (code_tuple_zip (A := A.in1) hA D hn q1 q2 q3 q4 q5 q6 q7 fun h' acc hk hacc hap => ⟨⟨_, Heap.get?_push_size _ rfl, rfl⟩, hQ h' acc hk hacc hap⟩) fun obj s₁ h₁ => ?_
  exact ⟨h₁.1, F.args_object_init_2 obj _, object_init_meets F.called_tuple.init.lookup F.called_tuple.made (by decide) prog w A.in1 _ s₁ ⟨h₁.1, rfl, h₁.2⟩⟩
end
/-- addresses of pairs: apart, new -/
theorem prs_addrs {h0 h' : Heap} {bad : List Addr} {us ws : List Value} {acc : Array Value} {n : Nat} (P : ZT.Prs h0 h' bad us.toArray ws.toArray acc n) (hu : us.length = n) (hw : ws.length = n) :
    ∃ qs : List Addr, acc.toList = qs.map Value.ref ∧ qs.length = n ∧ ∀ (j : Nat) (q : Addr), qs[j]? = some q → ∃ x y, us[j]? = some x ∧ ws[j]? = some y ∧ IsPair h' q x y ∧ h0.objs.size ≤ q ∧ q ∉ bad := by
  obtain ⟨hs, P⟩ := P
  have go : ∀ m, m ≤ n → ∃ qs : List Addr, acc.toList.take m = qs.map Value.ref ∧ qs.length = m ∧ ∀ (j : Nat) (q : Addr), qs[j]? = some q → ∃ x y, us[j]? = some x ∧ ws[j]? = some y ∧ IsPair h' q x y ∧ h0.objs.size ≤ q ∧ q ∉ bad := fun m => by
    induction m with
    | zero => exact fun _ => ⟨[], rfl, rfl, fun j q h => by simp at h⟩
    | succ m ih =>
      intro hm
      obtain ⟨qs, e1, e2, e3⟩ := ih (by omega)
      obtain ⟨p, x, y, f1, f2, f3, f4, f5, f6⟩ := P m (by omega)
      refine ⟨qs ++ [p], ?_, by rw [List.length_append, e2]; rfl, fun j q h => ?_⟩
      · rw [List.take_succ, e1, List.map_append, show acc.toList[m]? = some (.ref p) by rw [Array.getElem?_toList]; exact f1]
        rfl
      · rw [List.getElem?_append] at h
        split at h
        · exact e3 j q h
        · rename_i hj
          rw [e2] at hj h
          have : j - m = 0 := by
            rcases Nat.eq_zero_or_pos (j - m) with z | z
            · exact z
            · rw [List.getElem?_eq_none (by simp; omega)] at h; cases h
          have hjm : j = m := by omega
          subst hjm
          rw [this] at h
          cases h
          exact ⟨x, y, by simpa using f2, by simpa using f3, f4, f5, f6⟩
  obtain ⟨qs, e1, e2, e3⟩ := go n (Nat.le_refl _)
  exact ⟨qs, by rw [← e1, List.take_of_length_le (by rw [Array.length_toList, hs]; exact Nat.le_refl _)], e2, e3⟩
theorem apt_nodup {acc : Array Value} {qs : List Addr} (e : acc.toList = qs.map Value.ref) (a : ZT.Apt acc qs.length) : qs.Nodup := by
  refine List.pairwise_iff_getElem.mpr fun i j hi hj hij h => ?_
  refine absurd (a i j hi hj ?_) (by omega)
  rw [← Array.getElem?_toList, ← Array.getElem?_toList, e, List.getElem?_map, List.getElem?_map, List.getElem?_eq_getElem hi, List.getElem?_eq_getElem hj, h]
/-- tuple(zip(a, b)) of two tuples of one length -/
def tTZip (K : PySem.W.Frag) (ta : TA) : TE := fun σ H Q => ta σ H fun vs H1 => ∃ (a b : Addr) (xs ys : List V), vs = [.ref a, .ref b] ∧ SqT K H1 a xs ∧ SqT K H1 b ys ∧ xs.length = ys.length ∧ xs.length ≤ 1000 ∧
  ∀ (qs : List Addr) (p : Addr), qs.length = xs.length → qs.Nodup → (∀ q ∈ qs, H1 q = none) → updAll H1 (prL qs xs ys) p = none → Q (.ref p) (upd (updAll H1 (prL qs xs ys)) p (.tup (qs.map .ref)))
theorem vals_at : ∀ {xs : List V} {us : List Value} {j : Nat} {u : Value}, Vals xs us → us[j]? = some u → ∃ x, xs[j]? = some x ∧ RelV x u
  | [], [], _, _, .nil, e => by simp at e
  | x :: xs, u :: us, 0, _, .cons r _, e => by cases e; exact ⟨x, rfl, r⟩
  | x :: xs, u :: us, j + 1, _, .cons _ t, e => vals_at (xs := xs) (us := us) t e
theorem pe_tzip {X : Cx} {e e2 : Expr} {ta : TA} {p q pos pos2 : Pos} (hcalm : X.calm = true) (hgD : Gl X "tuple") (hmD : X.mg "tuple" = none) (hgZ : Gl X "zip") (hmZ : X.mg "zip" = none) (ha : PA X [e, e2] ta)
    (hs : starEach [e, e2] X.env = (false, eval e X.env) :: starEach [e2] X.env := by rfl) (hpl : (backTo pos2 (starEach [e2] X.env)).any (·.1) = false := by rfl)
    (hs0 : starEach [Expr.Call (.Name "zip" q) [e, e2] [] pos2] X.env = (false, eval (.Call (.Name "zip" q) [e, e2] [] pos2) X.env) :: starEach [] X.env := by rfl) (hp0 : (backTo pos (starEach [] X.env)).any (·.1) = false := by rfl) :
    PE X (.Call (.Name "tuple" p) [.Call (.Name "zip" q) [e, e2] [] pos2] [] pos) (tTZip X.K ta) := by
  refine ⟨fun pins s σ H Q I h => ?_⟩
  refine Call_ (ld_blt I hgD hmD PyProof.Rows.boot_tuple (PyProof.Rows.callWith_type1 ?_ hs0 hp0))
  rw [hs0]
  show wpAny _ _ (spliced ((false, eval (.Call (.Name "zip" q) [e, e2] [] pos2) X.env) :: backTo pos (starEach [] X.env))) _ _ s
  refine Calls.spliced_cons ?_
  refine Call_ (ld_blt I hgZ hmZ PyProof.Rows.boot_zip (PyProof.Rows.callWith_type1 (thn (ha.run pos2 pins s σ H _ I h) fun us s1 ⟨vs, H1, I1, r1, q1⟩ => ?_) hs hpl))
  obtain ⟨a, b, xs, ys, ex, sa, sb, hl, hz, q1⟩ := q1
  subst ex
  cases r1 with
  | cons r rr =>
    cases rr with
    | cons r' rr =>
      cases rr
      cases r
      cases r'
      obtain ⟨its, rv, p1, _⟩ := I1.tuple sa
      obtain ⟨its2, rv2, p2, _⟩ := I1.tuple sb
      obtain ⟨o1, ho1, _⟩ := id p1
      obtain ⟨o2, ho2, _⟩ := id p2
      have D := PySem.W.ktu_apart s1.heap.objs.size a b (Heap.lt_size ho1) (Heap.lt_size ho2)
      have l1 : its.length = xs.length := by rw [← rv.length]
      have l2 : its2.length = xs.length := by rw [← rv2.length, hl]
      refine RZ.call_zipT (show s1.heap.IsTuple a its.toArray from p1) (show s1.heap.IsTuple b its2.toArray from p2) fun h' hz0 hTI hTO h1 h2 hsz hk => ?_
      refine Calls.spliced_nil ?_
      have hn : min its.toArray.size its2.toArray.size = xs.length := by simp [l1, l2]
      refine call_tuple_zip (I.ok.hd hcalm) D (by rw [hn]; exact Nat.le_trans hz (by decide)) hz0 hTI ⟨_, _, hTO⟩ h1 h2 ((show s1.heap.IsTuple a its.toArray from p1).at fun o e => hk _ o e) ((show s1.heap.IsTuple b its2.toArray from p2).at fun o e => hk _ o e) fun h'' acc hk' hprs hapt => ?_
      rw [hn] at hprs hapt
      obtain ⟨qs, e1, e2, e3⟩ := prs_addrs hprs l1 l2
      have nd : qs.Nodup := apt_nodup e1 (by rw [e2]; exact hapt)
      have kp : ∀ b o, s1.heap.get? b = some o → h''.get? b = some o := fun b o eb => hk' b o (fun hb => by
          have hlt := Heap.lt_size eb
          simp only [List.mem_cons, List.not_mem_nil, or_false] at hb
          rcases hb with rfl | rfl | rfl | rfl
          · exact absurd hlt (Nat.not_lt.mpr (Nat.le_add_right _ _))
          · exact absurd hlt (Nat.not_lt.mpr (Nat.le_add_right _ _))
          · exact absurd hlt (Nat.lt_irrefl _)
          · exact absurd hlt (Nat.not_lt.mpr (Nat.le_add_right _ _))) (hk b o eb)
      have new : ∀ q ∈ qs, s1.heap.get? q = none ∧ H1 q = none := fun q hq => by
        obtain ⟨j, hj⟩ := List.mem_iff_getElem?.mp hq
        obtain ⟨x, y, _, _, _, f5, f6⟩ := e3 j q hj
        have hge : s1.heap.objs.size ≤ q := Nat.le_trans (by rw [hsz]; exact Nat.le_add_right _ _) f5
        refine ⟨?_, I1.hok.fresh hge⟩
        cases z : s1.heap.get? q with
        | none => rfl
        | some o => exact absurd (Heap.lt_size z) (Nat.not_lt.mpr hge)
      have keys := prL_keys (qs := qs) (xs := xs) (ys := ys) e2 hl
      have I2 : Inv X pins σ (updAll H1 (prL qs xs ys)) { s1 with heap := h'', toks := s1.toks } := laidAll I1 kp (by rw [keys]; exact nd) (fun p hp => new p.1 (by rw [← keys]; exact List.mem_map_of_mem (f := fun x : Addr × HO => x.1) hp)) (fun p hp G g eg => by
        obtain ⟨j, x, y, g1, g2, g3, g4⟩ := prL_at hp
        obtain ⟨u, w, f1, f2, f3, _⟩ := e3 j p.1 g1
        obtain ⟨x', k1, r1⟩ := vals_at rv f1
        obtain ⟨y', k2, r2⟩ := vals_at rv2 f2
        rw [g2] at k1
        rw [g3] at k2
        cases k1
        cases k2
        rw [g4]
        exact ⟨show 2 ≤ sizeLine by decide, [u, w], .cons r1 (.cons r2 .nil), _, eg.trans f3, rfl, _, rfl⟩) fun p hp => by
        obtain ⟨j, x, y, g1, _⟩ := prL_at hp
        obtain ⟨u, w, f1, f2, f3, _⟩ := e3 j p.1 g1
        rw [f3]
        rfl
      have fr := I2.hok.fresh (Nat.le_refl h''.objs.size)
      refine ⟨.ref h''.objs.size, upd (updAll H1 (prL qs xs ys)) h''.objs.size (.tup (qs.map .ref)), I2.laid (t' := s1.toks) (fun b u e => Heap.get?_push_of_some _ e) (Nat.le_refl _) ?_, rfl, q1 qs _ e2 nd (fun q hq => (new q hq).2) fr⟩
      refine ⟨by rw [List.length_map, e2]; exact Nat.le_trans hz (by decide), qs.map .ref, ?_, ?_⟩
      · clear e1 e2 e3 nd new keys I2 fr hprs hapt
        induction qs with
        | nil => exact .nil
        | cons q qs ih => exact .cons rfl ih
      · rw [← e1]
        exact ⟨_, Heap.get?_push_size _ rfl, rfl, _, congrArg (fun a => Data.seq a _) (Array.toArray_toList (xs := acc)).symm⟩
section
variable {X : Cx} {c : Fc} {W : WX}
def tzipD (ta : TDA) : TD := fun δ Q E => ta δ (fun as δ1 => ∃ xs ys : List D, as = [.d (.tup xs), .d (.tup ys)] ∧ xs.length = ys.length ∧ xs.length ≤ 1000 ∧ Q (.d (.tup (zipL xs ys))) δ1) E
theorem pd_tzip {e e2 : Expr} {ta : TDA} {p q pos pos2 : Pos} (hcalm : X.calm = true) (hgD : Gl X "tuple") (hmD : X.mg "tuple" = none) (hgZ : Gl X "zip") (hmZ : X.mg "zip" = none) (ha : PA X [e, e2] (LA X.K c W ta))
    (hs : starEach [e, e2] X.env = (false, eval e X.env) :: starEach [e2] X.env := by rfl) (hpl : (backTo pos2 (starEach [e2] X.env)).any (·.1) = false := by rfl)
    (hs0 : starEach [Expr.Call (.Name "zip" q) [e, e2] [] pos2] X.env = (false, eval (.Call (.Name "zip" q) [e, e2] [] pos2) X.env) :: starEach [] X.env := by rfl) (hp0 : (backTo pos (starEach [] X.env)).any (·.1) = false := by rfl) :
    PE X (.Call (.Name "tuple" p) [.Call (.Name "zip" q) [e, e2] [] pos2] [] pos) (LE X.K c W (tzipD ta)) :=
  PE_imp (pe_tzip hcalm hgD hmD hgZ hmZ ha hs hpl hs0 hp0) fun σ H Q ⟨δ, tmp, Qd, Ed, S, t, k, w⟩ => ⟨δ, tmp, _, Ed, S, t, fun vs as δ1 F ow H1 ⟨xs, ys, ea, hl, hz, q⟩ S1 ra => by
    subst ea
    cases ra with
    | d r1 ra =>
      cases ra with
      | d r2 ra =>
        cases ra
        cases r1 with
        | @tup pa va _ s1 q1 =>
          cases r2 with
          | @tup pb vb _ s2 q2 =>
            refine ⟨_, _, _, _, rfl, SqT.of (S1.fh _ _ s1), SqT.of (S1.fh _ _ s2), q1.len.trans (hl.trans q2.len.symm), Nat.le_trans (Nat.le_of_eq q1.len) hz, fun qs p h1 h2 h3 h4 => ?_⟩
            have keys := prL_keys h1 (q1.len.trans (hl.trans q2.len.symm))
            have nd : ((prL qs va vb).map (·.1)).Nodup := by rw [keys]; exact h2
            have ext := Ext.newAll S1.fh nd fun pr hp => h3 _ (by rw [← keys]; exact List.mem_map_of_mem (f := fun x : Addr × HO => x.1) hp)
            have S2 := S1.ext ext
            have ext2 := Ext.new (o := .tup (qs.map .ref)) ext.fh h4
            have S3 := S2.ext ext2
            refine k _ _ _ _ q ⟨_, _, S3.push (.tup upd_same ?_)⟩
            exact reps_zip ((q1.mono ext.f).mono ext2.f) ((q2.mono ext.f).mono ext2.f) h1 (q1.len.trans (hl.trans q2.len.symm)) fun pr hp => ext2.f _ _ (updAll_at nd hp), w⟩
end
end DL
namespace DR
open PySem PySem.Spec PyProof.Rows L2 DL
theorem tzip {δ : DSt} {Q : DK} {E : XD} {ta : TDA} (h : ta δ (fun as δ1 => ∃ xs ys : List DL.D, as = [.d (.tup xs), .d (.tup ys)] ∧ xs.length = ys.length ∧ xs.length ≤ 1000 ∧ Q (.d (.tup (zipL xs ys))) δ1) E) : tzipD ta δ Q E := h
end DR

set_option Elab.async false
set_option linter.all false
set_option maxRecDepth 100000
set_option maxHeartbeats 2000000
/-! DL49: sum and any of a tuple of whole numbers -/
namespace DL
open PySem PySem.Spec PyProof.Rows L2
open PySem.Sem (wp)
theorem iter_anyT {prog : Program} {w : World} {A : Around} {E : Value → Shared → Prop} {s : Shared} {l : Addr} {items : Array Value} {Q : Value → Shared → Prop} (hl : s.heap.IsTuple l items)
    (h : ∀ s₂ : Shared, s₂ = { s with heap := s.heap.push { cls := .type "tuple_iterator", data := .fields #[.ref l, .int 0 0] } } →
      (s₂.heap.IsTupleIter s.heap.objs.size l 0 ∧ s₂.heap.IsTuple l items) → (∀ b ∈ [s.heap.objs.size, l], b < s₂.heap.objs.size) → l ≠ s.heap.objs.size → Q (.ref s.heap.objs.size) s₂) : wpAny (model prog w) A (pyIter (.ref l)) Q E s := by
  have hlt : l < s.heap.objs.size := by obtain ⟨_, e, _⟩ := hl; exact Heap.lt_size e
  refine wpAny_pyIter_tuple hl (h _ rfl ⟨⟨_, Heap.get?_push_size _ rfl, rfl, rfl⟩, hl.at fun o e => Heap.get?_push_of_some _ e⟩ (fun b hb => ?_) (Nat.ne_of_lt hlt))
  show b < (s.heap.push _).objs.size
  rw [Heap.size_push]
  simp only [List.mem_cons, List.not_mem_nil, or_false] at hb
  rcases hb with rfl | rfl
  · exact Nat.lt_succ_self _
  · exact Nat.lt_succ_of_lt hlt
theorem sum_rawT {prog : Program} {w : World} {A : Around} {E : Value → Shared → Prop} {s : Shared} {l : Addr} {its : List Value} {ns : List Int} {Q : Value → Shared → Prop} (hh : A.handled = none) (hl : s.heap.IsTuple l its.toArray) (hi : IntsAre its ns)
    (h : ∀ h' tk t', (∀ b o, s.heap.get? b = some o → h'.get? b = some o) → Q (.int ns.sum t') { s with heap := h', toks := tk }) : wpAny (model prog w) A (call (.builtin "sum") [.ref l]) Q E s := by
  obtain ⟨xs, e⟩ := hi.allInts.items
  have hn : numsOf (intItems xs).toList = ns := by rw [← e]; exact hi.numsOf
  rw [nums_intItems] at hn
  rw [e] at hl
  refine call_sum_walkG (iter_anyT hl fun s₂ e st hfp hlI => ?_)
  subst e
  refine ⟨_, _, _, _, _, _, numAt xs, rfl, Walks.tuple (A := A.in1) hh _ l hlI (intItems xs), st, hfp, (fun _ _ => intItems_at), fun h' tk t' hk => ?_⟩
  have := h h' tk t' fun b o eo => hk b o (fun hmem => by
    have := List.mem_singleton.mp hmem
    exact absurd (this ▸ Heap.lt_size eo) (Nat.lt_irrefl _)) (Heap.get?_push_of_some _ eo)
  rw [show (intItems xs).size = xs.size by simp [intItems], preSum_eq, List.take_of_length_le (by simp), hn]
  exact this
def rSumT (K : PySem.W.Frag) : List V → Hp → VK → Prop := fun vs H Q => ∃ (a : Addr) (ns : List Int), vs = [V.ref a] ∧ SqT K H a (ns.map V.int) ∧ Q (.int ns.sum) H
def rAnyI (K : PySem.W.Frag) : List V → Hp → VK → Prop := fun vs H Q => ∃ (a : Addr) (ns : List Int), vs = [V.ref a] ∧ SqT K H a (ns.map V.int) ∧ Q (.bl (ns.any fun i => i != 0)) H
theorem truth_ints {prog : Program} {w : World} {A : Around} {ns : List Int} {its : List Value} (e : Vals (ns.map V.int) its) : TruthOf prog w A (fun i v => its.toArray[i]? = some v) (fun i => ns.getD i 0 != 0) := fun i v s Q E hv hq => by
  have hv' : its[i]? = some v := by simpa using hv
  obtain ⟨x, hx, r⟩ := vals_at e hv'
  rw [List.getElem?_map] at hx
  obtain ⟨n, hn, rfl⟩ := Option.map_eq_some_iff.mp hx
  obtain ⟨t, rfl⟩ := (show ∃ t, v = Value.int n t from r)
  have hg : ns.getD i 0 = n := by rw [List.getD_eq_getElem?_getD, hn]; rfl
  have hq' : Q (ns.getD i 0 != 0) s := hq
  rw [hg] at hq'
  exact PyProof.Rows.truthy_int hq'
theorem any_rangeI : ∀ ns : List Int, ((List.range ns.length).any fun i => ns.getD i 0 != 0) = ns.any fun i => i != 0
  | [] => rfl
  | b :: bs => by
    rw [List.length_cons, List.range_succ_eq_map, List.any_cons, List.any_map, List.any_cons, ← any_rangeI bs]
    rfl
section
variable {X : Cx} {K : PySem.W.Frag}
theorem cr_sumT (hc : X.calm = true) : CallR X (.builtin "sum") (rSumT X.K) := by
  intro pins s σ H vs us Q I r h
  obtain ⟨a, ns, rfl, hs, q⟩ := h
  obtain ⟨its, rv, hl, _⟩ := I.tuple hs
  rw [Vals.ref1 r]
  exact sum_rawT (I.ok.hd hc) hl rv.ints fun h' tk t' hk => ⟨.int _, H, I.kept hk, ⟨_, rfl⟩, q⟩
theorem cr_anyI (hc : X.calm = true) : CallR X (.builtin "any") (rAnyI X.K) := by
  intro pins s σ H vs us Q I r h
  obtain ⟨a, ns, rfl, hs, q⟩ := h
  obtain ⟨its, rv, hl, _⟩ := I.tuple hs
  rw [Vals.ref1 r]
  refine call_any_walk (iter_anyT hl fun s₂ e2 st _ hne => ?_)
  subst e2
  refine ⟨_, _, _, _, _, _, _, rfl, Walks.tuple (A := X.A.in1) (I.ok.hd hc) _ a hne its.toArray, st, truth_ints rv, fun h' tk hk => ?_⟩
  refine ⟨.bl _, H, I.kept fun b o eo => hk b o (fun hmem => ?_) (Heap.get?_push_of_some _ eo), ?_, q⟩
  · rcases List.mem_cons.mp hmem with e1 | hmem
    · exact absurd (e1 ▸ Heap.lt_size eo) (Nat.lt_irrefl _)
    · cases hmem
  · show Value.bool _ = Value.bool _
    rw [← any_rangeI, List.size_toArray, ← rv.length, List.length_map]
abbrev sumTS : RDNs := fun ds Q => ∃ ns : List Int, ds = [.tup (ns.map .int)] ∧ Q (.int ns.sum)
abbrev anyIS : RDNs := fun ds Q => ∃ ns : List Int, ds = [.tup (ns.map .int)] ∧ Q (.bl (ns.any fun i => i != 0))
theorem cn_sumT : CallNs K (rSumT K) sumTS := fun xs ds F H Q Qd s r ⟨bs, e, q⟩ k => by
  subst e
  cases r with
  | cons r t =>
    cases t
    cases r with
    | tup s1 r1 =>
      cases repL_int r1
      exact ⟨_, bs, rfl, SqT.of (s _ _ s1), k _ _ q rfl⟩
theorem cn_anyI : CallNs K (rAnyI K) anyIS := fun xs ds F H Q Qd s r ⟨bs, e, q⟩ k => by
  subst e
  cases r with
  | cons r t =>
    cases t
    cases r with
    | tup s1 r1 =>
      cases repL_int r1
      exact ⟨_, bs, rfl, SqT.of (s _ _ s1), k _ _ q rfl⟩
end
end DL

set_option Elab.async false
set_option linter.all false
set_option maxRecDepth 100000
set_option maxHeartbeats 2000000
/-! DL50: own * with a whole number on the right; - of an own object -/
namespace DL
open PySem PySem.Spec PyProof.Rows L2
open PySem.Sem (wp)
section
variable {X : Cx} {k : Nat} {f C : Addr} {fd : FuncData} {ps : List Str} {sp : Sp} {E : L2.St → XK} {a b : Expr} {ta tb : TE} {pos : Pos} {r : L2.St → R2}
/-- an operator of C with a whole number on the right -/
structure BinT (K : PySem.W.Frag) (C : Addr) (op : Operator) (f : Addr) : Prop where
  sf : PySem.W.selfFirst K C = true
  at_ : PySem.W.findIn K (.ref C) (PySem.dunder op.info.2) = some (some (.ref f))
  fn : PySem.W.isFn K (.ref f) = true
  rv : PySem.W.findIn K (.ref C) (PySem.dunderR op.info.2) = some none
  i1 : ∃ fo, PySem.W.findIn K (.type "int") (PySem.dunder op.info.2) = some fo
  i2 : ∃ ro, PySem.W.findIn K (.type "int") (PySem.dunderR op.info.2) = some ro
  sub : PySem.W.subIn K (.type "int") (.ref C) = some false
def rInt (C : Addr) (sp : Sp) (E : L2.St → XK) : L2.St → R2 := fun τ x y G Q => ∃ p d us i, x = .ref p ∧ y = .int i ∧ G p = some (.ins C d us) ∧ sp [x, y] G Q (E τ)
theorem op_binT {op : Operator} (B : BinT X.K C op f) (F : FnOk X.prog X.w X.K X.mg X.base (L2.CX X.prog X.w) k f fd ps sp) (room : Room k X.A) (bd : Binds X.K fd ps [])
    (hx : ∀ τ, PassesAt (L2.CX X.prog X.w) X τ (E τ)) : OpS X (binaryOp op) (rInt C sp E) := by
  rintro pins t τ G x y v u Q I rx ry ⟨p, d, us, i, rfl, rfl, hp, h⟩
  obtain rfl : v = Value.ref p := rx
  obtain ⟨tk, rfl⟩ : ∃ tk, u = Value.int i tk := ry
  obtain ⟨_, O, _⟩ := ins_get I.hok hp
  obtain ⟨_, J, _⟩ := O.look
  obtain ⟨_, fr⟩ := I.fr
  obtain ⟨fo, i1⟩ := B.i1
  obtain ⟨ro, i2⟩ := B.i2
  refine PySem.W.ksp_binT (op := op) (T := "int") fr I.ok.mod.kin J rfl B.sf B.at_ B.fn B.rv (.inl rfl) i1 i2 B.sub ?_
  exact wpAny_mono (run_fnS (E := E) F room bd (hx τ) I (.cons (show RelV (V.ref p) (Value.ref p) from rfl) (.cons (show RelV (V.int i) (Value.int i tk) from ⟨tk, rfl⟩) .nil)) h) (fun z t2 ⟨y, G2, I2, ry, qy⟩ => SlX.cmpback ry ⟨y, G2, I2, ry, qy⟩) fun _ _ z => z
/-- - of an own object -/
def tNegO (C : Addr) (sp : Sp) (E : L2.St → XK) (ta : TE) : TE := fun τ G Q => ta τ G fun x G1 => ∃ p d us, x = .ref p ∧ G1 p = some (.ins C d us) ∧ sp [x] G1 Q (E τ)
structure NegOf (K : PySem.W.Frag) (C f : Addr) : Prop where
  at_ : PySem.W.findIn K (.ref C) "__neg__" = some (some (.ref f))
  fn : PySem.W.isFn K (.ref f) = true
theorem pe_negO (B : NegOf X.K C f) (F : FnOk X.prog X.w X.K X.mg X.base (L2.CX X.prog X.w) k f fd ps sp) (room : Room k X.A) (bd : Binds X.K fd ps []) (hx : ∀ τ, PassesAt (L2.CX X.prog X.w) X τ (E τ)) (ha : PE X a ta) : PE X (.UnaryOp .USub a pos) (tNegO C sp E ta) := by
  refine ⟨fun pins t τ G Q I h => UnaryOp_ (thn (ha.run pins t τ G _ I h) fun v t1 ⟨x, G1, I1, r1, q1⟩ => ?_)⟩
  obtain ⟨p, d, us, rfl, hp, h⟩ := q1
  obtain rfl : v = Value.ref p := r1
  obtain ⟨_, O, _⟩ := ins_get I1.hok hp
  obtain ⟨_, J, _⟩ := O.look
  obtain ⟨_, fr⟩ := I1.fr
  refine PySem.W.ksp_neg fr I1.ok.mod.kin J B.at_ B.fn ?_
  exact run_fnS (E := E) F room bd (hx τ) I1 (.cons (show RelV (V.ref p) (Value.ref p) from rfl) .nil) h
end
section
variable {X : Cx} {c : Fc} {W : WX} {k : Nat} {f C : Addr} {fd : FuncData} {ps : List Str} {sd : SpD} {a b : Expr} {ta tb : TD} {pos : Pos}
def intD (C : Addr) (sd : SpD) (ta tb : TD) : TD := fun δ Q E => ta δ (fun x δ1 => tb δ1 (fun y δ2 => ∃ fs i, x.toD = .obj C fs ∧ y.toD = .int i ∧ sd [.d (.obj C fs), .d (.int i)] (fun r _ => Q r δ2) (fun x _ => E x δ2)) E) E
theorem pd_binT {op : Operator} (B : BinT X.K C op f) (G : FnOk X.prog X.w X.K X.mg X.base (L2.CX X.prog X.w) k f fd ps (spOf X.K sd)) (hr : Room k X.A) (hb : Binds X.K fd ps []) (tk : Takes X W) (he : PE X a (LE X.K c W ta)) (hg : PE X b (LE X.K c W tb)) :
    PE X (.BinOp a op b pos) (LE X.K c W (intD C sd ta tb)) :=
  PE_imp (pe_opS (op_binT (E := WE W) B G hr hb fun τ => passAt tk τ) he hg) fun σ H Q ⟨δ, tmp, Qd, Ed, S, t, k, w⟩ =>
    ⟨δ, tmp, _, Ed, S, t, fun v x δ1 H1 t1 S1 => ⟨δ1, _, _, Ed, S1, t1, fun u y δ2 H2 ⟨fs, i, ex, ey, t2⟩ ⟨F, ow, S2⟩ => by
      obtain ⟨F', S3, _⟩ := S2.top_frz2
      rw [ex, ey] at S3
      have r1 := S3.pop.top
      have r2 := S3.top
      have both : ∃ p, v = .ref p ∧ u = .int i := by
        cases r1; cases r2; exact ⟨_, rfl, rfl⟩
      obtain ⟨p, rfl, rfl⟩ := both
      have s1 : ∃ d us, H2 p = some (.ins C d us) := by cases r1 with | obj s _ => exact ⟨_, _, S3.fh _ _ s⟩
      obtain ⟨d1, us1, h1⟩ := s1
      exact ⟨p, d1, us1, i, rfl, rfl, h1, lift_data (ds := [.obj C fs, .int i]) S3.pop.pop (.cons r1 (.cons r2 .nil)) t2 k w⟩, w.push⟩, w⟩
def negO (C : Addr) (sd : SpD) (ta : TD) : TD := fun δ Q E => ta δ (fun x δ1 => ∃ fs, x.toD = .obj C fs ∧ sd [.d (.obj C fs)] (fun r _ => Q r δ1) (fun x _ => E x δ1)) E
theorem pd_negO (B : NegOf X.K C f) (G : FnOk X.prog X.w X.K X.mg X.base (L2.CX X.prog X.w) k f fd ps (spOf X.K sd)) (hr : Room k X.A) (hb : Binds X.K fd ps []) (tk : Takes X W) (he : PE X a (LE X.K c W ta)) : PE X (.UnaryOp .USub a pos) (LE X.K c W (negO C sd ta)) :=
  PE_imp (pe_negO (E := WE W) B G hr hb (fun τ => passAt tk τ) he) fun σ H Q ⟨δ, tmp, Qd, Ed, S, t, k, w⟩ =>
    ⟨δ, tmp, _, Ed, S, t, fun v x δ1 H1 ⟨fs, ex, t2⟩ ⟨F, ow, S1⟩ => by
      obtain ⟨F', S3, _⟩ := S1.top_frz
      rw [ex] at S3
      have r1 := S3.top
      have both : ∃ p, v = .ref p := by cases r1; exact ⟨_, rfl⟩
      obtain ⟨p, rfl⟩ := both
      have s1 : ∃ d us, H1 p = some (.ins C d us) := by cases r1 with | obj s _ => exact ⟨_, _, S3.fh _ _ s⟩
      obtain ⟨d1, us1, h1⟩ := s1
      exact ⟨p, d1, us1, rfl, h1, lift_data (ds := [.obj C fs]) S3.pop (.cons r1 .nil) t2 k w⟩, w⟩
/-- an operator of C with a whole number on the right -/
structure DefBT (P : Program) (w : World) (K : PySem.W.Frag) (mg : Str → Option Value) (base : Heap) (C : Addr) (op : Operator) (k : Nat) (ps : List Str) (sd : SpD) where
  f : Addr
  fd : FuncData
  ok : FnOk P w K mg base (L2.CX P w) k f fd ps (spOf K sd)
  b : Binds K fd ps []
  bo : BinT K C op f
structure DefNeg (P : Program) (w : World) (K : PySem.W.Frag) (mg : Str → Option Value) (base : Heap) (C : Addr) (k : Nat) (ps : List Str) (sd : SpD) where
  f : Addr
  fd : FuncData
  ok : FnOk P w K mg base (L2.CX P w) k f fd ps (spOf K sd)
  b : Binds K fd ps []
  no : NegOf K C f
end
end DL
namespace DR
open PySem PySem.Spec PyProof.Rows L2 DL
section
variable {δ : DSt} {Q : DK} {E : XD}
theorem intO {C : Addr} {sd : SpD} {ta tb : TD} (h : ta δ (fun x δ1 => tb δ1 (fun y δ2 => ∃ fs i, x.toD = .obj C fs ∧ y.toD = .int i ∧ sd [.d (.obj C fs), .d (.int i)] (fun r _ => Q r δ2) (fun x _ => E x δ2)) E) E) : intD C sd ta tb δ Q E := h
theorem negO {C : Addr} {sd : SpD} {ta : TD} (h : ta δ (fun x δ1 => ∃ fs, x.toD = .obj C fs ∧ sd [.d (.obj C fs)] (fun r _ => Q r δ1) (fun x _ => E x δ1)) E) : DL.negO C sd ta δ Q E := h
end
end DR

set_option Elab.async false
set_option linter.all false
set_option maxRecDepth 100000
set_option maxHeartbeats 2000000
/-! DL51: list(text), slices of texts -/
namespace DL
open PySem PySem.Spec PyProof.Rows L2
theorem call_listS {X : Cx} (hc : X.calm = true) : CallR X (.type "list") (fun xs H Q => ∃ z : Str, xs = [.str z] ∧ z.length ≤ sizeLine ∧ ∀ p, H p = none → Q (.ref p) (upd H p (.lst (z.cps.toList.map fun c => V.str ⟨#[c]⟩)))) := by
  intro pins s σ H xs us Q I r h
  obtain ⟨z, rfl, hz, q⟩ := h
  obtain ⟨u, rfl, rx⟩ : ∃ u, us = [u] ∧ RelV (.str z) u := by
    cases r with
    | cons r t => cases t; exact ⟨_, rfl, r⟩
  obtain ⟨t, rfl⟩ := rx
  refine PySem.call_list_str (I.ok.hd hc) z t (hn := hz) fun h' tk acc' c' hk hS' hacc => ?_
  refine ⟨.ref s.heap.objs.size, _, I.laid (t' := tk) hk (Nat.le_refl _) (show ObjOk X.prog X.w _ h' _ (.lst _) from ⟨by rw [List.length_map, Array.length_toList]; exact hz, acc'.toList, c', ?_, by simpa using hS'⟩), rfl, q _ (I.hok.fresh (Nat.le_refl _))⟩
  refine vals_of_idx _ _ (by rw [List.length_map, Array.length_toList, Array.length_toList]; exact hacc.1) fun j u hj => ?_
  obtain ⟨c, u', hc', rfl⟩ := hacc.2 j u (by simpa using hj)
  exact ⟨.str ⟨#[c]⟩, by simp [hc'], ⟨u', rfl⟩⟩
theorem reps_signs {K : PySem.W.Frag} {F : Hp} {z : Str} (h : PyData.strOk z = true) : ∀ {l : List Nat}, (∀ c ∈ l, c ∈ z.cps.toList) → RepL K F (l.map fun c => V.str ⟨#[c]⟩) (l.map fun c => D.str ⟨#[c]⟩)
  | [], _ => .nil
  | c :: l, k => .cons (.str (strOk_one h (k c List.mem_cons_self))) (reps_signs h fun d hd => k d (List.mem_cons_of_mem _ hd))
abbrev listSN : RDN := fun ds Q => ∃ z : Str, ds = [.str z] ∧ z.length ≤ sizeLine ∧ Q (.own (.lst (z.cps.toList.map fun c => D.str ⟨#[c]⟩)))
theorem cn_listS {K : PySem.W.Frag} : CallN K (fun xs H Q => ∃ z : Str, xs = [V.str z] ∧ z.length ≤ sizeLine ∧ ∀ p, H p = none → Q (.ref p) (upd H p (.lst (z.cps.toList.map fun c => V.str ⟨#[c]⟩)))) listSN := fun xs ds F H Q Qd s r ⟨z, e1, hz, q⟩ k => by
  subst e1
  cases r with
  | cons r t =>
    cases t
    cases r with
    | str ok => exact ⟨z, rfl, hz, fun l n => k _ _ _ _ q (made_list n s (reps_signs ok fun c hc => hc))⟩
theorem slice_cps (z : Str) (lo hi : Option Int) : (Txt.slice z lo hi).cps.toList = (z.cps.toList.drop (HT.sIx z.length 0 lo)).take (HT.sIx z.length z.length hi - HT.sIx z.length 0 lo) := by
  rw [← C8.cutS_slice]
  unfold cutS
  simp
theorem slice_hi {z : Str} {n : Nat} (h : n ≤ z.length) : (Txt.slice z none (some (n : Int))).cps.toList = z.cps.toList.take n := by
  rw [slice_cps]
  have e : HT.sIx z.length z.length (some (n : Int)) = n := by unfold HT.sIx; simp; split <;> omega
  have e0 : HT.sIx z.length 0 none = 0 := rfl
  rw [e, e0]
  simp
theorem slice_lo {z : Str} {n : Nat} (h : n ≤ z.length) : (Txt.slice z (some (n : Int)) none).cps.toList = z.cps.toList.drop n := by
  rw [slice_cps]
  have e : HT.sIx z.length 0 (some (n : Int)) = n := by unfold HT.sIx; simp; split <;> omega
  have e0 : HT.sIx z.length z.length none = z.length := rfl
  rw [e, e0]
  refine List.take_of_length_le ?_
  rw [List.length_drop, Array.length_toList]
  exact Nat.le_refl _
theorem strOk_cut {z : Str} {lo hi : Option Int} (h : PyData.strOk z = true) : PyData.strOk (Txt.slice z lo hi) = true := by
  unfold PyData.strOk at *
  rw [← Array.all_toList] at *
  rw [List.all_eq_true] at *
  intro c hc
  rw [slice_cps] at hc
  exact h c (List.mem_of_mem_drop (List.mem_of_mem_take hc))
abbrev sliceTx : RDS := fun a lo hi Q => ∃ z, a = .str z ∧ z.length ≤ sizeLine ∧ Q (.d (.str (Txt.slice z lo hi)))
theorem sld_txt {K : PySem.W.Frag} : SlD K C8.rSlX sliceTx := fun x a lo hi F H Q Qd s r ⟨z, e, hz, q⟩ k => by
  subst e
  cases r with
  | str ok => exact ⟨z, rfl, hz, k _ _ F H q (made_d s (.str (strOk_cut ok)))⟩
section
variable {X : Cx} {c : Fc} {W : WX}
theorem pd_sliceS {e : Expr} {lo hi : Option Expr} {t : TD} {tl th : TDO} {p2 pos : Pos} (he : PE X e (LE X.K c W t)) (hl : PO X lo (LO X.K c W tl)) (hh : PO X hi (LO X.K c W th)) : PE X (.Subscript e (.Slice lo hi none p2) pos) (LE X.K c W (sliceD sliceTx t tl th)) := pd_sliceR C8.sl_txt sld_txt he hl hh
end
end DL

set_option Elab.async false
set_option linter.all false
set_option maxRecDepth 100000
set_option maxHeartbeats 2000000
/-! DL52: xs[::-1] of a list -/
namespace DL
open PySem PySem.Spec PyProof.Rows L2
section
variable {X : Cx} {c : Fc} {W : WX}
theorem RepL.rev {K : PySem.W.Frag} {F : Hp} : ∀ {vs : List V} {ds : List D}, RepL K F vs ds → RepL K F vs.reverse ds.reverse
  | _, _, .nil => .nil
  | _, _, .cons h t => by
    rw [List.reverse_cons, List.reverse_cons]
    exact (RepL.rev t).app (.cons h .nil)
def revD (t : TD) : TD := fun δ Q E => t δ (fun x δ1 => ∃ xs, (x.toD = .lst xs ∨ x.toD = .ro xs) ∧ Q (.own (.lst xs.reverse)) δ1) E
theorem pd_revL {e : Expr} {t : TD} {k : Nat} {p1 p2 p3 pos : Pos} (he : PE X e (LE X.K c W t)) : PE X (.Subscript e (.Slice none none (some (.UnaryOp .USub (.Constant (.int 1) k p1) p2)) p3) pos) (LE X.K c W (revD t)) :=
  PE_imp (pe_revL he) fun σ H Q ⟨δ, tmp, Qd, Ed, S, q, k, w⟩ => ⟨δ, tmp, _, Ed, S, q, fun v x δ1 H1 ⟨xs, e, q1⟩ ⟨F, ow, S1⟩ => by
    obtain ⟨F2, S2, _⟩ := S1.top_frz
    have rr := S2.top
    rcases e with e | e
    · rw [e] at rr
      cases rr with
      | lst s1 r1 => exact ⟨_, _, rfl, S2.fh.seq (SqL.of s1), fun p np => k _ _ _ _ q1 ⟨_, _, S2.pop.pushNew (o := .lst _) np ⟨_, upd_same, r1.rev⟩⟩⟩
    · rw [e] at rr
      cases rr with
      | ro s1 r1 => exact ⟨_, _, rfl, S2.fh.seq s1, fun p np => k _ _ _ _ q1 ⟨_, _, S2.pop.pushNew (o := .lst _) np ⟨_, upd_same, r1.rev⟩⟩⟩, w⟩
end
end DL
namespace DR
open PySem PySem.Spec PyProof.Rows L2 DL
section
variable {δ : DSt} {Q : DK} {E : XD}
theorem slc {rd : RDS} {t : TD} {tl th : TDO} (h : t δ (fun x δ1 => tl δ1 (fun l δ2 => th δ2 (fun h δ3 => rd x.toD l h fun z => Q z δ3) E) E) E) : sliceD rd t tl th δ Q E := h
theorem slN {Q : Option Int → DSt → Prop} (h : Q none δ) : noneO δ Q E := h
theorem slS {t : TD} {Q : Option Int → DSt → Prop} (h : t δ (fun x δ1 => ∃ i, x.toD = .int i ∧ Q (some i) δ1) E) : someO t δ Q E := h
theorem rev {t : TD} (h : t δ (fun x δ1 => ∃ xs, (x.toD = .lst xs ∨ x.toD = .ro xs) ∧ Q (.own (.lst xs.reverse)) δ1) E) : revD t δ Q E := h
end
end DR

set_option Elab.async false
set_option linter.all false
set_option maxRecDepth 100000
set_option maxHeartbeats 2000000
/-! DL53: xs.count(x), texts -/
namespace DL
open PySem PySem.Spec PyProof.Rows L2
theorem countIn_str {z : Str} : ∀ {ns : List Str}, PySem.Spec.countIn (.str z) (ns.map PyData.str) = ((ns.count z : Nat) : Int)
  | [] => rfl
  | n :: ns => by
    rw [List.map_cons, PySem.Spec.countIn, countIn_str, List.count_cons]
    simp only [same]
    by_cases h : n = z
    · simp [h]; omega
    · simp [h]
def rCountS (K : PySem.W.Frag) : V → List V → Hp → VK → Prop := fun x xs H Q => ∃ (a : Addr) (ns : List Str) (z : Str), x = V.ref a ∧ xs = [.str z] ∧ SqL K H a (ns.map V.str) ∧ Q (.int ((ns.count z : Nat) : Int)) H
theorem mt_countS {X : Cx} : MtR X "list.count" (rCountS X.K) := by
  intro pins s σ H x xs v us Q I rx rxs h
  obtain ⟨a, ns, z, rfl, rfl, hs, q⟩ := h
  cases rx
  cases rxs with
  | cons ry rt =>
    cases rt
    obtain ⟨t, rfl⟩ := ry
    obtain ⟨its, rv, ⟨o, n, ho, hc, hdn, hd⟩, hlen⟩ := I.list hs
    refine count_list_strs (vs := its) (ys := ns) ⟨o, ho, hc, n, hd⟩ (Vals.strs rv) ?_
    rw [countIn_str]
    exact ⟨.int _, H, I.tok _, ⟨_, rfl⟩, q⟩
section
variable {X : Cx} {c : Fc} {W : WX}
def countD (to : TD) (ta : TDA) : TD := fun δ Q E => to δ (fun x δ1 => ∃ ns : List Str, x.toD = .lst (ns.map .str) ∧ ta δ1 (fun as δ2 => ∃ z : Str, as = [.d (.str z)] ∧ Q (.d (.int ((ns.count z : Nat) : Int))) δ2) E) E
theorem pd_count {o e : Expr} {to : TD} {ta : TDA} {apos cpos : Pos} (ho : PE X o (LE X.K c W to)) (ha : PA X [e] (LA X.K c W ta)) (hbase : attributeBase o "count" X.env (eval o X.env) = eval o X.env := by rfl)
    (hfew : ((backTo cpos (starEach [e] X.env)).all (fun x => !x.1) && (backToKw cpos (keywordEach [] X.env)).all (fun x => x.1.isSome) && decide ([e].length + ([] : List Keyword).length + (if ([] : List Keyword).isEmpty then 0 else 1) < 30)) = true := by rfl)
    (hline : (apos.endLine == cpos.line) = true := by rfl) (hs : starEach [e] X.env = (false, eval e X.env) :: starEach [] X.env := by rfl) (hplain : (backTo cpos (starEach [] X.env)).any (·.1) = false := by rfl) :
    PE X (.Call (.Attribute o "count" apos) [e] [] cpos) (LE X.K c W (countD to ta)) :=
  PE_imp (pe_bm PySem.F.plainAttrs_list PySem.F.slot_list_count PySem.F.type_list_count mt_countS ho ha hbase hfew hline hs hplain) fun σ H Q ⟨δ, tmp, Qd, Ed, S, t, k, w⟩ => ⟨δ, tmp, _, Ed, S, t, fun v x δ1 H1 ⟨ns, ex, t1⟩ ⟨F, ow, S1⟩ => by
    obtain ⟨F', S2, _⟩ := S1.top_frz
    rw [ex] at S2
    have r := S2.top
    cases r with
    | lst s1 r1 =>
      obtain ⟨rfl, _⟩ := reps_strs r1
      refine ⟨.inl ⟨rfl, _, SqL.of (S2.fh _ _ s1)⟩, δ1, _, _, Ed, ⟨F', ow, S2⟩, t1, fun vs as δ2 F2 ow2 H2 ⟨z, ea, q⟩ S3 ra => ?_, w.push⟩
      subst ea
      cases ra with
      | d rz ra =>
        cases ra
        cases rz
        have r3 := S3.top
        cases r3 with
        | lst s3 r3 =>
          obtain ⟨rfl, _⟩ := reps_strs r3
          exact ⟨_, ns, z, rfl, rfl, SqL.of (S3.fh _ _ s3), k _ _ _ _ q ⟨F2, ow2, S3.pop.push (.int _)⟩⟩, w⟩
end
end DL
namespace DR
open PySem PySem.Spec PyProof.Rows L2 DL
theorem cnt {δ : DSt} {Q : DK} {E : XD} {to : TD} {ta : TDA} (h : to δ (fun x δ1 => ∃ ns : List Str, x.toD = .lst (ns.map .str) ∧ ta δ1 (fun as δ2 => ∃ z : Str, as = [.d (.str z)] ∧ Q (.d (.int ((ns.count z : Nat) : Int))) δ2) E) E) : countD to ta δ Q E := h
end DR

set_option Elab.async false
set_option linter.all false
set_option maxRecDepth 100000
set_option maxHeartbeats 2000000
/-! DL54: a dict comprehension with plain keys, over data -/
namespace DL
open PySem PySem.Spec PyProof.Rows L2
def putKD (kvs : List (Key × D)) (k : Key) (d : D) : List (Key × D) :=
  if (kvs.any fun kv => decide (kv.1 = k)) = true then kvs.map (fun kv => if kv.1 = k then (kv.1, d) else kv) else kvs ++ [(k, d)]
theorem repK_any {K : PySem.W.Frag} {F : Hp} {k : Key} : ∀ {vs : List (Key × V)} {ds : List (Key × D)}, RepK K F vs ds → (vs.any fun kv => decide (kv.1 = k)) = (ds.any fun kv => decide (kv.1 = k))
  | _, _, .nil => rfl
  | _, _, .cons h t => by rw [List.any_cons, List.any_cons, repK_any t]
theorem repK_set {K : PySem.W.Frag} {F : Hp} {k : Key} {v : V} {d : D} (r : Rep K F v d) : ∀ {vs : List (Key × V)} {ds : List (Key × D)}, RepK K F vs ds → RepK K F (vs.map fun kv => if kv.1 = k then (kv.1, v) else kv) (ds.map fun kv => if kv.1 = k then (kv.1, d) else kv)
  | _, _, .nil => .nil
  | _, _, .cons (n := n) h t => by
    rw [List.map_cons, List.map_cons]
    by_cases e : n = k
    · rw [if_pos e, if_pos e]
      exact .cons r (repK_set r t)
    · rw [if_neg e, if_neg e]
      exact .cons h (repK_set r t)
theorem repK_snoc {K : PySem.W.Frag} {F : Hp} {k : Key} {v : V} {d : D} (r : Rep K F v d) : ∀ {vs : List (Key × V)} {ds : List (Key × D)}, RepK K F vs ds → RepK K F (vs ++ [(k, v)]) (ds ++ [(k, d)])
  | _, _, .nil => .cons r .nil
  | _, _, .cons h t => .cons h (repK_snoc r t)
theorem repK_put {K : PySem.W.Frag} {F : Hp} {k : Key} {v : V} {d : D} (r : Rep K F v d) {vs : List (Key × V)} {ds : List (Key × D)} (h : RepK K F vs ds) : RepK K F (putK vs k v) (putKD ds k d) := by
  unfold putK putKD
  rw [repK_any h]
  split
  · exact repK_set r h
  · exact repK_snoc r h
theorem repK_len {K : PySem.W.Frag} {F : Hp} : ∀ {vs : List (Key × V)} {ds : List (Key × D)}, RepK K F vs ds → vs.length = ds.length
  | _, _, .nil => rfl
  | _, _, .cons _ t => congrArg Nat.succ (repK_len t)
section
variable {X : Cx} {c : Fc} {W : WX}
def dcD (g : TDG) (tt : TDT) (tk te : TD) (vs : List Nat) : List D → List (Key × D) → DSt → (List (Key × D) → DSt → Prop) → Prop
  | [], acc, δ, Q => Q acc δ
  | x :: xs, acc, δ, Q => g x δ fun δ1 => tt δ1 (fun b δ2 => if b = true then tk δ2 (fun y δ3 => te δ3 (fun z δ4 => ∃ k : Key, y.toD = keyOne k ∧ acc.length < sizeLine ∧ dcD g tt tk te vs xs (putKD acc k z.toD) (wipeD δ4 vs) Q) noX) noX else dcD g tt tk te vs xs acc (wipeD δ2 vs) Q) noX
def dcompD (ti : TDI) (g : TDG) (tt : TDT) (tk te : TD) (vs : List Nat) : TD := fun δ Q E => ti δ (fun xs δ1 => dcD g tt tk te vs xs [] (wipeD δ1 vs) fun acc δ2 => Q (.own (.dK acc)) δ2) E
theorem lift_dcomp {K : PySem.W.Frag} {ti : TDI} {g : TDG} {tt : TDT} {tk te : TD} {vs : List Nat} (hv : ∀ i ∈ vs, i ∉ c.sl) : ∀ σ H Q, LE K c W (dcompD ti g tt tk te vs) σ H Q → tDc (LI K c W ti) (LG K c vs g) (LT K c W0 tt) (LE K c W0 tk) (LE K c W0 te) vs σ H Q := fun σ H Q ⟨δ, tmp, Qd, Ed, S, q, k, w⟩ => by
  refine ⟨δ, tmp, _, _, S, q, fun J v src items δ1 H1 q1 sv ⟨F1, ow1, S1⟩ => ?_, w⟩
  intro D nD
  have S2 := (S1.wipe hv).pushNew (o := .dK []) nD ⟨[], upd_same, .nil⟩
  refine ⟨fun i m H => m = items.length - i ∧ i ≤ items.length ∧ ∃ δ acc, Stt K c (wipeD δ vs) ((.ref D, .own (.dK acc)) :: (v, .d src) :: tmp) (wipe σ vs) H ∧ dcD g tt tk te vs (items.drop i) acc (wipeD δ vs) fun acc δ2 => Qd (.own (.dK acc)) δ2,
    ⟨items.length, by simp, Nat.zero_le _, δ1, [], ⟨_, _, S2⟩, q1⟩, ?_⟩
  rintro i m H2 ⟨rfl, hi, δ2, acc, ⟨F2, ow2, S3⟩, q2⟩
  have src2 : Rep K F2 v src := S3.tm.2.1
  by_cases hlt : i < items.length
  · refine .inr ⟨sv.go i F2 H2 S3.fh src2 hlt, fun H => i + 1 ≤ items.length ∧ ∃ δ acc, Stt K c (wipeD δ vs) ((.ref D, .own (.dK acc)) :: (v, .d src) :: tmp) (wipe σ vs) H ∧ dcD g tt tk te vs (items.drop (i + 1)) acc (wipeD δ vs) fun acc δ2 => Qd (.own (.dK acc)) δ2,
      fun H' h => ⟨items.length - (i + 1), by omega, rfl, h⟩, fun x H' y => ?_⟩
    obtain ⟨F3, e3, r3⟩ := sv.yld i F2 H2 x H' S3.fh src2 y _ (List.getElem?_eq_getElem hlt)
    rw [List.drop_eq_getElem_cons hlt] at q2
    refine ⟨wipeD δ2 vs, (.ref D, .own (.dK acc)) :: (v, .d src) :: tmp, _, _, ⟨F3, ow2, (S3.ext e3).push r3⟩, q2, fun δ4 σ4 H4 q4 S4 hw => ?_⟩
    have hw' : wipe σ4 vs = wipe σ vs := by
      rw [hw]
      have idem : ∀ (l : List Nat), (∀ i ∈ l, i ∈ vs) → wipe (wipe σ l) vs = wipe σ vs := fun l => by
        induction l with
        | nil => exact fun _ => rfl
        | cons a r ih =>
          intro h
          show wipe ((wipe σ r).set a none) vs = _
          rw [wipe_set (h a List.mem_cons_self)]
          exact ih fun i hi => h i (List.mem_cons_of_mem _ hi)
      exact idem vs fun _ h => h
    refine ⟨hw', δ4, _, _, noX, S4, q4, fun b δ5 H5 q5 ⟨F5, ow5, S5⟩ => ?_, fun _ _ _ _ _ _ _ _ z => z.elim⟩
    cases b with
    | false =>
      have S6 := S5.wipe hv
      rw [hw'] at S6
      exact ⟨hlt, δ5, acc, ⟨_, _, S6⟩, q5⟩
    | true =>
      refine ⟨δ5, _, _, noX, ⟨F5, ow5, S5⟩, q5, fun uk yk δ6 H6 q6 ⟨F6, ow6, S6⟩ => ?_, fun _ _ _ _ _ _ _ _ z => z.elim⟩
      refine ⟨δ6, _, _, noX, ⟨F6, ow6, S6⟩, q6, fun u z δ7 H7 ⟨kk, ek, hz, q7⟩ ⟨F7, ow7, S7⟩ => ?_, fun _ _ _ _ _ _ _ _ z => z.elim⟩
      obtain ⟨F8, S8, s8⟩ := S7.top_frz2
      have rk : Rep K F8 uk yk.toD := S8.pop.top
      rw [ek] at rk
      obtain rfl := key_one rk
      obtain ⟨p', e0, _, _, _, ws, ep, rw'⟩ := S8.tm.2.2.1
      cases e0
      have S9 := S8.pop.pop.writeT (o' := .dK (putKD acc kk z.toD)) (ob := .dK (putK ws kk u)) ⟨_, upd_same, repK_put S8.top rw'⟩
      have S10 := S9.wipe hv
      rw [hw'] at S10
      exact ⟨ws, kk, rfl, ep, by rw [repK_len rw']; exact hz, hlt, δ7, _, ⟨_, _, S10⟩, q7⟩
  · have e : i = items.length := by omega
    subst e
    rw [List.drop_length] at q2
    refine .inl ⟨sv.stop _ F2 H2 S3.fh src2 (Nat.le_refl _), k _ _ _ _ q2 ?_⟩
    have S4 := S3.unwipe hv
    obtain ⟨p', e0, e, b, n, r⟩ := S4.tm.1
    cases e0
    have S5 := S4.pop.pop.reown (ow' := owSet ow2 D (.t tmp.length)) (fun k a z _ => owSet_ne fun y => by subst y; rw [e] at z; cases z) (fun k a hk z _ => owSet_ne fun y => by
      subst y; rw [e] at z; cases z
      have : tmp.length + 1 < tmp.length := hk
      omega)
    exact ⟨F2, _, { S5 with tm := ⟨⟨D, rfl, owSet_at, b, .inl n.t, r⟩, S5.tm⟩ }⟩
theorem pd_dc {kx vx tg iter : Expr} {ifs : List Expr} {scope : Scope} {own : List (Str × Nat)} {pos : Pos} {ti : TDI} {g : TDG} {tt : TDT} {tk te : TD} (hc : X.calm = true) (hN : X.N.Nodup) (hi : PI X tg iter (LI X.K c W ti)) (ok : BlkOk X.N X.env.scope scope own)
    (hg : ∀ (s : Shared) (H : Hp) (C : Addr) (cl : List (Str × Addr)) (fp : List Addr), PG (X.blk s H scope (compEnvC scope cl C X.env) fp) tg (LG X.K c (own.map (·.2)) g)) (ht : ∀ (s : Shared) (H : Hp) (C : Addr) (cl : List (Str × Addr)) (fp : List Addr), PTs (X.blk s H scope (compEnvC scope cl C X.env) fp) ifs (LT X.K c W0 tt))
    (hk : ∀ (s : Shared) (H : Hp) (C : Addr) (cl : List (Str × Addr)) (fp : List Addr), PE (X.blk s H scope (compEnvC scope cl C X.env) fp) kx (LE X.K c W0 tk))
    (he : ∀ (s : Shared) (H : Hp) (C : Addr) (cl : List (Str × Addr)) (fp : List Addr), PE (X.blk s H scope (compEnvC scope cl C X.env) fp) vx (LE X.K c W0 te)) (hv : ∀ i ∈ own.map (·.2), i ∉ c.sl) (hs : ∀ x, foldedSetIterable iter X.env x = pure x := by intro _; rfl) :
    PE X (.DictComp kx vx [⟨tg, iter, ifs, 0⟩] scope pos) (LE X.K c W (dcompD ti g tt tk te (own.map (·.2)))) := PE_imp (pe_dc hc hN hi ok hg ht hk he hs) (lift_dcomp hv)
end
end DL
namespace DR
open PySem PySem.Spec PyProof.Rows L2 DL
theorem dcomp {δ : DSt} {Q : DK} {E : XD} {ti : TDI} {g : TDG} {tt : TDT} {tk te : TD} {vs : List Nat} (h : ti δ (fun xs δ1 => dcD g tt tk te vs xs [] (wipeD δ1 vs) fun acc δ2 => Q (.own (.dK acc)) δ2) E) : dcompD ti g tt tk te vs δ Q E := h
theorem dc_inv {g : TDG} {tt : TDT} {tk te : TD} {vs : List Nat} {xs : List DL.D} {δ : DSt} {Q : List (Key × DL.D) → DSt → Prop} (J : Nat → List (Key × DL.D) → DSt → Prop) (h0 : J 0 [] δ)
    (hs : ∀ i x acc δ (N : List (Key × DL.D) → DSt → Prop), xs[i]? = some x → J i acc δ → (∀ acc' δ', J (i + 1) acc' δ' → N acc' δ') →
      g x δ (fun δ1 => tt δ1 (fun b δ2 => if b = true then tk δ2 (fun y δ3 => te δ3 (fun z δ4 => ∃ k : Key, y.toD = keyOne k ∧ acc.length < sizeLine ∧ N (putKD acc k z.toD) (wipeD δ4 vs)) noX) noX else N acc (wipeD δ2 vs)) noX))
    (hn : ∀ acc δ, J xs.length acc δ → Q acc δ) : dcD g tt tk te vs xs [] δ Q := by
  have go : ∀ (m i : Nat) acc δ, i + m = xs.length → J i acc δ → dcD g tt tk te vs (xs.drop i) acc δ Q := fun m => by
    induction m with
    | zero =>
      intro i acc δ e h
      have e : i = xs.length := e
      subst e
      rw [List.drop_length]
      exact hn acc δ h
    | succ m ih =>
      intro i acc δ e h
      have hl : i < xs.length := by omega
      rw [List.drop_eq_getElem_cons hl]
      exact hs i _ acc δ (fun a d => dcD g tt tk te vs (xs.drop (i + 1)) a d Q) (List.getElem?_eq_getElem hl) h fun acc' δ' h' => ih (i + 1) acc' δ' (by omega) h'
  exact go xs.length 0 [] δ (Nat.zero_add _) h0
end DR

set_option Elab.async false
set_option linter.all false
set_option maxRecDepth 100000
/-! repr(x) of plain data: it wants that no repr is under way (guards); so such defs promise only where none is -/
namespace DL
open PySem PySem.Spec PyProof.Rows L2
/-! ### the text is made of right signs -/
theorem strOk_of {z : Str} (h : ∀ c ∈ z.cps.toList, c < 0x110000) : PyData.strOk z = true := by
  unfold PyData.strOk
  rw [Array.all_eq_true]
  intro i hi
  have := h z.cps[i] (by simp)
  simpa using this
theorem strOk_mem {z : Str} (h : PyData.strOk z = true) : ∀ c ∈ z.cps.toList, c < 0x110000 := by
  intro c hc
  unfold PyData.strOk at h
  rw [Array.all_eq_true] at h
  obtain ⟨i, hi, rfl⟩ := List.mem_iff_getElem.mp hc
  simpa using h i (by simpa using hi)
theorem char_lt (c : Char) : c.toNat < 0x110000 := by
  rcases c.valid with h | h
  · exact Nat.lt_trans h (by decide)
  · exact h.2
theorem strOk_lit (x : String) : PyData.strOk (Str.ofString x) = true := strOk_of fun c hc => by
  have e : (Str.ofString x).cps.toList = x.toList.map Char.toNat := cpsOfBytes_string x
  rw [e] at hc
  obtain ⟨d, _, rfl⟩ := List.mem_map.mp hc
  exact char_lt d
theorem sign_lt {q c : Nat} (hq : q < 0x110000) (hc : c < 0x110000) : ∀ d ∈ Builtin.Str.reprChar q c, d < 0x110000 := by
  have hx : ∀ (w : Nat), ∀ d ∈ List.replicate (w - ((Nat.toDigits 16 c).map Char.toNat).length) 48 ++ (Nat.toDigits 16 c).map Char.toNat, d < 0x110000 := fun w d hd => by
    rcases List.mem_append.mp hd with hd | hd
    · rw [(List.mem_replicate.mp hd).2]; decide
    · obtain ⟨e, _, rfl⟩ := List.mem_map.mp hd
      exact char_lt e
  intro d hd
  unfold Builtin.Str.reprChar at hd
  have two : ∀ {a b : Nat}, a < 0x110000 → b < 0x110000 → d ∈ [a, b] → d < 0x110000 := fun {a b} ha hb hm => by
    simp only [List.mem_cons, List.not_mem_nil, or_false] at hm
    rcases hm with rfl | rfl
    · exact ha
    · exact hb
  dsimp only at hd
  split at hd
  · exact two (by decide) hc hd
  split at hd
  · exact two (by decide) (by decide) hd
  split at hd
  · exact two (by decide) (by decide) hd
  split at hd
  · exact two (by decide) (by decide) hd
  split at hd
  · simp only [List.mem_cons, List.not_mem_nil, or_false] at hd
    exact hd ▸ hc
  split at hd
  · rcases List.mem_append.mp hd with hd | hd
    · exact two (by decide) (by decide) hd
    · exact hx _ _ hd
  split at hd
  · rcases List.mem_append.mp hd with hd | hd
    · exact two (by decide) (by decide) hd
    · exact hx _ _ hd
  · rcases List.mem_append.mp hd with hd | hd
    · exact two (by decide) (by decide) hd
    · exact hx _ _ hd
theorem strOk_repr {x : Str} (h : PyData.strOk x = true) : PyData.strOk (reprText x) = true := by
  have hq : reprQuote x < 0x110000 := by unfold reprQuote; split <;> decide
  have key : ∀ (l : List Nat) (acc : Array Nat), (∀ c ∈ l, c < 0x110000) → (∀ c ∈ acc.toList, c < 0x110000) →
      ∀ c ∈ (l.foldl (fun out c => out ++ (Builtin.Str.reprChar (reprQuote x) c).toArray) acc).toList, c < 0x110000 := by
    intro l
    induction l with
    | nil => exact fun acc _ h => h
    | cons a l ih =>
      intro acc h1 h2
      refine ih _ (fun c hc => h1 c (List.mem_cons_of_mem _ hc)) fun c hc => ?_
      rw [Array.toList_append] at hc
      rcases List.mem_append.mp hc with hc | hc
      · exact h2 c hc
      · exact sign_lt hq (h1 a List.mem_cons_self) c (by simpa using hc)
  refine strOk_of fun c hc => ?_
  unfold reprText at hc
  rw [Array.toList_push, ← Array.foldl_toList] at hc
  rcases List.mem_append.mp hc with hc | hc
  · exact key _ _ (strOk_mem h) (fun d hd => by simp at hd; omega) c hc
  · simp at hc; omega
theorem strOk_textFrom : ∀ (ts : List Str) (k : Nat) (acc : Str), PyData.strOk acc = true → (∀ t ∈ ts, PyData.strOk t = true) → PyData.strOk (textFrom k acc ts) = true
  | [], _, _, h, _ => h
  | t :: ts, k, acc, h, g => by
    refine strOk_textFrom ts (k + 1) _ (strOk_app (strOk_app h ?_) (g t List.mem_cons_self)) fun u hu => g u (List.mem_cons_of_mem _ hu)
    split <;> exact strOk_lit _
mutual
theorem strOk_shown : ∀ {d : PyData}, d.canLay0 = true → d.hasDict = false → PyData.strOk d.shown = true
  | .none, _, _ => strOk_lit _
  | .bool b, _, _ => by cases b <;> (simp only [PyData.shown]; exact strOk_lit _)
  | .int i, _, _ => by simp only [PyData.shown]; exact strOk_lit _
  | .str x, h, _ => by simp only [PyData.shown]; exact strOk_repr (by simpa [PyData.canLay0] using h)
  | .list xs, h, n => by
    simp only [PyData.shown, listText]
    exact strOk_app (strOk_textFrom _ _ _ (strOk_lit _) (strOk_shownAll (by simpa [PyData.canLay0] using h) (by simpa [PyData.hasDict] using n))) (strOk_lit _)
  | .tuple xs, h, n => by
    simp only [PyData.shown, tupleText]
    exact strOk_app (strOk_app (strOk_lit _) (strOk_join (strOk_lit _) (strOk_shownAll (by simpa [PyData.canLay0] using h) (by simpa [PyData.hasDict] using n)))) (strOk_lit _)
  | .dict _, _, n => by simp [PyData.hasDict] at n
theorem strOk_shownAll : ∀ {ds : List PyData}, PyData.canLayAll0 ds = true → PyData.hasDictAll ds = false → ∀ t ∈ PyData.shownAll ds, PyData.strOk t = true
  | [], _, _, t, ht => by simp [PyData.shownAll] at ht
  | d :: ds, h, n, t, ht => by
    simp only [PyData.canLayAll0, Bool.and_eq_true] at h
    simp only [PyData.hasDictAll, Bool.or_eq_false_iff] at n
    simp only [PyData.shownAll, List.mem_cons] at ht
    rcases ht with rfl | ht
    · exact strOk_shown h.1 n.1
    · exact strOk_shownAll h.2 n.2 t ht
end
mutual
theorem noDict : ∀ {d : D}, d.isPy = true → d.py.hasDict = false
  | .non, _ => rfl
  | .bl _, _ => rfl
  | .int _, _ => rfl
  | .str _, _ => rfl
  | .lst xs, h => by simp only [D.py, PyData.hasDict]; exact noDictL h
  | .ro xs, h => by simp only [D.py, PyData.hasDict]; exact noDictL h
  | .tup xs, h => by simp only [D.py, PyData.hasDict]; exact noDictL h
  | .rot xs, h => by simp only [D.py, PyData.hasDict]; exact noDictL h
  | .ty _, h => by cases h
  | .adr _, h => by cases h
  | .obj _ _, h => by cases h
  | .dT _, h => by cases h
  | .dK _, h => by cases h
  | .exc _ _ _ _ _, h => by cases h
  | .gho _ _, h => by cases h
theorem noDictL : ∀ {ds : List D}, isPyL ds = true → PyData.hasDictAll (pyL ds) = false
  | [], _ => rfl
  | d :: ds, h => by
    simp only [isPyL, Bool.and_eq_true] at h
    simp only [pyL, PyData.hasDictAll, noDict h.1, noDictL h.2, Bool.or_self]
end
/-! ### how long the text is at most -/
mutual
def shW : PyData → Nat
  | .none => 4
  | .bool _ => 5
  | .int i => (Str.ofString (toString i)).length
  | .str x => 10 * x.length + 2
  | .list xs => shWs xs + 2
  | .tuple xs => shWs xs + 3
  | .dict _ => 0
def shWs : List PyData → Nat
  | [] => 0
  | d :: ds => shW d + 2 + shWs ds
end
def sumW (ts : List Str) : Nat := ts.foldr (fun t n => t.length + 2 + n) 0
theorem textFrom_le : ∀ (ts : List Str) (k : Nat) (acc : Str), (textFrom k acc ts).length ≤ acc.length + sumW ts
  | [], _, _ => Nat.le_refl _
  | t :: ts, k, acc => by
    have ih := textFrom_le ts (k + 1) (acc ++ (if k > 0 then ", " else "" : String) ++ t)
    have e : (acc ++ (if k > 0 then ", " else "" : String) ++ t).length ≤ acc.length + 2 + t.length := by
      rw [strLen_append, strLen_append]
      have : ((if k > 0 then ", " else "" : String) : Str).length ≤ 2 := by split <;> decide
      omega
    have e2 : sumW (t :: ts) = t.length + 2 + sumW ts := rfl
    show (textFrom (k + 1) (acc ++ (if k > 0 then ", " else "" : String) ++ t) ts).length ≤ _
    omega
theorem join_le : ∀ (ts : List Str), (Str.join ", " ts).length ≤ sumW ts
  | [] => Nat.zero_le _
  | [x] => by show x.length ≤ x.length + 2 + 0; omega
  | x :: y :: r => by
    have ih := join_le (y :: r)
    show (x ++ ", " ++ Str.join ", " (y :: r)).length ≤ x.length + 2 + sumW (y :: r)
    rw [strLen_append, strLen_append, show ((", " : String) : Str).length = 2 from rfl]
    omega
mutual
theorem shown_le : ∀ {d : PyData}, d.canLay0 = true → d.hasDict = false → d.shown.length ≤ shW d
  | .none, _, _ => by simp only [PyData.shown, shW]; decide
  | .bool b, _, _ => by cases b <;> (simp only [PyData.shown, shW]; decide)
  | .int i, _, _ => by simp only [PyData.shown, shW]; exact Nat.le_refl _
  | .str x, h, _ => by
    simp only [PyData.shown, shW]
    exact PySem.StrLaws.reprText_len x fun c hc => Nat.lt_trans (strOk_mem (by simpa [PyData.canLay0] using h) c hc) (by decide)
  | .list xs, h, n => by
    simp only [PyData.shown, shW, listText]
    have := textFrom_le (PyData.shownAll xs) 0 "["
    have h2 := shown_leAll (by simpa [PyData.canLay0] using h) (by simpa [PyData.hasDict] using n)
    rw [strLen_append, show (("]" : String) : Str).length = 1 from rfl]
    rw [show (("[" : String) : Str).length = 1 from rfl] at this
    omega
  | .tuple xs, h, n => by
    simp only [PyData.shown, shW, tupleText]
    have := join_le (PyData.shownAll xs)
    have h2 := shown_leAll (by simpa [PyData.canLay0] using h) (by simpa [PyData.hasDict] using n)
    have h3 : ((if (PyData.shownAll xs).length == 1 then ",)" else ")" : String) : Str).length ≤ 2 := by split <;> decide
    rw [strLen_append, strLen_append, show (("(" : String) : Str).length = 1 from rfl]
    omega
  | .dict _, _, n => by simp [PyData.hasDict] at n
theorem shown_leAll : ∀ {ds : List PyData}, PyData.canLayAll0 ds = true → PyData.hasDictAll ds = false → sumW (PyData.shownAll ds) ≤ shWs ds
  | [], _, _ => by simp only [PyData.shownAll, shWs]; exact Nat.le_refl _
  | d :: ds, h, n => by
    simp only [PyData.canLayAll0, Bool.and_eq_true] at h
    simp only [PyData.hasDictAll, Bool.or_eq_false_iff] at n
    have h1 := shown_le h.1 n.1
    have h2 := shown_leAll h.2 n.2
    simp only [PyData.shownAll, shWs]
    show d.shown.length + 2 + sumW (PyData.shownAll ds) ≤ _
    omega
end
/-- plain data, k deep at most, shown in n signs at most -/
structure Sz (n k : Nat) (d : D) : Prop where
  py : d.isPy = true
  dp : d.py.depth ≤ k
  sh : d.py.showable = true
  sz : shW d.py ≤ n
theorem Sz.le {n k m j : Nat} {d : D} (h : Sz n k d) (a : n ≤ m) (b : k ≤ j) : Sz m j d := ⟨h.py, Nat.le_trans h.dp b, h.sh, Nat.le_trans h.sz a⟩
theorem Sz.cmp {n k : Nat} {d : D} (h : Sz n k d) (b : k ≤ 64 := by decide) : Cmp d := ⟨h.py, Nat.le_trans h.dp b⟩
theorem sz_str {z : Str} {m : Nat} (h : z.length ≤ m) : Sz (10 * m + 2) 1 (.str z) := ⟨rfl, by simp [D.py, PyData.depth], by simp [D.py, PyData.showable], by simp only [D.py, shW]; omega⟩
theorem sz_bl {b : Bool} : Sz 5 1 (.bl b) := ⟨rfl, by simp [D.py, PyData.depth], by simp [D.py, PyData.showable], by simp only [D.py, shW]; omega⟩
theorem sz_non : Sz 4 1 .non := ⟨rfl, by simp [D.py, PyData.depth], by simp [D.py, PyData.showable], by simp only [D.py, shW]; omega⟩
theorem sz_all {n k : Nat} : ∀ {ds : List D}, (∀ d ∈ ds, Sz n k d) → isPyL ds = true ∧ PyData.depthAll (pyL ds) ≤ k ∧ PyData.showableAll (pyL ds) = true ∧ shWs (pyL ds) ≤ ds.length * (n + 2)
  | [], _ => ⟨rfl, by simp [pyL, PyData.depthAll], by simp [pyL, PyData.showableAll], by simp [pyL, shWs]⟩
  | d :: ds, h => by
    obtain ⟨a, b, c, e⟩ := sz_all fun x hx => h x (List.mem_cons_of_mem _ hx)
    obtain ⟨a1, b1, c1, e1⟩ := h d List.mem_cons_self
    refine ⟨by simp [isPyL, a, a1], ?_, by simp [pyL, PyData.showableAll, c, c1], ?_⟩
    · simp [pyL, PyData.depthAll]; omega
    · simp only [pyL, shWs, List.length_cons, Nat.add_mul, Nat.one_mul]; omega
theorem sz_lst {n k m : Nat} {ds : List D} (h : ∀ d ∈ ds, Sz n k d) (l : ds.length ≤ m) : Sz (m * (n + 2) + 3) (k + 1) (.lst ds) := by
  obtain ⟨a, b, c, e⟩ := sz_all h
  have := Nat.mul_le_mul_right (n + 2) l
  exact ⟨a, by simp [D.py, PyData.depth]; omega, by simpa [D.py, PyData.showable] using c, by simp only [D.py, shW]; omega⟩
theorem sz_tup {n k m : Nat} {ds : List D} (h : ∀ d ∈ ds, Sz n k d) (l : ds.length ≤ m) : Sz (m * (n + 2) + 3) (k + 1) (.tup ds) := by
  obtain ⟨a, b, c, e⟩ := sz_all h
  have := Nat.mul_le_mul_right (n + 2) l
  exact ⟨a, by simp [D.py, PyData.depth]; omega, by simpa [D.py, PyData.showable] using c, by simp only [D.py, shW]; omega⟩
end DL

set_option Elab.async false
set_option linter.all false
set_option maxRecDepth 100000
/-! repr(x), and defs that promise where no repr is under way -/
namespace DL
open PySem PySem.Spec PyProof.Rows L2
/-- what repr shows -/
def Show (d : D) : Prop := Cmp d ∧ d.py.showable = true ∧ shW d.py ≤ sizeLine
theorem Sz.show {n k : Nat} {d : D} (h : Sz n k d) (a : n ≤ 1000000 := by decide) (b : k ≤ 64 := by decide) : Show d := ⟨h.cmp b, h.sh, Nat.le_trans h.sz (Nat.le_trans a (by decide))⟩
section
variable {X : Cx}
abbrev rRepr (X : Cx) : List V → Hp → VK → Prop := fun xs H Q => ∃ v d, xs = [v] ∧ Dp X.K H v d ∧ d.showable = true ∧ d.hasDict = false ∧ d.depth ≤ 64 ∧ d.shown.length ≤ sizeLine ∧ Q (.str d.shown) H
theorem cr_repr (hg : X.A.guards = some []) (hu : X.A.units + 65 < cLine) : CallR X (.builtin "repr") (rRepr X) := by
  intro pins s σ H xs us Q I r h
  obtain ⟨v, d, rfl, dp, sh, nd, dd, sz, q⟩ := h
  obtain ⟨u, rfl, rv⟩ := vals1 r
  obtain ⟨as, R⟩ := Dp.reads I d v u dp rv
  have ref : ∀ a, u = .ref a → wpAny (model X.prog X.w) X.A (call (.builtin "repr") [u]) (EP X pins σ Q) X.xe s := fun a ea => by
    subst ea
    exact repr_of_reads' R sh (fun z => by rw [nd] at z; cases z) hg (by omega) (fun _ _ e => e) (fun h' t tk hk => ⟨.str _, H, I.kept hk, ⟨_, rfl⟩, q⟩) sz
  cases R with
  | none => exact PySem.P.repr_of_none ⟨.str _, H, I.tok _, ⟨_, rfl⟩, by simpa only [PyData.shown] using q⟩
  | bool b => exact PySem.P.repr_of_bool ⟨.str _, H, I.tok _, ⟨_, rfl⟩, by simpa only [PyData.shown] using q⟩
  | int i t => exact PySem.P.repr_of_int (by simpa [PyData.showable] using sh) ⟨.str _, H, I.tok _, ⟨_, rfl⟩, by simpa only [PyData.shown] using q⟩
  | str x t => exact PySem.P.repr_of_str ⟨.str _, H, I.tok _, ⟨_, rfl⟩, by simpa only [PyData.shown] using q⟩ (by simpa only [PyData.shown] using sz)
  | list h1 h2 h3 h4 => exact ref _ rfl
  | tuple h1 h2 h3 h4 => exact ref _ rfl
  | dict h1 h2 h3 h4 h5 => exact ref _ rfl
end
abbrev reprN : RDN := fun ds Q => ∃ d, ds = [d] ∧ Show d ∧ Q (.d (.str d.py.shown))
theorem cn_repr {X : Cx} : CallN X.K (rRepr X) reprN := fun xs ds F H Q Qd s r ⟨d, e1, ⟨c, sh, sz⟩, q⟩ k => by
  subst e1
  cases r with
  | cons r t =>
    cases t
    exact ⟨_, _, rfl, dp_mono s (r.dp c.1), sh, noDict c.1, c.2, Nat.le_trans (shown_le (r.lay c.1) (noDict c.1)) sz, k _ _ _ _ q (made_d s (.str (strOk_shown (r.lay c.1) (noDict c.1))))⟩
section
variable {X : Cx} {c : Fc} {W : WX}
/-- repr(e) -/
theorem pd_repr {x : Str} {e : Expr} {p pos : Pos} {ta : TDA} (hgs : X.A.guards = some []) (hu : X.A.units + 65 < cLine) (hg : Gl X x) (hm : X.mg x = none) (hv : bootBuiltins x = some (.builtin "repr")) (ha : PA X [e] (LA X.K c W ta)) (hn : x ≠ "__name__" := by decide) (hdb : (x == ("__debug__" : Str)) = false := by decide)
    (he : starEach [e] X.env = (false, eval e X.env) :: starEach [] X.env := by rfl) : PE X (.Call (.Name x p) [e] [] pos) (LE X.K c W (builtD reprN ta)) :=
  pd_builtB (fun h => pe_callB (cr_repr hgs hu) hg hm hv h hn hdb he) cn_repr ha
end
/-! ### a def's promise where no repr is under way -/
structure FnOkG (P : Program) (w : World) (K : PySem.W.Frag) (mg : Str → Option Value) (base : Heap) (CX : CXT) (k : Nat) (f : Addr) (fd : FuncData) (ps : List Str) (sp : Sp) : Prop where
  len : ∀ vs H Q E, sp vs H Q E → vs.length = ps.length
  go : ∀ (A : Around), A.guards = some [] → ∀ (outer : List Env) (s : Shared) (H : Hp) (args : Args) (us : List Value) (vs : List V) (Q : VK) (E : XK), Room k A → Env0 P w K mg base A outer s H →
    BindsTo s fd args (ps.zip us) → Vals vs us → sp vs H Q E → codeAny (model P w) A (.call (.ref f) args) (CR CX outer P w H s Q E) s
theorem FnOkG.mono {P : Program} {w : World} {K : PySem.W.Frag} {mg : Str → Option Value} {base : Heap} {CX : CXT} {j k : Nat} {f : Addr} {fd : FuncData} {ps : List Str} {sp : Sp} (F : FnOkG P w K mg base CX j f fd ps sp) (h : j ≤ k) : FnOkG P w K mg base CX k f fd ps sp :=
  ⟨F.len, fun A g outer s H args us vs Q E hr => F.go A g outer s H args us vs Q E (hr.mono h)⟩
section
variable {P : Program} {w : World} {K : PySem.W.Frag} {mg : Str → Option Value} {base : Heap}
theorem fn_goG {CX : CXT} {k : Nat} {f : Addr} {name qual : Str} {params : Arguments} {body : List Stmt} {scope : Scope} {dV kV doc pm cdv ct oc : Value} {an od : Option Addr} {osl : Array (Option Value)} {N ps : List Str} {sp : Sp}
    (lk : K.lookup f = some ⟨oc, od, .func (PySem.W.fnOf name qual params body scope dV kV doc pm an cdv ct), osl⟩) (hcd : PySem.W.codeIn K cdv qual = true) (S : FnScope N ps scope) (len : ∀ vs H Q E, sp vs H Q E → vs.length = ps.length)
    (bd : ∀ (A : Around), A.guards = some [] → ∀ (outer : List Env) (s : Shared) (H : Hp) (vs : List V) (Q : VK) (E : XK), Room k (A.deeper (envOfC qual scope s.heap.objs.size f cdv)) → sp vs H Q E →
      ∃ t, PSs (cxOf CX P w K mg base N qual scope f cdv A outer s H E) body t ∧ t { nx := fun _ H' => Q .non H', rt := Q } (L2.start N vs) H) : FnOkG P w K mg base CX (k + 1) f (PySem.W.fnOf name qual params body scope dV kV doc pm an cdv ct) ps sp := by
  refine ⟨len, fun A g outer s H args us vs Q E hr en bi rv h => ?_⟩
  have kept : ∀ b o, base.get? b = some o → s.heap.get? b = some o := fun b o e => (en.bs b o e).1
  have KI := en.mod.kin.keeps kept
  have kinds : ∀ y ∈ ps.zip us, scope.names.lookup y.1 = some .local ∨ (scope.names.lookup y.1 = some .cell ∧ ((cellsFrom (s.heap.objs.size + 1) scope.names []).lookup y.1).isSome = true) := by
    rintro ⟨n, v⟩ hy
    exact (S.par n (List.of_mem_zip hy).1).imp id fun q => ⟨q, PySem.W.cellsFrom_some _ _ _ (.inl q)⟩
  refine codeAny_call_function hr.depth (KI _ _ lk) rfl S.co S.gen rfl (PySem.W.codeRec_of KI hcd) (bi _ _ _ _ (wpAny_newFunctionEnv_cells S.kind kinds fun env he s1 x => ?_))
  subst he
  refine ⟨(en.mod.nolimit.keeps kept).keeps x.toInCall.keep, codeAny_func ?_⟩
  obtain ⟨t, ht, hq⟩ := bd A g outer s H vs Q E (hr.deeper _) h
  refine wpAny_mono (ht.run [] s1 (L2.start N vs) H _ (inv_start S hr.hd en (len _ _ _ _ h) rv x) hq) (fun fl s' z => ?_) fun _ _ z => z
  cases fl with
  | ret u => obtain ⟨v, σ', H', J, r, q⟩ := z; exact ⟨v, H', J.os, J.bare, J.base, J.hok, r, q⟩
  | next => obtain ⟨σ', H', J, q⟩ := z; exact ⟨.non, H', J.os, J.bare, J.base, J.hok, rfl, q⟩
  | brk => obtain ⟨_, _, _, q⟩ := z; exact q.elim
  | cont => obtain ⟨_, _, _, q⟩ := z; exact q.elim
/-- as okD -/
theorem okDG {x qual : Str} {st : Stmt} {f : Addr} {fd : FuncData} {N ps : List Str} {k : Nat} {sd : SpD} (G : Fun K x qual st f fd) (S : FnScope N ps (defScope st)) (sl : List Nat) (len : ∀ as Q E, sd as Q E → as.length = ps.length ∧ ownIx as 0 = sl)
    (hbody : ∃ t : TDS, (∀ (cdv : Value) (A : Around), A.guards = some [] → ∀ (outer : List Env) (s : Shared) (H : Hp) (E : XK) (ad : List Addr) (F0 H0 : Hp), Room k (A.deeper (envOfC qual (defScope st) s.heap.objs.size f cdv)) →
        PSs (cxOf (L2.CX P w) P w K mg base N qual (defScope st) f cdv A outer s H E) (defBody st) (LS K ⟨sl, ad, F0, H0⟩ (fun cls d _ H => E cls d H) t)) ∧
      ∀ as Qd Ed, sd as Qd Ed → t (endsD sl Qd Ed) (startD N.length as)) :
    FnOkG P w K mg base (L2.CX P w) (k + 1) f fd ps (spOf K sd) := by
  obtain ⟨t, ht, hq⟩ := hbody
  obtain ⟨oc, od, kV, doc, pm, an, cdv, ct, osl, rfl, lk, hcd⟩ := G.ex
  refine fn_goG lk hcd S (fun vs H Q E ⟨F, as, qs, Qd, Ed, _, A, h, _⟩ => by rw [A.len]; exact (len _ _ _ h).1) fun A g outer s H vs Q E hr ⟨F, as, qs, Qd, Ed, sm, ar, h, kq, ke⟩ => ?_
  have hsl := (len _ _ _ h).2
  have S0 := entry (N := N) sm ar
  rw [hsl] at S0
  have hpl : qs.length = sl.length := by rw [← hsl]; exact ar.plen
  have post : ∀ {δ' : DSt} {tmp : List (V × DV)} {σ' : L2.St} {F' H' : Hp} {ow' : Addr → Option Hold} {os : List OC}, SttF K ⟨sl, qs, F, H⟩ F' ow' δ' tmp σ' H' → takeB δ' sl os → Post K F H qs os F' H' := fun {δ' tmp σ' F' H' ow' os} S' tb =>
    ⟨S'.f0, S'.fh, S'.fr, S'.up, S'.fn, takeB_reps S' hpl S'.ps tb⟩
  refine ⟨_, ht cdv A g outer s H E qs F H hr, startD N.length as, [], endsD sl Qd Ed, ⟨F, _, S0⟩, hq as Qd Ed h, fun δ' σ' H' ⟨os, tb, q⟩ ⟨F', ow', S'⟩ => ?_, fun v x δ' σ' H' ⟨os, tb, q⟩ ⟨F', ow', S'⟩ => ?_, fun _ _ _ z => z.elim, fun _ _ _ z => z.elim, fun x δ' σ' H' F' ow' cls d ⟨os, tb, q⟩ S' er => ?_⟩
  · exact kq .non (.d .non) os F' H' q (post S' tb) .non
  · refine kq v x os F' H' q (post S' tb) ?_
    cases x with
    | d y => exact S'.top
    | own o =>
      obtain ⟨p, rfl, e, b, n, r⟩ := S'.tm.1
      exact ⟨p, rfl, n.t, b, r⟩
  · exact ke cls d x os F' H' q (post S' tb) er
end
/-! ### its call -/
section
variable {X : Cx} {c : Fc} {W : WX} {k : Nat} {f : Addr} {fd : FuncData} {ps : List Str} {sd : SpD} {x : Str} {p pos : Pos} {e : Expr} {es : List Expr} {ta : TDA}
theorem pe_callG {sp : Sp} {E : L2.St → XK} {t : TA} {CX : CXT} (F : FnOkG X.prog X.w X.K X.mg X.base CX k f fd ps sp) (hgs : X.A.guards = some []) (hr : Room k X.A) (hg : Gl X x) (hm : X.mg x = some (.ref f)) (hk : PySem.W.keepIn X.K (.ref f) = true) (hb : Binds X.K fd ps []) (hx : ∀ σ, PassesAt CX X σ (E σ)) (ha : PA X (e :: es) t)
    (hdb : (x == ("__debug__" : Str)) = false := by decide) (he : starEach (e :: es) X.env = (false, eval e X.env) :: starEach es X.env := by rfl) (hpl : (backTo pos (starEach es X.env)).any (·.1) = false := by rfl) : PE X (.Call (.Name x p) (e :: es) [] pos) (tCallSD sp [] E t) := by
  refine ⟨fun pins s σ H Q I h => wpAny_Call_Name_kw (ld_glob I hg hm (PySem.W.callWith_K (h₀ := X.base) I.ok.mod.kin hk (thn (ha.run pos pins s σ H _ I h) fun us s1 ⟨vs, H1, I1, r, q⟩ => ⟨I1.kIn, ?_⟩) he hpl) hdb)⟩
  have q : sp (vs ++ []) H1 Q (E σ) := q
  rw [List.append_nil] at q
  have bt := hb s1 us I1.kIn (by rw [List.append_nil, ← r.length]; exact F.len _ _ _ _ q)
  rw [List.append_nil] at bt
  refine wpAny_call (codeAny_mono (F.go X.A hgs X.stack s1 H1 ⟨us, []⟩ us vs Q (E σ) hr I1.env0 bt r q) fun r s' z => ?_)
  cases r with
  | error er => exact hx σ pins H1 s1 er s' I1 z
  | ok fl =>
    cases fl with
    | ret u => exact I1.after z
    | next => exact z.elim
    | brk => exact z.elim
    | cont => exact z.elim
theorem pd_callG (G : FnOkG X.prog X.w X.K X.mg X.base (L2.CX X.prog X.w) k f fd ps (spOf X.K sd)) (hgs : X.A.guards = some []) (hr : Room k X.A) (hg : Gl X x) (hm : X.mg x = some (.ref f)) (hk : PySem.W.keepIn X.K (.ref f) = true) (hb : Binds X.K fd ps []) (tk : Takes X W) (ha : PA X (e :: es) (LA X.K c W ta))
    (hdb : (x == ("__debug__" : Str)) = false := by decide) (he : starEach (e :: es) X.env = (false, eval e X.env) :: starEach es X.env := by rfl) (hpl : (backTo pos (starEach es X.env)).any (·.1) = false := by rfl) :
    PE X (.Call (.Name x p) (e :: es) [] pos) (LE X.K c W (callD sd ta)) :=
  PE_imp (pe_callG (E := WE W) G hgs hr hg hm hk hb (fun σ => passAt tk σ) ha hdb he hpl) fun σ H Q ⟨δ, tmp, Qd, Ed, S, t, k, w⟩ =>
    ⟨δ, tmp, _, Ed, S, t, fun vs as δ1 F ow H1 ⟨xs, ea, nd, sp⟩ S1 ra => by
      show spOf X.K sd (vs ++ []) H1 Q (WE W σ)
      rw [List.append_nil]
      exact lift_sp S1 ra ea nd sp k w, w⟩
end
end DL

set_option Elab.async false
set_option linter.all false
set_option maxRecDepth 100000
/-! the end of a law whose def promises where no repr is under way -/
namespace DL
open PySem PySem.Spec PyProof.Rows L2
/-- from an abstract heap in which nothing but the script may be known -/
theorem law_core {P : Program} {w : World} {K : PySem.W.Frag} {mg mb : Str → Option Value} {CX : CXT} {k : Nat} {fa a : Addr} {fd : FuncData} {x : Str} {sp : Sp} {sh : Shared} {vs : List Value} {ns : List Int} {H : Hp} (KX : K.In sh.heap) (hns : sh.heap.Ns mainGlobals mg)
    (hb : sh.heap.Ns builtinsNs mb) (hbb : ∀ x : Str, x ≠ "__name__" → mb x = bootBuiltins x) (hlim : sh.heap.NoLimit) (hg : sh.gens = #[]) (ha : sh.heap.get? a = some { cls := .type "list", data := .seq vs.toArray }) (hr : Room k callerA)
    (F : ∀ base : Heap, K.In base → base.Ns mainGlobals mg → FnOkG P w K mg base CX k fa fd [x] sp) (bi : ∀ (s : Shared) (u : Value), BindsTo s fd ⟨[u], []⟩ [(x, u)]) (hsp : sp [.ref a] H (fun v _ => v = .bl true) fun _ _ _ => False)
    (hCX : ∀ e s', CX [] H sh (fun _ _ _ => False) e s' → False) (hO : Only H) (ok : HOk P w H sh.heap) (hA : ∀ b, H b ≠ none → b = a) (hK : H a ≠ none → K.lookup a = none) :
    codeAny (model P w) callerA (.call (.ref fa) ⟨[.ref a], []⟩) (fun r t => r = .ok (.ret (.bool true)) ∧ OldK sh.heap t.heap ∧ t.os = sh.os ∧ AllBare t.gens) sh := by
  have dictFree : ∀ {b : Addr} {o : Obj} {es : Array DictEntry} {ep : Nat}, sh.heap.get? b = some o → o.data = .dict es ep → H b = none := by
    intro b o es ep e d
    rcases Option.eq_none_or_eq_some (H b) with z | ⟨u, z⟩
    · exact z
    · have : b = a := hA b (by rw [z]; exact fun y => nomatch y)
      subst this
      rw [ha] at e
      cases e
      cases d
  have nsk : ∀ {b : Addr} {m : Str → Option Value}, sh.heap.Ns b m → (hidT sh.heap H).Ns b m := by
    rintro b m ⟨o, es, ep, e, d, r⟩
    exact ⟨o, es, ep, hidT_get e (dictFree e d), d, r⟩
  have kin : K.In (hidT sh.heap H) := by
    intro b o e
    refine hidT_get (KX b o e) ?_
    rcases Option.eq_none_or_eq_some (H b) with z | ⟨u, z⟩
    · exact z
    · have n : H b ≠ none := by rw [z]; exact fun y => nomatch y
      have : b = a := hA b n
      subst this
      rw [hK n] at e
      cases e
  obtain ⟨mc, c1, c2⟩ := hlim
  have en : Env0 P w K mg (hidT sh.heap H) callerA [] sh H :=
    ⟨rfl, ⟨kin, nsk hns, ⟨mb, nsk hb, hbb⟩, mc, nsk c1, c2⟩, fun b o e => of_hidT e, Nat.le_of_eq (hidT_size _ _), trivial, (fun b z => nomatch z), ok, .of_eq hg⟩
  refine codeAny_mono ((F _ kin (nsk hns)).go callerA rfl [] sh H ⟨[.ref a], []⟩ [.ref a] [.ref a] _ _ hr en (bi sh (.ref a)) (.cons rfl .nil) hsp) fun r t z => ?_
  rcases r with e | fl
  · exact (hCX e t z).elim
  cases fl with
  | next => exact z.elim
  | brk => exact z.elim
  | cont => exact z.elim
  | ret u =>
    obtain ⟨v, H', os, bare, un, ok', rv, q⟩ := z
    have q : v = .bl true := q
    subst q
    cases (show u = Value.bool true from rv)
    refine ⟨rfl, OldK.of_keep fun b o e => ?_, os, bare⟩
    rcases hO b with y | ⟨ob, xs, y⟩
    · exact un.keep b o e y (fun z => nomatch z) (fun z => nomatch z)
    · have e1 := (ok b _ y).1
      have e2 := (ok' b _ (un.frzs b ob _ y)).1
      rw [e] at e1
      cases e1
      exact e2
theorem law_callG {P : Program} {w : World} {K : PySem.W.Frag} {mg mb : Str → Option Value} {CX : CXT} {k : Nat} {fa a : Addr} {fd : FuncData} {x : Str} {sp : Sp} {sh : Shared} {vs : List Value} {ns : List Int} (KX : K.In sh.heap) (hns : sh.heap.Ns mainGlobals mg)
    (hb : sh.heap.Ns builtinsNs mb) (hbb : ∀ x : Str, x ≠ "__name__" → mb x = bootBuiltins x) (hlim : sh.heap.NoLimit) (hg : sh.gens = #[]) (ha : sh.heap.get? a = some { cls := .type "list", data := .seq vs.toArray }) (hi : IntsAre vs ns) (hl : ns.length ≤ sizeLine) (hr : Room k callerA)
    (F : ∀ base : Heap, K.In base → base.Ns mainGlobals mg → FnOkG P w K mg base CX k fa fd [x] sp) (bi : ∀ (s : Shared) (u : Value), BindsTo s fd ⟨[u], []⟩ [(x, u)]) (hsp : ∀ H : Hp, Only H → SqL K H a (ns.map V.int) → sp [.ref a] H (fun v _ => v = .bl true) fun _ _ _ => False)
    (hCX : ∀ H e s', CX [] H sh (fun _ _ _ => False) e s' → False) :
    codeAny (model P w) callerA (.call (.ref fa) ⟨[.ref a], []⟩) (fun r t => r = .ok (.ret (.bool true)) ∧ OldK sh.heap t.heap ∧ t.os = sh.os ∧ AllBare t.gens) sh := by
  have vv := vals_ints hi
  have core := fun (H : Hp) (hO : Only H) (hS : SqL K H a (ns.map V.int)) => law_core (ns := ns) KX hns hb hbb hlim hg ha hr F bi (hsp H hO hS) (hCX H) hO
  rcases Option.eq_none_or_eq_some (K.lookup a) with hk | ⟨o, hk⟩
  · have at' : ∀ {b : Addr} {u : HO}, (if b = a then some (HO.frz { cls := .type "list", data := .seq vs.toArray } (.lst (ns.map V.int))) else none) = some u → b = a ∧ u = HO.frz { cls := .type "list", data := .seq vs.toArray } (.lst (ns.map V.int)) := by
      intro b u z
      by_cases y : b = a
      · rw [if_pos y] at z; exact ⟨y, (Option.some.inj z).symm⟩
      · rw [if_neg y] at z; cases z
    refine core (fun b => if b = a then some (.frz { cls := .type "list", data := .seq vs.toArray } (.lst (ns.map V.int))) else none) (fun b => ?_) (.inl (.inr ⟨_, if_pos rfl⟩)) (fun b u z => ?_) (fun b z => ?_) fun _ => hk
    · by_cases y : b = a
      · exact .inr ⟨_, _, if_pos y⟩
      · exact .inl (if_neg y)
    · obtain ⟨rfl, rfl⟩ := at' z
      exact ⟨ha, by rw [List.length_map]; exact hl, vs, _, vv, ha⟩
    · rcases Option.eq_none_or_eq_some (if b = a then some (HO.frz { cls := .type "list", data := .seq vs.toArray } (.lst (ns.map V.int))) else none) with y | ⟨u, y⟩
      · exact absurd y z
      · exact (at' y).1
  · have e := KX a o hk
    rw [ha] at e
    cases e
    exact core (fun _ => none) (fun _ => .inl rfl) (.inr ⟨_, vs.toArray, _, hk, rfl, rfl, rfl, by rw [List.size_toArray, hi.length]; exact hl, by simpa using vv⟩) (fun b u z => nomatch z) (fun b z => absurd rfl z) fun z => absurd rfl z
theorem walk_ofG {l : PySem.W.OpenLaw} {n k : Nat} {q : Program} {loose : List Str} {XP : (Str → Option Value) → Heap → Prop} {YP : World → Heap → Prop} {d : DefRec} {K : Params → PySem.W.Frag} {CX : World → CXT} {sp : World → Sp} {x : Str} (hn : l.most = some n) (hn2 : n ≤ sizeLine)
    (hdf : d.params.defaults = []) (hr : Room k callerA) (hY : ∀ (w : World) (h : Heap), YP w h → (K w.params).In h)
    (F : ∀ (w : World) (mg : Str → Option Value) (fa : Addr) (h : Heap), (K w.params).In h → h.Ns mainGlobals mg → mg d.name = some (.ref fa) → ∃ fd : FuncData, (∀ (s : Shared) (u : Value), BindsTo s fd ⟨[u], []⟩ [(x, u)]) ∧
      ∀ base : Heap, (K w.params).In base → base.Ns mainGlobals mg → FnOkG l.prog w (K w.params) mg base (CX w) k fa fd [x] (sp w))
    (hsp : ∀ (w : World) (H : Hp) (a : Addr) (ns : List Int), ns.length ≤ n → Only H → SqL (K w.params) H a (ns.map V.int) → sp w [.ref a] H (fun v _ => v = .bl true) fun _ _ _ => False)
    (hCX : ∀ (w : World) (H : Hp) (s : Shared) (e : Value) (s' : Shared), CX w [] H s (fun _ _ _ => False) e s' → False) : PySem.W.WalkO q loose XP YP l.row.toRowW d [] (fun f vs => PySem.call f vs) := by
  refine Att.attach_call hn hdf fun w s0 sh mg mb fa o pm cd doc a vs ns G Y ho hd hcd hmg hobj hints hlen hg => ?_
  obtain ⟨fd, hb, hF⟩ := F w mg fa _ (hY w _ Y) G.T.g hmg
  exact law_callG (hY w _ Y) G.T.g G.T.b G.T.builtins G.T.nolimit hg hobj hints (Nat.le_trans hlen hn2) hr hF hb (fun H => hsp w H a ns hlen) fun H e s' => hCX w H sh e s'
end DL
namespace DL
open PySem PySem.Spec PyProof.Rows L2
/-- a def that promises where no repr is under way, as its callers know it -/
structure DefDG (P : Program) (w : World) (K : PySem.W.Frag) (mg : Str → Option Value) (base : Heap) (x : Str) (k : Nat) (ps : List Str) (sd : SpD) where
  f : Addr
  fd : FuncData
  ok : FnOkG P w K mg base (L2.CX P w) k f fd ps (spOf K sd)
  b : Binds K fd ps []
  mg : mg x = some (.ref f)
  kp : PySem.W.keepIn K (.ref f) = true
end DL

set_option Elab.async false
set_option linter.all false
set_option maxRecDepth 100000
/-! one or the other reading of an expression -/
namespace DL
open PySem PySem.Spec PyProof.Rows L2
def altD (t u : TD) : TD := fun δ Q E => t δ Q E ∨ u δ Q E
theorem pd_orE {X : Cx} {c : Fc} {W : WX} {e : Expr} {t u : TD} (h : PE X e (LE X.K c W t)) (g : PE X e (LE X.K c W u)) : PE X e (LE X.K c W (altD t u)) :=
  ⟨fun pins s σ H Q I ⟨δ, tmp, Qd, Ed, S, q, k, w⟩ => q.elim (fun q => h.run pins s σ H Q I ⟨δ, tmp, Qd, Ed, S, q, k, w⟩) fun q => g.run pins s σ H Q I ⟨δ, tmp, Qd, Ed, S, q, k, w⟩⟩
end DL
namespace DL
open PySem PySem.Spec PyProof.Rows L2
/-- t[lo:hi] of a tuple, not the whole of it -/
abbrev sliceT : RDS := fun a lo hi Q => ∃ xs, a = .tup xs ∧ ¬ (HT.sIx xs.length 0 lo = 0 ∧ HT.sIx xs.length xs.length hi = xs.length) ∧ Q (.d (.tup (cutD xs lo hi)))
theorem sld_tup {K : PySem.W.Frag} : SlD K (rSlT K) sliceT := fun x a lo hi F H Q Qd s r ⟨xs, e, w, q⟩ k => by
  subst e
  cases r with
  | tup s1 r1 => exact ⟨_, _, rfl, SqT.of (s _ _ s1), by rw [r1.len]; exact w, fun p n => k _ _ _ _ q (made_tup n s (r1.cut lo hi))⟩
theorem pd_sliceT {X : Cx} {c : Fc} {W : WX} {e : Expr} {lo hi : Option Expr} {t : TD} {tl th : TDO} {p2 pos : Pos} (he : PE X e (LE X.K c W t)) (hl : PO X lo (LO X.K c W tl)) (hh : PO X hi (LO X.K c W th)) : PE X (.Subscript e (.Slice lo hi none p2) pos) (LE X.K c W (sliceD sliceT t tl th)) := pd_sliceR sl_tup sld_tup he hl hh
end DL

set_option Elab.async false
set_option linter.all false
set_option maxRecDepth 100000
/-! text * int -/
namespace DL
open PySem PySem.Spec PyProof.Rows L2
theorem rep_size (c : Array Nat) : ∀ (k : Nat) (acc : Array Nat), ((List.replicate k c).foldl (· ++ ·) acc).size = acc.size + k * c.size
  | 0, acc => by simp
  | k + 1, acc => by
    rw [List.replicate_succ, List.foldl_cons, rep_size c k (acc ++ c), Array.size_append, Nat.add_mul]
    omega
theorem rep_mem (c : Array Nat) (y : Nat) : ∀ (k : Nat) (acc : Array Nat), y ∈ ((List.replicate k c).foldl (· ++ ·) acc).toList → y ∈ acc.toList ∨ y ∈ c.toList
  | 0, acc, h => .inl (by simpa using h)
  | k + 1, acc, h => by
    rw [List.replicate_succ, List.foldl_cons] at h
    rcases rep_mem c y k (acc ++ c) h with h | h
    · rw [Array.toList_append] at h
      exact List.mem_append.mp h
    · exact .inr h
def rMulT : R2 := fun x y H Q => ∃ (z : Str) (n : Int), x = .str z ∧ y = .int n ∧ 1 ≤ n ∧ n ≤ 1000 ∧ 1 ≤ z.length ∧ z.length ≤ 1000 ∧ ∀ u : Str, u.length = z.length * n.toNat → (∀ c ∈ u.cps.toList, c ∈ z.cps.toList) → Q (.str u) H
theorem op_mulT {X : Cx} : OpR X (binaryOp .Mult) rMulT := by
  intro pins s σ H x y v u Q I rx ry h
  obtain ⟨z, n, rfl, rfl, n0, n1, z0, z1, q⟩ := h
  obtain ⟨t, rfl⟩ := rx
  obtain ⟨t', rfl⟩ := ry
  have c1 : ¬ n < 1 := by omega
  have hp : z.length * n.toNat ≤ 1000 * 1000 := Nat.mul_le_mul z1 (by omega)
  refine PySem.P.mul_str (by rw [decide_eq_false (by omega), decide_eq_false (by omega)]; rfl) (fun _ _ => ?_) (fun _ _ => ?_) ?_
  · have : (1000 : Int) ≤ (2 ^ 63 - 1) / n := by
      rw [Int.le_ediv_iff_mul_le (by omega)]
      omega
    omega
  · first
      | exact decide_eq_false (Nat.not_lt.mpr (Nat.le_trans hp (by decide)))
      | (unfold tooLong; exact decide_eq_false (Nat.not_lt.mpr (Nat.le_trans hp (by decide))))
  · by_cases e : n = 1
    · subst e
      have c2 : ((1 : Int) == 1 || z.length == 0) = true := by simp
      rw [if_neg c1, if_pos c2]
      exact ⟨.str z, H, I, ⟨_, rfl⟩, q z (by simp) fun c hc => hc⟩
    · have c2 : ¬ (n == 1 || z.length == 0) = true := by simp; omega
      rw [if_neg c1, if_neg c2]
      have sz : ((List.replicate n.toNat z.cps).foldl (· ++ ·) #[]).size = z.length * n.toNat := by
        rw [rep_size, Nat.mul_comm]
        exact Nat.zero_add _
      refine ⟨?_, .str _, H, I.tok _, ⟨_, rfl⟩, q _ sz fun c hc => ?_⟩
      · show ((List.replicate n.toNat z.cps).foldl (· ++ ·) #[]).size ≤ sizeLine
        rw [sz]
        exact Nat.le_trans hp (by decide)
      · rcases rep_mem z.cps c n.toNat #[] hc with h | h
        · simp at h
        · exact h
abbrev mulTD : RD2 := fun a b Q => ∃ (z : Str) (n : Int), a = .str z ∧ b = .int n ∧ 1 ≤ n ∧ n ≤ 1000 ∧ 1 ≤ z.length ∧ z.length ≤ 1000 ∧ ∀ u : Str, u.length = z.length * n.toNat → Q (.d (.str u))
theorem op2_mulT {K : PySem.W.Frag} : Op2 K rMulT mulTD := fun x y a b F H Q Qd s rx ry ⟨z, n, e1, e2, h1, h2, h3, h4, q⟩ k => by
  subst e1 e2
  cases rx with
  | str k1 =>
    cases ry
    exact ⟨z, n, rfl, rfl, h1, h2, h3, h4, fun u hl hc => k _ _ F H (q u hl) (made_d s (.str (strOk_of fun c h => strOk_mem k1 c (hc c h))))⟩
end DL
namespace DL
open PySem PySem.Spec PyProof.Rows L2
/-! the text of an int: how long it is -/
theorem ofs_len (x : String) : (Str.ofString x).length = x.toList.length := by
  have e : (Str.ofString x).cps.toList = x.toList.map Char.toNat := cpsOfBytes_string x
  have : (Str.ofString x).cps.toList.length = x.toList.length := by rw [e, List.length_map]
  rw [← this]
  exact (Array.length_toList).symm
theorem int_len {i : Int} {k : Nat} (hk : 0 < k) (h : i.natAbs < 10 ^ k) : (Str.ofString (toString i)).length ≤ k + 1 := by
  rw [ofs_len]
  cases i with
  | ofNat m =>
    show (Nat.repr m).toList.length ≤ _
    rw [Nat.toList_repr]
    exact Nat.le_succ_of_le ((Nat.length_toDigits_le_iff (by decide) hk).mpr h)
  | negSucc m =>
    show ("-" ++ Nat.repr (m + 1)).toList.length ≤ _
    rw [String.toList_append, List.length_append, Nat.toList_repr]
    have := (Nat.length_toDigits_le_iff (b := 10) (n := m + 1) (by decide) hk).mpr h
    show 1 + _ ≤ _
    omega
theorem sz_int {i : Int} (h : i.natAbs < 10 ^ 19) : Sz 20 1 (.int i) := ⟨rfl, by simp [D.py, PyData.depth], by
  have : i.natAbs.log2 < 64 := by
    rcases Nat.eq_zero_or_pos i.natAbs with e | e
    · rw [e]; decide
    · exact (Nat.log2_lt (by omega)).mpr (Nat.lt_of_lt_of_le h (by decide))
  simp only [D.py, PyData.showable]
  exact decide_eq_true (by omega), by simp only [D.py, shW]; exact int_len (by decide) h⟩
end DL
namespace DL
open PySem PySem.Spec PyProof.Rows L2
/-! int of a bool -/
abbrev intBS : RDNs := fun ds Q => ∃ b : Bool, ds = [.bl b] ∧ Q (.int (if b then 1 else 0))
theorem cn_intB {K : PySem.W.Frag} : CallNs K (fun xs H Q => (∃ i, xs = [V.int i] ∧ Q (.int i) H) ∨ ∃ k, xs = [V.bl k] ∧ Q (.int (if k then 1 else 0)) H) intBS := fun xs ds F H Q Qd s r ⟨b, e1, q⟩ k => by
  subst e1
  cases r with
  | cons r t => cases t; cases r; exact .inr ⟨b, rfl, k _ _ q rfl⟩
end DL

set_option Elab.async false
set_option linter.all false
set_option maxRecDepth 100000
set_option maxHeartbeats 0
set_option pp.deepTerms false
set_option pp.deepTerms.threshold 8

namespace RD9
open PySem PySem.Spec PyProof.Rows L2
theorem mulr {i j : Int} (h1 : -(2 ^ 64) < j) (h2 : j < 2 ^ 64) : CMul i j := .inr ⟨h1, h2⟩
theorem divw {i j : Int} (h1 : 0 < j) (h2 : j.natAbs.log2 < 9000) : CDivW i j := ⟨h1, h2⟩
theorem mull {i j : Int} (h1 : -(2 ^ 64) < i) (h2 : i < 2 ^ 64) : CMul i j := .inl ⟨h1, h2⟩
theorem pow18 : CPow 10 18 := ⟨by decide, by decide, by decide⟩
theorem pow12 : CPow 10 12 := ⟨by decide, by decide, by decide⟩
theorem scalI {i j : Int} : scal (.int i) (.int j) = true := rfl
theorem scalS {i j : Str} : scal (.str i) (.str j) = true := rfl
theorem iteEqI {A B : Prop} {i j : Int} (h : if decide (i = j) = true then A else B) : if (if false = true then !decide (V.int i = V.int j) else decide (V.int i = V.int j)) = true then A else B := by
  rw [show decide (V.int i = V.int j) = decide (i = j) from decide_eq_decide.mpr ⟨fun e => V.int.inj e, fun e => congrArg _ e⟩]; exact h
theorem iteNeI {A B : Prop} {i j : Int} (h : if (!decide (i = j)) = true then A else B) : if (if true = true then !decide (V.int i = V.int j) else decide (V.int i = V.int j)) = true then A else B := by
  rw [show decide (V.int i = V.int j) = decide (i = j) from decide_eq_decide.mpr ⟨fun e => V.int.inj e, fun e => congrArg _ e⟩]; exact h
theorem iteEqS {A B : Prop} {i j : Str} (h : if decide (i = j) = true then A else B) : if (if false = true then !decide (V.str i = V.str j) else decide (V.str i = V.str j)) = true then A else B := by
  rw [show decide (V.str i = V.str j) = decide (i = j) from decide_eq_decide.mpr ⟨fun e => V.str.inj e, fun e => congrArg _ e⟩]; exact h
theorem iteNeS {A B : Prop} {i j : Str} (h : if (!decide (i = j)) = true then A else B) : if (if true = true then !decide (V.str i = V.str j) else decide (V.str i = V.str j)) = true then A else B := by
  rw [show decide (V.str i = V.str j) = decide (i = j) from decide_eq_decide.mpr ⟨fun e => V.str.inj e, fun e => congrArg _ e⟩]; exact h
theorem iteNF {A B : Prop} (h : A) : if (if true = true then !false else false) = true then A else B := h
theorem iteNT {A B : Prop} (h : B) : if (if true = true then !true else true) = true then A else B := h
theorem iteIF {A B : Prop} (h : B) : if (if false = true then !false else false) = true then A else B := h
theorem iteIT {A B : Prop} (h : A) : if (if false = true then !true else true) = true then A else B := h
theorem lkn {α : Type} {f : Str} {fs : List (Str × α)} (h : (List.lookup f fs).isNone = true) : List.lookup f fs = none := Option.isNone_iff_eq_none.mp h
theorem nd0 : ([] : List Nat).Nodup := .nil
theorem nd1 {a : Nat} : [a].Nodup := List.nodup_cons.mpr ⟨(fun h => nomatch h), .nil⟩
theorem nd2 {a b : Nat} (h : (a == b) = false) : [a, b].Nodup := List.nodup_cons.mpr ⟨(fun z => by rw [List.mem_singleton.mp z] at h; simp at h), nd1⟩
theorem sh0 {α : Type} : ([] : List α).length ≤ sizeLine := by show 0 ≤ sizeLine; decide
theorem sh1 {α : Type} {a : α} : [a].length ≤ sizeLine := by show 1 ≤ sizeLine; decide
theorem sh2 {α : Type} {a b : α} : [a, b].length ≤ sizeLine := by show 2 ≤ sizeLine; decide
theorem sh3 {α : Type} {a b c : α} : [a, b, c].length ≤ sizeLine := by show 3 ≤ sizeLine; decide
theorem sh4 {α : Type} {a b c d : α} : [a, b, c, d].length ≤ sizeLine := by show 4 ≤ sizeLine; decide
end RD9
local macro_rules
  | `(tactic| walk_at "da") => `(tactic| repeat (first | exact DR.args_n | apply DR.args_d | (apply DR.args_o; (with_unfolding_all rfl))))
local macro_rules
  | `(tactic| walk_at "dt") => `(tactic| repeat (first | exact DR.tk_n | (apply DR.tk_c; (with_unfolding_all rfl))))
local macro_rules
  | `(tactic| walk_at "dc") => `(tactic| first | (exact RD9.mulr (by decide) (by decide)) | (exact RD9.mull (by decide) (by decide)) | (exact RD9.mulr (by omega) (by omega)) | (exact RD9.mull (by omega) (by omega)) | (show (0 : Int) < _; first | decide | omega) | (exact RD9.divw (by decide) (by decide +kernel)) | (exact RD9.divw (by omega) (by decide +kernel)))
local macro_rules
  | `(tactic| walk_at "dd1") => `(tactic| with_reducible first
    | apply DR.op | (apply DR.var; (with_unfolding_all rfl)) | apply DR.const | apply DR.cons | apply DR.nil | apply DR.seq | apply DR.set | apply DR.tv | apply DR.built | apply DR.call | apply DR.consO
    | apply DR.if_ | apply DR.ifE | apply DR.ret | apply DR.retN | apply DR.next | apply DR.drop | apply DR.setO | apply DR.setLc | apply DR.par | apply DR.par3 | apply DR.consk | apply DR.nilk | apply DR.unpack
    | (apply DR.fvar; (with_unfolding_all rfl)) | (apply DR.mvar; (with_unfolding_all rfl)) | apply DR.lst | apply DR.tup | apply DR.not | apply DR.and | apply DR.or | apply DR.boolE | apply DR.notv | apply DR.andv | apply DR.orv | apply DR.chain | apply DR.neg
    | (apply DR.ixo; (with_unfolding_all rfl)) | (apply DR.setItem; (with_unfolding_all rfl)) | (apply DR.meth; (with_unfolding_all rfl)) | (apply DR.builtO; (with_unfolding_all rfl))
    | apply DR.both | apply DR.sub | apply DR.newk | (apply DR.newl; (with_unfolding_all rfl)) | apply DR.callr | apply DR.starA | apply DR.tseq | apply DR.clsm | apply DR.owni | apply DR.tryc | apply DR.tryca | apply DR.tryo | apply DR.trym | apply DR.xf | apply DR.raiser | apply DR.methr | apply DR.clsmk | apply DR.join | apply DR.dzip | apply DR.tzip | apply DR.slc | apply DR.slN | apply DR.slS | apply DR.cnt | apply DR.dcomp | apply DR.rev | apply DR.intO | apply DR.negO | apply DR.tupgV | apply DR.getK | apply DR.index
    | apply DR.inLO | apply DR.enumi | apply DR.zipi | apply DR.zipm | apply DR.lenSet | apply DR.comp2 | apply DR.compX
    | apply DR.for_ | apply DR.comp | apply DR.yes | apply DR.nameg | apply DR.tupg | apply DR.namesC | apply DR.namesN | apply DR.listi | apply DR.tupi | apply DR.stri | apply DR.range1 | apply DR.raise
    | apply DR.newT | (apply DR.getO; (with_unfolding_all rfl)) | apply DR.getF | apply DR.put | apply DR.inO | apply DR.inF | apply DR.prop | refine ⟨⟨_, by with_unfolding_all rfl⟩, ?_⟩
    | apply DR.fld | (apply DR.fldo; (with_unfolding_all rfl); (with_unfolding_all rfl)) | apply DR.fldset | apply DR.make | apply DR.methd
    | apply RD9.iteEqI | apply RD9.iteNeI | apply RD9.iteEqS | apply RD9.iteNeS | refine ⟨RD9.scalI, ?_⟩ | refine ⟨RD9.scalS, ?_⟩
    | apply RD9.iteNF | apply RD9.iteNT | apply RD9.iteIF | apply RD9.iteIT
    | apply DR.iteT | apply DR.iteF | apply DR.nit | apply DR.nif
    | (apply DR.rt; walk_at "dt") | (apply DR.nx; walk_at "dt") | (apply DR.ex; walk_at "dt")
    | refine ⟨RD9.sh3, ?_⟩ | refine ⟨RD9.sh2, ?_⟩ | refine ⟨RD9.sh1, ?_⟩ | refine ⟨RD9.sh0, ?_⟩ | refine ⟨RD9.sh4, ?_⟩ | refine ⟨RD9.pow18, ?_⟩ | refine ⟨RD9.pow12, ?_⟩
    | refine ⟨DR.nost_i, ?_⟩ | refine ⟨DR.nost_b, ?_⟩ | refine ⟨DR.nost_n, ?_⟩
    | refine ⟨_, (by walk_at "da"), (by with_unfolding_all first | exact RD9.nd0 | exact RD9.nd1 | exact RD9.nd2 rfl), ?_⟩
    | refine ⟨_, _, _, by with_unfolding_all rfl, rfl, by with_unfolding_all rfl, ?_⟩
    | refine ⟨[_], rfl, ?_⟩ | refine ⟨[_, _], rfl, ?_⟩ | refine ⟨[], rfl, ?_⟩ | refine ⟨[_, _, _], rfl, ?_⟩ | refine ⟨[_, _, _, _], rfl, ?_⟩ | refine ⟨[_, _, _, _, _], rfl, ?_⟩ | refine ⟨[_, _, _, _, _, _], rfl, ?_⟩
    | refine ⟨_, _, rfl, rfl, by with_unfolding_all walk_at "dc", ?_⟩
    | refine ⟨_, _, rfl, rfl, ?_⟩
    | refine ⟨_, rfl, _, rfl, ?_⟩
    | refine ⟨_, rfl, ?_⟩
    | refine ⟨_, _, rfl, ?_⟩
    | refine ⟨_, .inl rfl, ?_⟩
    | refine ⟨RD9.lkn (by with_unfolding_all rfl), ?_⟩
   )
local macro_rules
  | `(tactic| walk_at "dd") => `(tactic| repeat walk_at "dd1")

namespace KT
open PySem PySem.Spec PyProof.Rows L2 DL
def top (i : Nat) : Stmt := PySem.Challenge.pw_coveredday_k07_positions_refused.main.body.getD i (.Pass ⟨0, 0, 0, 0⟩)
structure TxtB (mg : Str → Option Value) : Prop where
  b_int : mg "int" = none
  b_abs : mg "abs" = none
  b_len : mg "len" = none
  b_range : mg "range" = none
  b_min : mg "min" = none
structure TxtN (mg : Str → Option Value) : Prop extends TxtB mg where
  b_isinstance : mg "isinstance" = none
  b_all : mg "all" = none
  b_str : mg "str" = none
  b_bool : mg "bool" = none
  b_list : mg "list" = none
  b_tuple : mg "tuple" = none
  b_set : mg "set" = none
  b_enumerate : mg "enumerate" = none
  b_iter : mg "iter" = none
  b_zip : mg "zip" = none
  b_max : mg "max" = none
  b_repr : mg "repr" = none
  k__CASH : ∃ t, mg "_CASH" = some (.str "cash" t)
  k__LETTERS : ∃ t, mg "_LETTERS" = some (.str "abcdefghijklmnopqrstuvwxyz" t)
  k__LONGEST_NAME : ∃ t, mg "_LONGEST_NAME" = some (.int 12 t)
  k__MOST_GOODS : ∃ t, mg "_MOST_GOODS" = some (.int 5 t)
def Nm (g : Str) : Prop := g ≠ "cash" ∧ 1 ≤ g.length ∧ g.length ≤ 12 ∧ ∀ c ∈ g.cps.toList, 97 ≤ c ∧ c ≤ 122
def Goods (gs : List Str) : Prop := gs.Nodup ∧ 1 ≤ gs.length ∧ gs.length ≤ 5 ∧ ∀ g ∈ gs, Nm g
def cash : Str := "cash"
def RowOf (x : D) (xs : List D) : Prop := x = .lst xs ∨ x = .tup xs
theorem in_abz {c : Nat} (h : 97 ≤ c ∧ c ≤ 122) : c ∈ (Str.ofString "abcdefghijklmnopqrstuvwxyz").cps.toList := by
  have e : ∀ k : Fin 26, 97 + k.val ∈ (Str.ofString "abcdefghijklmnopqrstuvwxyz").cps.toList := by decide +kernel
  have := e ⟨c - 97, by omega⟩
  rwa [show 97 + (c - 97) = c by omega] at this
theorem kit_self {K : PySem.W.Frag} {n : String} : PySem.W.kitOne K (.type n) (.type n) = some true := by
  unfold PySem.W.kitOne
  exact if_pos (beq_iff_eq.mpr rfl)
theorem scL_str : ∀ {gs : List Str}, scL (gs.map .str) = some (gs.map V.str)
  | [] => rfl
  | g :: gs => by
    rw [List.map_cons, List.map_cons]
    unfold scL
    rw [scL_str]
    rfl
theorem inV_str {a : Str} {gs : List Str} : inV (V.str a) (gs.map V.str) = decide (a ∈ gs) := by
  unfold inV
  rw [List.any_map, Bool.eq_iff_iff, List.any_eq_true, decide_eq_true_eq]
  constructor
  · rintro ⟨b, hb, e⟩
    have e : eqV (V.str b) (V.str a) = true := e
    have : b = a := by simpa [eqV] using e
    exact this ▸ hb
  · intro h
    exact ⟨a, h, by show eqV (V.str a) (V.str a) = true; simp [eqV]⟩
theorem dp_strs (l : List Str) : Dp_ 2 (.tup (l.map .str)) := dp_tup (dp_map fun r _ => dp_str)
theorem dp_ints (l : List Int) : Dp_ 2 (.tup (l.map .int)) := dp_tup (dp_map fun r _ => dp_int)
theorem eqv_names {l k : List Str} : PyData.eqv (D.tup (l.map .str)).py (D.tup (k.map .str)).py = decide (l = k) := eqv_tups eqv_strs
abbrev s_is_name : Stmt := top 17
theorem sc_is_name : FnScope ["thing", "letter"] ["thing"] (defScope s_is_name) := ⟨rfl, rfl, rfl, by decide +kernel, rfl, by decide +kernel, by decide +kernel⟩
abbrev s_is_sequence : Stmt := top 14
theorem sc_is_sequence : FnScope ["thing"] ["thing"] (defScope s_is_sequence) := ⟨rfl, rfl, rfl, by decide +kernel, rfl, by decide +kernel, by decide +kernel⟩
abbrev s_is_integer : Stmt := top 13
theorem sc_is_integer : FnScope ["thing"] ["thing"] (defScope s_is_integer) := ⟨rfl, rfl, rfl, by decide +kernel, rfl, by decide +kernel, by decide +kernel⟩
abbrev s_is_row : Stmt := top 15
theorem sc_is_row : FnScope ["thing", "length"] ["thing", "length"] (defScope s_is_row) := ⟨rfl, rfl, rfl, by decide +kernel, rfl, by decide +kernel, by decide +kernel⟩
abbrev s_checked_goods : Stmt := top 18
theorem sc_checked_goods : FnScope ["goods", "told", "good"] ["goods"] (defScope s_checked_goods) := ⟨rfl, rfl, rfl, by decide +kernel, rfl, by decide +kernel, by decide +kernel⟩
end KT

set_option Elab.async false
set_option linter.all false
set_option maxRecDepth 100000
set_option maxHeartbeats 0
set_option pp.deepTerms false
set_option pp.deepTerms.threshold 8


namespace KT
open PySem PySem.Spec PyProof.Rows L2 DL
abbrev s_NoAsset___init : Stmt := inClass (top 4) 0
theorem sc_NoAsset___init : FnScope ["self", "name"] ["self", "name"] (defScope s_NoAsset___init) := ⟨rfl, rfl, rfl, by decide +kernel, rfl, by decide +kernel, by decide +kernel⟩
theorem ok_NoAsset {P : Program} {w : World} {K : PySem.W.Frag} {mg : Str → Option Value} {base : Heap} {B : Addr} {f : Addr} {fd : FuncData} (F : Fun K "__init__" "NoAsset.__init__" s_NoAsset___init f fd) (ox : OexC K B) (nw0 : PySem.W.findIn K (.ref B) "name" = some none) : FnOk P w K mg base CX0 1 f fd ["self", "name"] (ErrR K B ["name"]) :=
  ok_err1 F sc_NoAsset___init ox nw0 fun cdv A outer s H E => pss_one (ps_ost (pv 0) (pv 1))
abbrev s_BadGoods___init : Stmt := inClass (top 3) 0
theorem sc_BadGoods___init : FnScope ["self", "what"] ["self", "what"] (defScope s_BadGoods___init) := ⟨rfl, rfl, rfl, by decide +kernel, rfl, by decide +kernel, by decide +kernel⟩
theorem ok_BadGoods {P : Program} {w : World} {K : PySem.W.Frag} {mg : Str → Option Value} {base : Heap} {B : Addr} {f : Addr} {fd : FuncData} (F : Fun K "__init__" "BadGoods.__init__" s_BadGoods___init f fd) (ox : OexC K B) (nw0 : PySem.W.findIn K (.ref B) "what" = some none) : FnOk P w K mg base CX0 1 f fd ["self", "what"] (ErrR K B ["what"]) :=
  ok_err1 F sc_BadGoods___init ox nw0 fun cdv A outer s H E => pss_one (ps_ost (pv 0) (pv 1))
abbrev s_BadPosition___init : Stmt := inClass (top 5) 0
theorem sc_BadPosition___init : FnScope ["self", "what"] ["self", "what"] (defScope s_BadPosition___init) := ⟨rfl, rfl, rfl, by decide +kernel, rfl, by decide +kernel, by decide +kernel⟩
theorem ok_BadPosition {P : Program} {w : World} {K : PySem.W.Frag} {mg : Str → Option Value} {base : Heap} {B : Addr} {f : Addr} {fd : FuncData} (F : Fun K "__init__" "BadPosition.__init__" s_BadPosition___init f fd) (ox : OexC K B) (nw0 : PySem.W.findIn K (.ref B) "what" = some none) : FnOk P w K mg base CX0 1 f fd ["self", "what"] (ErrR K B ["what"]) :=
  ok_err1 F sc_BadPosition___init ox nw0 fun cdv A outer s H E => pss_one (ps_ost (pv 0) (pv 1))
/-- plain data and its type -/
inductive Pl : D → String → Prop
  | non : Pl .non "NoneType"
  | bl (b : Bool) : Pl (.bl b) "bool"
  | int (i : Int) : Pl (.int i) "int"
  | str (s : Str) : Pl (.str s) "str"
  | lst (l : List D) : Pl (.lst l) "list"
  | tup (l : List D) : Pl (.tup l) "tuple"
theorem Pl.ty {K : PySem.W.Frag} {x : D} {n : String} (h : Pl x n) : TyD K x (.type n) := by
  cases h
  · exact .non
  · exact .bl _
  · exact .int _
  · exact .str _
  · exact .lst _
  · exact .tup _
def isI : D → Bool
  | .int _ => true
  | _ => false
def isS : D → Bool
  | .lst _ => true
  | .tup _ => true
  | _ => false
def low (z : Str) : Bool := z.cps.toList.all fun c => decide (c ∈ (Str.ofString "abcdefghijklmnopqrstuvwxyz").cps.toList)
def nmB (z : Str) : Bool := decide (1 ≤ z.length) && decide (z.length ≤ 12) && low z
def nmD : D → Bool
  | .str z => nmB z
  | _ => false
def seqOf : D → List D
  | .lst l => l
  | .tup l => l
  | _ => []
section
variable {P : Program} {w : World} {K : PySem.W.Frag} {mg : Str → Option Value} {base : Heap} {C OG NA BG BM : Addr}
/-! ### kinds of things -/
def sdIntX : SpD := fun as Q _ => ∃ (x : D) (n : String), as = [.d x] ∧ Pl x n ∧ Q (.d (.bl (isI x))) []
theorem ok_integerX {f : Addr} {fd : FuncData} (G : Fun K "is_integer" "is_integer" s_is_integer f fd) (T : TxtN mg) : FnOk P w K mg base (L2.CX P w) 1 f fd ["thing"] (spOf K sdIntX) := by
  refine okD G sc_is_integer [] (fun as Q E ⟨xs, n, e, _⟩ => by subst e; exact ⟨rfl, rfl⟩) ⟨_, fun cdv A outer s H E ad F0 H0 hr => (pds_one (psd_ret (pd_and (pd_builtB (fun h => pe_callB call_isi (by rfl) T.b_isinstance (by decide +kernel) h) (cn_isi (K := K)).op (pda_cons (pd_var (pv 0)) (pda_cons (pd_const (pe_bltn (v := .ty "int") (by rfl) T.b_int (by decide +kernel) rfl) (fun _ => .ty _)) pda_nil))) (pd_one (pd_not (pd_builtB (fun h => pe_callB call_isi (by rfl) T.b_isinstance (by decide +kernel) h) (cn_isi (K := K)).op (pda_cons (pd_var (pv 0)) (pda_cons (pd_const (pe_bltn (v := .ty "bool") (by rfl) T.b_bool (by decide +kernel) rfl) (fun _ => .ty _)) pda_nil)))))))), ?_⟩
  rintro as Qd Ed ⟨x, n, rfl, hx, k⟩
  refine DR.start (δ' := [some (.d x)]) rfl ?_
  walk_at "dd"
  cases hx with
  | non => exact ⟨_, _, _, _, false, rfl, .ty _, .non, by rfl, DR.nost_b, by walk_at "dd"; exact k⟩
  | bl b =>
    refine ⟨_, _, _, _, true, rfl, .ty _, .bl _, by rfl, ?_⟩
    walk_at "dd"
    refine ⟨_, _, _, _, true, rfl, .ty _, .bl _, kit_self, ?_⟩
    walk_at "dd"
    exact k
  | int i =>
    refine ⟨_, _, _, _, true, rfl, .ty _, .int _, kit_self, ?_⟩
    walk_at "dd"
    refine ⟨_, _, _, _, false, rfl, .ty _, .int _, by rfl, ?_⟩
    walk_at "dd"
    exact k
  | str s => exact ⟨_, _, _, _, false, rfl, .ty _, .str _, by rfl, DR.nost_b, by walk_at "dd"; exact k⟩
  | lst l => exact ⟨_, _, _, _, false, rfl, .ty _, .lst _, by rfl, DR.nost_b, by walk_at "dd"; exact k⟩
  | tup l => exact ⟨_, _, _, _, false, rfl, .ty _, .tup _, by rfl, DR.nost_b, by walk_at "dd"; exact k⟩
def sdSeqX : SpD := fun as Q _ => ∃ (x : D) (n : String), as = [.d x] ∧ Pl x n ∧ Q (.d (.bl (isS x))) []
theorem ok_seqX {f : Addr} {fd : FuncData} (G : Fun K "is_sequence" "is_sequence" s_is_sequence f fd) (T : TxtN mg) : FnOk P w K mg base (L2.CX P w) 1 f fd ["thing"] (spOf K sdSeqX) := by
  refine okD G sc_is_sequence [] (fun as Q E ⟨xs, y, e, _⟩ => by subst e; exact ⟨rfl, rfl⟩) ⟨_, fun cdv A outer s H E ad F0 H0 hr => (pds_one (psd_ret (pd_builtB (fun h => pe_callB call_isiT (by rfl) T.b_isinstance (by decide +kernel) h) (cn_isiT (K := K)).op (pda_cons (pd_var (pv 0)) (pda_cons (pd_tup (fun h => pe_tup h) (pda_cons (pd_const (pe_bltn (v := .ty "list") (by rfl) T.b_list (by decide +kernel) rfl) (fun _ => .ty _)) (pda_cons (pd_const (pe_bltn (v := .ty "tuple") (by rfl) T.b_tuple (by decide +kernel) rfl) (fun _ => .ty _)) pda_nil))) pda_nil))))), ?_⟩
  rintro as Qd Ed ⟨x, n, rfl, hx, k⟩
  refine DR.start (δ' := [some (.d x)]) rfl ?_
  walk_at "dd"
  cases hx with
  | non => exact ⟨_, _, _, _, false, rfl, .cons (.ty _) (.cons (.ty _) .nil), .non, rfl, DR.nost_b, by walk_at "dd"; exact k⟩
  | bl b => exact ⟨_, _, _, _, false, rfl, .cons (.ty _) (.cons (.ty _) .nil), .bl _, rfl, DR.nost_b, by walk_at "dd"; exact k⟩
  | int i => exact ⟨_, _, _, _, false, rfl, .cons (.ty _) (.cons (.ty _) .nil), .int _, rfl, DR.nost_b, by walk_at "dd"; exact k⟩
  | str s => exact ⟨_, _, _, _, false, rfl, .cons (.ty _) (.cons (.ty _) .nil), .str _, rfl, DR.nost_b, by walk_at "dd"; exact k⟩
  | lst l => exact ⟨_, _, _, _, true, rfl, .cons (.ty _) (.cons (.ty _) .nil), .lst _, rfl, DR.nost_b, by walk_at "dd"; exact k⟩
  | tup l => exact ⟨_, _, _, _, true, rfl, .cons (.ty _) (.cons (.ty _) .nil), .tup _, rfl, DR.nost_b, by walk_at "dd"; exact k⟩
def isR (n : Nat) (x : D) : Bool := isS x && decide ((seqOf x).length = n)
def sdRowX : SpD := fun as Q _ => ∃ (x : D) (t : String) (n : Nat), as = [.d x, .d (.int n)] ∧ Pl x t ∧ n ≤ 1000 ∧ Q (.d (.bl (isR n x))) []
theorem ok_rowX (D_is_sequence : DefD P w K mg base "is_sequence" 1 ["thing"] sdSeqX) {f : Addr} {fd : FuncData} (G : Fun K "is_row" "is_row" s_is_row f fd) (T : TxtN mg) : FnOk P w K mg base (L2.CX P w) 3 f fd ["thing", "length"] (spOf K sdRowX) := by
  refine okD G sc_is_row [] (fun as Q E ⟨xs, y, n, e, _⟩ => by subst e; exact ⟨rfl, rfl⟩) ⟨_, fun cdv A outer s H E ad F0 H0 hr => (pds_one (psd_ret (pd_and (pd_call D_is_sequence.ok (hr.mono (by decide)) (by rfl) D_is_sequence.mg D_is_sequence.kp D_is_sequence.b (takes_of rfl rfl rfl rfl) (pda_cons (pd_var (pv 0)) pda_nil)) (pd_one (pd_cmp op_eq op2_eq.op (pd_builtB (fun h => pe_callB call_len_seq (by rfl) T.b_len (by decide +kernel) h) cn_len.op (pda_cons (pd_var (pv 0)) pda_nil)) (pd_var (pv 1)) (nomark _)))))), ?_⟩
  rintro as Qd Ed ⟨x, t, n, rfl, hx, hn, k⟩
  refine DR.start (δ' := [some (.d x), some (.d (.int n))]) rfl ?_
  walk_at "dd"
  refine ⟨x, t, rfl, hx, ?_⟩
  have e : ∀ l : List D, decide (V.int (l.length : Int) = V.int (n : Int)) = decide (l.length = n) := fun l => decide_eq_decide.mpr ⟨fun q => by injection q with q; omega, fun q => by rw [q]⟩
  have no : isS x = false → isR n x = false := fun h => by unfold isR; rw [h]; rfl
  have yes : isS x = true → isR n x = decide ((seqOf x).length = n) := fun h => by unfold isR; rw [h]; rfl
  cases q : isS x with
  | false =>
    rw [no q] at k
    walk_at "dd"
    exact k
  | true =>
    rw [yes q] at k
    cases hx with
    | lst l =>
      walk_at "dd"
      rw [if_neg Bool.false_ne_true, e]
      exact k
    | tup l =>
      walk_at "dd"
      rw [if_neg Bool.false_ne_true, e]
      exact k
    | _ => cases q
def isN (n : Nat) (x : D) : Bool := isR n x && (seqOf x).all isI
def AllPl (x : D) : Prop := ∀ d ∈ seqOf x, ∃ n, Pl d n
def sdNumX : SpD := fun as Q _ => ∃ (x : D) (t : String) (n : Nat), as = [.d x, .d (.int n)] ∧ Pl x t ∧ AllPl x ∧ n ≤ 1000 ∧ Q (.d (.bl (isN n x))) []
abbrev s_is_number_row : Stmt := top 16
theorem sc_is_number_row : FnScope ["thing", "length", "number"] ["thing", "length"] (defScope s_is_number_row) := ⟨rfl, rfl, rfl, by decide +kernel, rfl, by decide +kernel, by decide +kernel⟩
theorem ok_numX (D_is_row : DefD P w K mg base "is_row" 3 ["thing", "length"] sdRowX) (D_is_integer : DefD P w K mg base "is_integer" 1 ["thing"] sdIntX) {f : Addr} {fd : FuncData} (G : Fun K "is_number_row" "is_number_row" s_is_number_row f fd) (T : TxtN mg) : FnOk P w K mg base (L2.CX P w) 5 f fd ["thing", "length"] (spOf K sdNumX) := by
  refine okD G sc_is_number_row [] (fun as Q E ⟨xs, y, n, e, _⟩ => by subst e; exact ⟨rfl, rfl⟩) ⟨_, fun cdv A outer s H E ad F0 H0 hr => (pds_one (psd_ret (pd_and (pd_call D_is_row.ok (hr.mono (by decide)) (by rfl) D_is_row.mg D_is_row.kp D_is_row.b (takes_of rfl rfl rfl rfl) (pda_cons (pd_var (pv 0)) (pda_cons (pd_var (pv 1)) pda_nil))) (pd_one (pd_builtB (fun h => pe_callB (cr_all rfl) (by rfl) T.b_all (by decide +kernel) h) cn_all.op (pda_cons (pd_lc (own := [("number", 2)]) (by rfl) sc_is_number_row.nd (pid_seq (pd_var (pv 0))) (blkOk_by (own := [("number", 2)]) (N := ["thing", "length", "number"]) (sc := defScope s_is_number_row) (by decide +kernel)) (fun _ _ _ _ _ => (pgd_name (i := 2) (vs := [2]) (pg_name (i := 2) sc_is_number_row.nd rfl (.inl rfl)) (by show ¬ (2 ∈ ([] : List Nat)); decide) (by decide))) (fun _ _ _ _ _ => ptsd_nil) (fun _ _ _ _ _ => (pd_call D_is_integer.ok (hr.mono (by decide)) (by rfl) D_is_integer.mg D_is_integer.kp D_is_integer.b takes0 (pda_cons (pd_var (pv 2)) pda_nil))) (by show ∀ i ∈ ([2] : List Nat), ¬ (i ∈ ([] : List Nat)); decide)) pda_nil)))))), ?_⟩
  rintro as Qd Ed ⟨x, t, n, rfl, hx, ha, hn, k⟩
  refine DR.start (δ' := [some (.d x), some (.d (.int n)), none]) rfl ?_
  walk_at "dd"
  refine ⟨x, t, n, rfl, hx, hn, ?_⟩
  cases q : isR n x with
  | false =>
    rw [show isN n x = false by unfold isN; rw [q]; rfl] at k
    walk_at "dd"
    exact k
  | true =>
    rw [show isN n x = (seqOf x).all isI by unfold isN; rw [q]; rfl] at k
    have hlen : (seqOf x).length = n := by
      unfold isR at q
      rw [Bool.and_eq_true] at q
      exact of_decide_eq_true q.2
    walk_at "dd"
    have ea : ∀ l : List D, (l.map isI).all id = l.all isI := fun l => by rw [List.all_map]; rfl
    cases hx with
    | lst l =>
      refine DR.seqL ?_
      walk_at "dd"
      refine DR.lc_map (fun d => D.bl (isI d)) (fun d acc N hd hl kN => ?_) ?_
      · obtain ⟨m, hm⟩ := ha d hd
        walk_at "dd"
        refine ⟨d, m, rfl, hm, ?_⟩
        exact ⟨Nat.lt_of_lt_of_le hl (Nat.le_trans (Nat.le_of_eq hlen) (Nat.le_trans hn (by decide))), kN⟩
      walk_at "dd"
      refine ⟨l.map isI, .inl (by rw [List.map_map]; rfl), ?_⟩
      dsimp only
      rw [ea]
      walk_at "dd"
      exact k
    | tup l =>
      refine DR.seqT ?_
      walk_at "dd"
      refine DR.lc_map (fun d => D.bl (isI d)) (fun d acc N hd hl kN => ?_) ?_
      · obtain ⟨m, hm⟩ := ha d hd
        walk_at "dd"
        refine ⟨d, m, rfl, hm, ?_⟩
        exact ⟨Nat.lt_of_lt_of_le hl (Nat.le_trans (Nat.le_of_eq hlen) (Nat.le_trans hn (by decide))), kN⟩
      walk_at "dd"
      refine ⟨l.map isI, .inl (by rw [List.map_map]; rfl), ?_⟩
      dsimp only
      rw [ea]
      walk_at "dd"
      exact k
    | _ => unfold isR at q; cases q
/-! ### names -/
def sdNameX : SpD := fun as Q _ => ∃ (x : D) (n : String), as = [.d x] ∧ Pl x n ∧ (∀ z, x = .str z → z.length ≤ 1000) ∧ Q (.d (.bl (nmD x))) []
theorem ok_nameX {f : Addr} {fd : FuncData} (G : Fun K "is_name" "is_name" s_is_name f fd) (T : TxtN mg) : FnOk P w K mg base (L2.CX P w) 1 f fd ["thing"] (spOf K sdNameX) := by
  obtain ⟨_, k__LETTERS⟩ := T.k__LETTERS
  obtain ⟨_, k__LONGEST_NAME⟩ := T.k__LONGEST_NAME
  refine okD G sc_is_name [] (fun as Q E ⟨xs, n, e, _⟩ => by subst e; exact ⟨rfl, rfl⟩) ⟨_, fun cdv A outer s H E ad F0 H0 hr => (pds_cons (psd_if (PW.pt (pwd_or (ptd_not (ptd_val (pd_builtB (fun h => pe_callB call_isi (by rfl) T.b_isinstance (by decide +kernel) h) (cn_isi (K := K)).op (pda_cons (pd_var (pv 0)) (pda_cons (pd_const (pe_bltn (v := .ty "str") (by rfl) T.b_str (by decide +kernel) rfl) (fun _ => .ty _)) pda_nil))) (fun h => pt_val h))) (pwd_or1 (ptd_not (ptd_chain op_le (op2_I0 fun _ _ _ => .bl _) op_le (op2_I0 fun _ _ _ => .bl _) (pd_const pe_int (fun _ => .int _)) (pd_builtB (fun h => pe_callB call_len_str (by rfl) T.b_len (by decide +kernel) h) cn_lenS.op (pda_cons (pd_var (pv 0)) pda_nil)) (pd_const (pe_glob (v := (.int 12)) rfl k__LONGEST_NAME ⟨_, rfl⟩) (fun _ => .int _)) (by with_unfolding_all rfl)))))) (pds_one (psd_ret (pd_const pe_bl (fun _ => .bl _)))) pds_nil)
      (pds_one (psd_ret (pd_builtB (fun h => pe_callB (cr_all rfl) (by rfl) T.b_all (by decide +kernel) h) cn_all.op (pda_cons (pd_lc (own := [("letter", 1)]) (by rfl) sc_is_name.nd (pid_str (pd_var (pv 0))) (blkOk_by (own := [("letter", 1)]) (N := ["thing", "letter"]) (sc := defScope s_is_name) (by decide +kernel)) (fun _ _ _ _ _ => (pgd_name (i := 1) (vs := [1]) (pg_name (i := 1) sc_is_name.nd rfl (.inl rfl)) (by show ¬ (1 ∈ ([] : List Nat)); decide) (by decide))) (fun _ _ _ _ _ => ptsd_nil) (fun _ _ _ _ _ => (pd_cmp op_in_sign op2_inSign.op (pd_var (pv 1)) (pd_const (pe_glob (v := (.str "abcdefghijklmnopqrstuvwxyz")) rfl k__LETTERS ⟨_, rfl⟩) (fun _ => .str (by decide +kernel))) rfl)) (by show ∀ i ∈ ([1] : List Nat), ¬ (i ∈ ([] : List Nat)); decide)) pda_nil))))), ?_⟩
  rintro as Qd Ed ⟨x, n, rfl, hx, hz, k⟩
  refine DR.start (δ' := [some (.d x), none]) rfl ?_
  walk_at "dd"
  cases hx with
  | str g =>
    have hz := hz g rfl
    refine ⟨_, _, _, _, true, rfl, .ty _, .str _, kit_self, ?_⟩
    walk_at "dd"
    refine ⟨Nat.le_trans hz (by decide), ?_⟩
    walk_at "dd"
    by_cases c1 : 1 ≤ g.length
    · rw [show decide (1 ≤ (g.length : Int)) = true from decide_eq_true (by omega)]
      walk_at "dd"
      by_cases c2 : g.length ≤ 12
      · rw [show decide ((g.length : Int) ≤ 12) = true from decide_eq_true (by omega)]
        walk_at "dd"
        refine DR.lc_mapM (fun c => D.bl (decide (c ∈ (Str.ofString "abcdefghijklmnopqrstuvwxyz").cps.toList))) (fun ch acc N hc hl kN => ?_) ?_
        · walk_at "dd"
          refine ⟨Nat.lt_of_lt_of_le hl (Nat.le_trans (show g.cps.toList.length ≤ 1000 by rw [Array.length_toList]; exact hz) (by decide)), ?_⟩
          rw [if_neg Bool.false_ne_true]
          exact kN
        · walk_at "dd"
          refine ⟨g.cps.toList.map fun c => decide (c ∈ (Str.ofString "abcdefghijklmnopqrstuvwxyz").cps.toList), .inl (by rw [List.map_map]; rfl), ?_⟩
          walk_at "dd"
          rw [show nmD (.str g) = low g by show nmB g = _; unfold nmB; rw [decide_eq_true c1, decide_eq_true c2]; rfl] at k
          dsimp only
          rw [List.all_map]
          exact k
      · rw [show decide ((g.length : Int) ≤ 12) = false from decide_eq_false (by omega)]
        walk_at "dd"
        rw [show nmD (.str g) = false by show nmB g = _; unfold nmB; rw [decide_eq_false c2, Bool.and_false]; rfl] at k
        exact k
    · rw [show decide (1 ≤ (g.length : Int)) = false from decide_eq_false (by omega)]
      walk_at "dd"
      rw [show nmD (.str g) = false by show nmB g = _; unfold nmB; rw [decide_eq_false c1]; rfl] at k
      exact k
  | non =>
    refine ⟨_, _, _, _, false, rfl, .ty _, .non, by rfl, ?_⟩
    walk_at "dd"
    exact k
  | bl b =>
    refine ⟨_, _, _, _, false, rfl, .ty _, .bl _, by rfl, ?_⟩
    walk_at "dd"
    exact k
  | int i =>
    refine ⟨_, _, _, _, false, rfl, .ty _, .int _, by rfl, ?_⟩
    walk_at "dd"
    exact k
  | lst l =>
    refine ⟨_, _, _, _, false, rfl, .ty _, .lst _, by rfl, ?_⟩
    walk_at "dd"
    exact k
  | tup l =>
    refine ⟨_, _, _, _, false, rfl, .ty _, .tup _, by rfl, ?_⟩
    walk_at "dd"
    exact k
/-! ### goods -/
theorem any_str {s : Str} : ∀ {ns : List Str}, ((pyL (ns.map D.str)).any fun z => PyData.eqv z (D.str s).py) = decide (s ∈ ns)
  | [] => by simp [pyL]
  | a :: ns => by
    rw [List.map_cons]
    simp only [pyL, List.any_cons]
    rw [any_str, eqv_str]
    by_cases e : a = s
    · simp [e]
    · simp [e, Ne.symm e]
def txs (ds : List D) : List Str := ds.filterMap fun d => match d with
  | .str z => some z
  | _ => none
theorem txs_map {ds : List D} (h : ds.all nmD = true) : ds = (txs ds).map .str := by
  induction ds with
  | nil => rfl
  | cons d ds ih =>
    rw [List.all_cons, Bool.and_eq_true] at h
    cases d with
    | str z =>
      show _ = D.str z :: (txs ds).map .str
      rw [← ih h.2]
    | _ => exact absurd h.1 (by simp [nmD])
/-- what is wrong with goods, by the words in their order -/
def goodsW (x : D) : Option Str :=
  if isS x = false ∨ (seqOf x).length < 1 ∨ 5 < (seqOf x).length then some "goods"
  else if (seqOf x).all nmD = false then some "name"
  else if cash ∈ txs (seqOf x) then some "cash"
  else if (txs (seqOf x)).Nodup then none else some "double"
def FewT (x : D) : Prop := ∀ d ∈ seqOf x, ∀ z, d = .str z → z.length ≤ 1000
theorem low_ok {z : Str} (h : low z = true) : ∀ c ∈ z.cps.toList, 97 ≤ c ∧ c ≤ 122 := fun c hc => by
  have q := of_decide_eq_true (List.all_eq_true.mp h c hc)
  have e : ∀ c ∈ (Str.ofString "abcdefghijklmnopqrstuvwxyz").cps.toList, 97 ≤ c ∧ c ≤ 122 := by decide +kernel
  exact e c q
theorem nmB_nm {z : Str} (h : nmB z = true) (hc : z ≠ cash) : Nm z := by
  unfold nmB at h
  rw [Bool.and_eq_true, Bool.and_eq_true] at h
  exact ⟨hc, of_decide_eq_true h.1.1, of_decide_eq_true h.1.2, low_ok h.2⟩
theorem nm_nmB {z : Str} (h : Nm z) : nmB z = true := by
  obtain ⟨_, h1, h2, h3⟩ := h
  unfold nmB low
  rw [decide_eq_true h1, decide_eq_true h2, Bool.true_and, Bool.true_and]
  exact List.all_eq_true.mpr fun c hc => decide_eq_true (in_abz (h3 c hc))
theorem txs_str {gs : List Str} : txs (gs.map .str) = gs := by
  induction gs with
  | nil => rfl
  | cons g gs ih => exact congrArg (g :: ·) ih
/-- right goods -/
theorem goodsW_none {x : D} (h : goodsW x = none) : ∃ gs, RowOf x (gs.map .str) ∧ Goods gs := by
  unfold goodsW at h
  split at h
  · cases h
  · rename_i h1
    split at h
    · cases h
    · rename_i h2
      split at h
      · cases h
      · rename_i h3
        split at h
        · rename_i h4
          have ha : (seqOf x).all nmD = true := by simpa using h2
          refine ⟨txs (seqOf x), ?_, h4, ?_, ?_, fun g hg => ?_⟩
          · rw [← txs_map ha]
            cases x <;> first | exact .inl rfl | exact .inr rfl | (exact absurd (.inl rfl) h1)
          · have := congrArg List.length (txs_map ha); rw [List.length_map] at this; omega
          · have := congrArg List.length (txs_map ha); rw [List.length_map] at this; omega
          · have hm : D.str g ∈ seqOf x := by rw [txs_map ha]; exact List.mem_map_of_mem hg
            exact nmB_nm (List.all_eq_true.mp ha _ hm) fun e => h3 (e ▸ hg)
        · cases h
theorem goodsW_ok {x : D} {gs : List Str} (hx : RowOf x (gs.map .str)) (hg : Goods gs) : goodsW x = none := by
  have e : seqOf x = gs.map .str := by rcases hx with rfl | rfl <;> rfl
  have s : isS x = true := by rcases hx with rfl | rfl <;> rfl
  unfold goodsW
  rw [e, txs_str, s, List.length_map]
  have h1 := hg.2.1
  have h2 := hg.2.2.1
  have n1 : ¬ (true = false ∨ gs.length < 1 ∨ 5 < gs.length) := by rintro (h | h | h); cases h; omega; omega
  have n2 : ¬ ((gs.map D.str).all nmD = false) := by
    simp only [Bool.not_eq_false]
    exact List.all_eq_true.mpr fun d hd => by obtain ⟨g, h, rfl⟩ := List.mem_map.mp hd; exact nm_nmB (hg.2.2.2 g h)
  have n3 : ¬ cash ∈ gs := fun h => (hg.2.2.2 _ h).1 rfl
  rw [if_neg n1, if_neg n2, if_neg n3, if_pos hg.1]
def sdGoodsX (BG : Addr) : SpD := fun as Q E => ∃ (x : D) (n : String), as = [.d x] ∧ Pl x n ∧ AllPl x ∧ FewT x ∧ (seqOf x).length ≤ 1000 ∧ (∀ gs, RowOf x (gs.map .str) → Goods gs → Q (.d (.tup (gs.map .str))) []) ∧ (∀ v, goodsW x = some v → E ⟨BG, some [("what", .str v)]⟩ [])
theorem ok_goodsX (X_BadGoods : DefX P w K mg base "BadGoods" BG ["what"]) (D_is_sequence : DefD P w K mg base "is_sequence" 1 ["thing"] sdSeqX) (D_is_name : DefD P w K mg base "is_name" 1 ["thing"] sdNameX) {f : Addr} {fd : FuncData} (G : Fun K "checked_goods" "checked_goods" s_checked_goods f fd) (T : TxtN mg) : FnOk P w K mg base (L2.CX P w) 3 f fd ["goods"] (spOf K (sdGoodsX BG)) := by
  obtain ⟨_, k__CASH⟩ := T.k__CASH
  obtain ⟨_, k__MOST_GOODS⟩ := T.k__MOST_GOODS
  refine okD G sc_checked_goods [] (fun as Q E ⟨xs, y, e, _⟩ => by subst e; exact ⟨rfl, rfl⟩) ⟨_, fun cdv A outer s H E ad F0 H0 hr => (pds_cons (psd_if (PW.pt (pwd_or (ptd_not (ptd_val (pd_call D_is_sequence.ok (hr.mono (by decide)) (by rfl) D_is_sequence.mg D_is_sequence.kp D_is_sequence.b (takes_of rfl rfl rfl rfl) (pda_cons (pd_var (pv 0)) pda_nil)) (fun h => pt_val h))) (pwd_or1 (ptd_not (ptd_chain op_le (op2_I0 fun _ _ _ => .bl _) op_le (op2_I0 fun _ _ _ => .bl _) (pd_const pe_int (fun _ => .int _)) (pd_builtB (fun h => pe_callB call_len_seq (by rfl) T.b_len (by decide +kernel) h) cn_len.op (pda_cons (pd_var (pv 0)) pda_nil)) (pd_const (pe_glob (v := (.int 5)) rfl k__MOST_GOODS ⟨_, rfl⟩) (fun _ => .int _)) (by with_unfolding_all rfl)))))) (pds_one (psd_raiseR rfl (takes_of rfl rfl rfl rfl) (fun h => pmk_oex X_BadGoods.ox X_BadGoods.ini X_BadGoods.ty X_BadGoods.ok (hr.mono (by decide)) X_BadGoods.b .nil pass0 (by rfl) X_BadGoods.mg h) (pda_cons (pd_const pe_str (fun _ => .str (by decide +kernel))) pda_nil))) pds_nil)
      (pds_cons (psd_set (i := 1) (pd_builtB (fun h => pe_callTy call_tuple_of (by rfl) T.b_tuple (by decide +kernel) h) cn_tuple (pda_cons (pd_var (pv 0)) pda_nil)) (by show ¬ (1 ∈ ([] : List Nat)); decide) sc_checked_goods.nd rfl (.inl rfl))
      (pds_cons (psd_if (ptd_not (ptd_val (pd_builtB (fun h => pe_callB (cr_all rfl) (by rfl) T.b_all (by decide +kernel) h) cn_all.op (pda_cons (pd_lc (own := [("good", 2)]) (by rfl) sc_checked_goods.nd (pid_tup (pd_var (pv 1))) (blkOk_by (own := [("good", 2)]) (N := ["goods", "told", "good"]) (sc := defScope s_checked_goods) (by decide +kernel)) (fun _ _ _ _ _ => (pgd_name (i := 2) (vs := [2]) (pg_name (i := 2) sc_checked_goods.nd rfl (.inl rfl)) (by show ¬ (2 ∈ ([] : List Nat)); decide) (by decide))) (fun _ _ _ _ _ => ptsd_nil) (fun _ _ _ _ _ => (pd_call D_is_name.ok (hr.mono (by decide)) (by rfl) D_is_name.mg D_is_name.kp D_is_name.b takes0 (pda_cons (pd_var (pv 2)) pda_nil))) (by show ∀ i ∈ ([2] : List Nat), ¬ (i ∈ ([] : List Nat)); decide)) pda_nil)) (fun h => pt_val h))) (pds_one (psd_raiseR rfl (takes_of rfl rfl rfl rfl) (fun h => pmk_oex X_BadGoods.ox X_BadGoods.ini X_BadGoods.ty X_BadGoods.ok (hr.mono (by decide)) X_BadGoods.b .nil pass0 (by rfl) X_BadGoods.mg h) (pda_cons (pd_const pe_str (fun _ => .str (by decide +kernel))) pda_nil))) pds_nil)
      (pds_cons (psd_if (ptd_cmp (op_inT (units65 hr)) (op2_inT false).op (pd_const (pe_glob (v := (.str "cash")) rfl k__CASH ⟨_, rfl⟩) (fun _ => .str (by decide +kernel))) (pd_var (pv 1)) rfl) (pds_one (psd_raiseR rfl (takes_of rfl rfl rfl rfl) (fun h => pmk_oex X_BadGoods.ox X_BadGoods.ini X_BadGoods.ty X_BadGoods.ok (hr.mono (by decide)) X_BadGoods.b .nil pass0 (by rfl) X_BadGoods.mg h) (pda_cons (pd_const pe_str (fun _ => .str (by decide +kernel))) pda_nil))) pds_nil)
      (pds_cons (psd_if (ptd_cmp op_lt (op2_I0 fun _ _ _ => .bl _) (pd_lenSet (fun h => RS.pe_lenSetT rfl (by rfl) T.b_len (by rfl) T.b_set h) (pd_var (pv 1))) (pd_builtB (fun h => pe_callB call_len_seq (by rfl) T.b_len (by decide +kernel) h) cn_len.op (pda_cons (pd_var (pv 1)) pda_nil)) (nomark _)) (pds_one (psd_raiseR rfl (takes_of rfl rfl rfl rfl) (fun h => pmk_oex X_BadGoods.ox X_BadGoods.ini X_BadGoods.ty X_BadGoods.ok (hr.mono (by decide)) X_BadGoods.b .nil pass0 (by rfl) X_BadGoods.mg h) (pda_cons (pd_const pe_str (fun _ => .str (by decide +kernel))) pda_nil))) pds_nil)
      (pds_one (psd_ret (pd_var (pv 1))))))))), ?_⟩
  rintro as Qd Ed ⟨x, n, rfl, hx, ha, hf, hl, k1, k2⟩
  refine DR.start (δ' := [some (.d x), none, none]) rfl ?_
  with_reducible refine DR.cut (fun δ => δ = [some (.d x), none, none] ∧ isS x = true ∧ 1 ≤ (seqOf x).length ∧ (seqOf x).length ≤ 5) (fun N kN => ?_) ?_
  · walk_at "dd"
    refine ⟨x, n, rfl, hx, ?_⟩
    cases q : isS x with
    | false =>
      walk_at "dd"
      exact ⟨rfl, by show 1 ≤ 1000; decide, _, rfl, k2 "goods" (by unfold goodsW; rw [if_pos (.inl q)])⟩
    | true =>
      have step : ∀ y : D, y = x → (y = .lst (seqOf x) ∨ y = .tup (seqOf x)) → True := fun _ _ _ => trivial
      have hz : (seqOf x).length ≤ sizeLine := Nat.le_trans hl (by decide)
      cases hx with
      | lst l =>
        walk_at "dd"
        by_cases c1 : 1 ≤ l.length
        · rw [show decide (1 ≤ (l.length : Int)) = true from decide_eq_true (by omega)]
          walk_at "dd"
          by_cases c2 : l.length ≤ 5
          · rw [show decide ((l.length : Int) ≤ 5) = true from decide_eq_true (by omega)]
            walk_at "dd"
            exact kN _ ⟨rfl, q, c1, c2⟩
          · rw [show decide ((l.length : Int) ≤ 5) = false from decide_eq_false (by omega)]
            walk_at "dd"
            exact ⟨rfl, by show 1 ≤ 1000; decide, _, rfl, k2 "goods" (by unfold goodsW; rw [if_pos (.inr (.inr (by show 5 < l.length; omega)))])⟩
        · rw [show decide (1 ≤ (l.length : Int)) = false from decide_eq_false (by omega)]
          walk_at "dd"
          exact ⟨rfl, by show 1 ≤ 1000; decide, _, rfl, k2 "goods" (by unfold goodsW; rw [if_pos (.inr (.inl (by show l.length < 1; omega)))])⟩
      | tup l =>
        walk_at "dd"
        by_cases c1 : 1 ≤ l.length
        · rw [show decide (1 ≤ (l.length : Int)) = true from decide_eq_true (by omega)]
          walk_at "dd"
          by_cases c2 : l.length ≤ 5
          · rw [show decide ((l.length : Int) ≤ 5) = true from decide_eq_true (by omega)]
            walk_at "dd"
            exact kN _ ⟨rfl, q, c1, c2⟩
          · rw [show decide ((l.length : Int) ≤ 5) = false from decide_eq_false (by omega)]
            walk_at "dd"
            exact ⟨rfl, by show 1 ≤ 1000; decide, _, rfl, k2 "goods" (by unfold goodsW; rw [if_pos (.inr (.inr (by show 5 < l.length; omega)))])⟩
        · rw [show decide (1 ≤ (l.length : Int)) = false from decide_eq_false (by omega)]
          walk_at "dd"
          exact ⟨rfl, by show 1 ≤ 1000; decide, _, rfl, k2 "goods" (by unfold goodsW; rw [if_pos (.inr (.inl (by show l.length < 1; omega)))])⟩
      | _ => cases q
  rintro δ ⟨rfl, q, c1, c2⟩
  with_reducible refine DR.cut (fun δ => δ = [some (.d x), some (.d (.tup (seqOf x))), none]) (fun N kN => ?_) ?_
  · walk_at "dd"
    cases hx with
    | lst l => exact ⟨_, _, rfl, .inl rfl, by walk_at "dd"; exact kN _ rfl⟩
    | tup l => exact ⟨_, _, rfl, .inr (.inr rfl), by walk_at "dd"; exact kN _ rfl⟩
    | _ => cases q
  rintro δ rfl
  walk_at "dd"
  refine DR.lc_map (fun d => D.bl (nmD d)) (fun d acc N hd hl kN => ?_) ?_
  · obtain ⟨m, hm⟩ := ha d hd
    walk_at "dd"
    refine ⟨d, m, rfl, hm, hf d hd, ?_⟩
    exact ⟨Nat.lt_of_lt_of_le hl (Nat.le_trans c2 (by decide)), kN⟩
  walk_at "dd"
  refine ⟨(seqOf x).map nmD, .inl (by rw [List.map_map]; rfl), ?_⟩
  dsimp only
  rw [List.all_map]
  have n1 : ¬ (isS x = false ∨ (seqOf x).length < 1 ∨ 5 < (seqOf x).length) := by rintro (h | h | h); (rw [q] at h; cases h); omega; omega
  cases hn : (seqOf x).all nmD with
  | false =>
    rw [show (seqOf x).all (id ∘ nmD) = false from hn]
    walk_at "dd"
    exact ⟨rfl, by show 1 ≤ 1000; decide, _, rfl, k2 "name" (by unfold goodsW; rw [if_neg n1, if_pos hn])⟩
  | true =>
    rw [show (seqOf x).all (id ∘ nmD) = true from hn]
    have n2 : ¬ ((seqOf x).all nmD = false) := by rw [hn]; exact Bool.noConfusion
    have em := txs_map hn
    have hlen : (txs (seqOf x)).length = (seqOf x).length := by have := congrArg List.length em; rw [List.length_map] at this; omega
    rw [em]
    walk_at "dd"
    refine ⟨_, .inr rfl, dp_str.cmp, (dp_strs _).cmp, ?_⟩
    rw [if_neg Bool.false_ne_true, show ((pyL ((txs (seqOf x)).map D.str)).any fun z => PyData.eqv z (DV.d (D.str "cash")).toD.py) = decide (cash ∈ txs (seqOf x)) from any_str]
    refine ⟨DR.nost_b, _, rfl, ?_⟩
    refine DR.split (fun c => ?_) (fun c => ?_)
    · walk_at "dd"
      exact ⟨rfl, by show 1 ≤ 1000; decide, _, rfl, k2 "cash" (by unfold goodsW; rw [if_neg n1, if_neg n2, if_pos c])⟩
    · walk_at "dd"
      refine ⟨by omega, ?_⟩
      walk_at "dd"
      refine DR.split (fun c2 => ?_) (fun c2 => ?_)
      · rw [List.length_map] at c2
        have nd := (RS.uniq_lt (txs (seqOf x))).mp (by omega)
        walk_at "dd"
        exact ⟨rfl, by show 1 ≤ 1000; decide, _, rfl, k2 "double" (by unfold goodsW; rw [if_neg n1, if_neg n2, if_neg c, if_neg nd])⟩
      · rw [List.length_map] at c2
        have nd : (txs (seqOf x)).Nodup := Decidable.byContradiction fun h => c2 (by have := (RS.uniq_lt (txs (seqOf x))).mpr h; omega)
        walk_at "dd"
        obtain ⟨gs, hr, hg⟩ := goodsW_none (x := x) (by unfold goodsW; rw [if_neg n1, if_neg n2, if_neg c, if_pos nd])
        have e2 : txs (seqOf x) = gs := by rcases hr with rfl | rfl <;> exact txs_str
        rw [e2]
        exact k1 gs hr hg
end
end KT

set_option Elab.async false
set_option linter.all false
set_option maxRecDepth 100000
set_option maxHeartbeats 0
set_option pp.deepTerms false
set_option pp.deepTerms.threshold 8


namespace KT
open PySem PySem.Spec PyProof.Rows L2 DL
abbrev ppD (p : Str × Int) : D := .tup [.str p.1, .int p.2]
/-- what a position holds -/
def posFs (gs : List Str) (js : List Int) : List (Str × D) := [("goods", .tup (gs.map .str)), ("counts", .tup (js.map .int)), ("_rows", .tup ((gs.zip js).map ppD))]
abbrev posD (C : Addr) (gs : List Str) (js : List Int) : D := .obj C (posFs gs js)
/-- a right position -/
def Po (gs : List Str) (js : List Int) : Prop := Goods gs ∧ js.length = gs.length
theorem zip_pp : ∀ {gs : List Str} {js : List Int}, zipL (gs.map .str) (js.map .int) = (gs.zip js).map ppD
  | [], _ => rfl
  | _ :: _, [] => rfl
  | g :: gs, j :: js => congrArg (D.tup [.str g, .int j] :: ·) (zip_pp (gs := gs) (js := js))
theorem find_at {α : Type} {p : α → Bool} {l : List α} {i : Nat} {x : α} (h : (l.take i).find? p = none) (hx : l[i]? = some x) : (p x = true → l.find? p = some x) ∧ (p x = false → (l.take (i + 1)).find? p = none) := by
  have hl : i < l.length := by
    rcases Nat.lt_or_ge i l.length with c | c
    · exact c
    · rw [List.getElem?_eq_none c] at hx; cases hx
  have e1 : l.take (i + 1) = l.take i ++ [x] := by rw [List.take_succ, hx]; rfl
  constructor
  · intro hp
    have : (l.take (i + 1) ++ l.drop (i + 1)).find? p = some x := by
      rw [e1, List.append_assoc, List.find?_append, h]
      simp [List.find?_cons, hp]
    rwa [List.take_append_drop] at this
  · intro hp
    rw [e1, List.find?_append, h]
    simp [List.find?_cons, hp]
theorem itT {c : Bool} {a b : Prop} (e : c = true) (h : a) : if c = true then a else b := by rw [if_pos e]; exact h
theorem itF {c : Bool} {a b : Prop} (e : c = false) (h : b) : if c = true then a else b := by rw [e, if_neg Bool.false_ne_true]; exact h
/-- plain types that are no class of ours -/
def NotC (n : String) : Prop := n = "list" ∨ n = "tuple" ∨ n = "int" ∨ n = "NoneType"
structure TxtP (K : PySem.W.Frag) (mg : Str → Option Value) (C BR : Addr) : Prop extends TxtN mg where
  cl_Position : Cls K C
  na_Position : ∀ n : Str, (["goods", "counts", "_rows"] : List Str).contains n = true → NoAttr K C n
  c_Position : mg "Position" = some (.ref C)
  b_sum : mg "sum" = none
  c_BadPrices : mg "BadPrices" = some (.ref BR)
  oe_BadPrices : Oex0 K BR
theorem isN_ok {y : D} {js : List Int} (hy : RowOf y (js.map .int)) : isR js.length y = true ∧ isN js.length y = true := by
  have e : seqOf y = js.map .int := by rcases hy with rfl | rfl <;> rfl
  have s : isS y = true := by rcases hy with rfl | rfl <;> rfl
  have r : isR js.length y = true := by unfold isR; rw [s, e, List.length_map, decide_eq_true rfl]; rfl
  refine ⟨r, ?_⟩
  unfold isN
  rw [r, e, Bool.true_and]
  exact List.all_eq_true.mpr fun d hd => by obtain ⟨i, _, rfl⟩ := List.mem_map.mp hd; rfl
theorem pl_row {x : D} {xs : List D} (h : RowOf x xs) : ∃ n, Pl x n := by rcases h with rfl | rfl; exact ⟨_, .lst _⟩; exact ⟨_, .tup _⟩
theorem allpl_ints {x : D} {js : List Int} (h : RowOf x (js.map .int)) : AllPl x := fun d hd => by
  have e : seqOf x = js.map .int := by rcases h with rfl | rfl <;> rfl
  rw [e] at hd; obtain ⟨g, _, rfl⟩ := List.mem_map.mp hd; exact ⟨_, .int _⟩
/-- what may be passed for goods, for counts -/
structure GA (x : D) : Prop where
  pl : ∃ n, Pl x n
  all : AllPl x
  few : FewT x
  len : (seqOf x).length ≤ 1000
structure CA (y : D) : Prop where
  pl : ∃ n, Pl y n
  all : AllPl y
  len : (seqOf y).length ≤ 1000
/-- what is wrong with counts of n goods -/
def cntW (n : Nat) (y : D) : Option Str := if isR n y = false then some ("counts" : Str) else if isN n y = false then some ("count" : Str) else none
theorem cntW_none {n : Nat} {y : D} (h : cntW n y = none) : ∃ js : List Int, RowOf y (js.map .int) ∧ js.length = n := by
  unfold cntW at h
  split at h
  · cases h
  · rename_i h1
    split at h
    · cases h
    · rename_i h2
      have r : isR n y = true := by simpa using h1
      have m : isN n y = true := by simpa using h2
      have ml : n = (seqOf y).length ∧ isS y = true := by
        unfold isR at r
        rw [Bool.and_eq_true] at r
        exact ⟨(of_decide_eq_true r.2).symm, r.1⟩
      have all : (seqOf y).all isI = true := by
        unfold isN at m
        rw [Bool.and_eq_true] at m
        exact m.2
      have key : ∀ l : List D, l.all isI = true → ∃ js : List Int, l = js.map .int := by
        intro l
        induction l with
        | nil => exact fun _ => ⟨[], rfl⟩
        | cons d l ih =>
          intro ha
          rw [List.all_cons, Bool.and_eq_true] at ha
          obtain ⟨js, rfl⟩ := ih ha.2
          cases d with
          | int i => exact ⟨i :: js, rfl⟩
          | _ => exact absurd ha.1 Bool.false_ne_true
      obtain ⟨js, e⟩ := key _ all
      refine ⟨js, ?_, by rw [ml.1, e, List.length_map]⟩
      cases y <;> first | (exact .inl (congrArg _ e)) | (exact .inr (congrArg _ e)) | cases ml.2
theorem cntW_ok {y : D} {js : List Int} (h : RowOf y (js.map .int)) : cntW js.length y = none := by
  have z := isN_ok h
  unfold cntW
  rw [z.1, z.2]
  rfl
section
variable {P : Program} {w : World} {K : PySem.W.Frag} {mg : Str → Option Value} {base : Heap} {C BG BP BR NA : Addr}
theorem goods_any {x : D} {Q : DV → List OC → Prop} {E : Ex → List OC → Prop} (h : GA x) (k1 : ∀ gs, RowOf x (gs.map .str) → Goods gs → Q (.d (.tup (gs.map .str))) []) (k2 : ∀ v, goodsW x = some v → E ⟨BG, some [("what", .str v)]⟩ []) : sdGoodsX BG [.d x] Q E := by
  obtain ⟨n, hn⟩ := h.pl
  exact ⟨x, n, rfl, hn, h.all, h.few, h.len, k1, k2⟩
def sdPInit (C BG BP : Addr) : SpD := fun as Q E => ∃ x y : D, as = [.own (.ins C []), .d x, .d y] ∧ GA x ∧ CA y ∧ (∀ gs js, RowOf x (gs.map .str) → RowOf y (js.map .int) → Po gs js → Q (.d .non) [.ins C (posFs gs js)]) ∧
  (∀ v, goodsW x = some v → ∀ o, E ⟨BG, some [("what", .str v)]⟩ [o]) ∧ (∀ gs, RowOf x (gs.map .str) → Goods gs → ∀ v, cntW gs.length y = some v → ∀ o, E ⟨BP, some [("what", .str v)]⟩ [o])
abbrev s_Position___init : Stmt := inClass (top 21) 0
theorem sc_Position___init : FnScope ["self", "goods", "counts"] ["self", "goods", "counts"] (defScope s_Position___init) := ⟨rfl, rfl, rfl, by decide +kernel, rfl, by decide +kernel, by decide +kernel⟩
theorem ok_pinit (X_BadPosition : DefX P w K mg base "BadPosition" BP ["what"]) (D_checked_goods : DefD P w K mg base "checked_goods" 3 ["goods"] (sdGoodsX BG)) (D_is_row : DefD P w K mg base "is_row" 3 ["thing", "length"] sdRowX) (D_is_number_row : DefD P w K mg base "is_number_row" 5 ["thing", "length"] sdNumX) {f : Addr} {fd : FuncData} (G : Fun K "__init__" "Position.__init__" s_Position___init f fd) (T : TxtP K mg C BR) : FnOk P w K mg base (L2.CX P w) 7 f fd ["self", "goods", "counts"] (spOf K (sdPInit C BG BP)) := by
  refine okD G sc_Position___init [0] (fun as Q E ⟨x, y, e, _⟩ => by subst e; exact ⟨rfl, rfl⟩) ⟨_, fun cdv A outer s H E ad F0 H0 hr => (pds_cons (psd_fld (i := 0) (pv 0) (pd_call D_checked_goods.ok (hr.mono (by decide)) (by rfl) D_checked_goods.mg D_checked_goods.kp D_checked_goods.b (takes_of rfl rfl rfl rfl) (pda_cons (pd_var (pv 1)) pda_nil)) T.cl_Position (T.na_Position _ (by decide)) rfl)
      (pds_cons (psd_if (ptd_not (ptd_val (pd_call D_is_row.ok (hr.mono (by decide)) (by rfl) D_is_row.mg D_is_row.kp D_is_row.b (takes_of rfl rfl rfl rfl) (pda_cons (pd_var (pv 2)) (pda_cons (pd_builtB (fun h => pe_callB call_len_seq (by rfl) T.b_len (by decide +kernel) h) cn_len.op (pda_cons (pd_fldO (i := 0) (pv 0) T.cl_Position (T.na_Position _ (by decide)) rfl) pda_nil)) pda_nil))) (fun h => pt_val h))) (pds_one (psd_raiseR rfl (takes_of rfl rfl rfl rfl) (fun h => pmk_oex X_BadPosition.ox X_BadPosition.ini X_BadPosition.ty X_BadPosition.ok (hr.mono (by decide)) X_BadPosition.b .nil pass0 (by rfl) X_BadPosition.mg h) (pda_cons (pd_const pe_str (fun _ => .str (by decide +kernel))) pda_nil))) pds_nil)
      (pds_cons (psd_if (ptd_not (ptd_val (pd_call D_is_number_row.ok (hr.mono (by decide)) (by rfl) D_is_number_row.mg D_is_number_row.kp D_is_number_row.b (takes_of rfl rfl rfl rfl) (pda_cons (pd_var (pv 2)) (pda_cons (pd_builtB (fun h => pe_callB call_len_seq (by rfl) T.b_len (by decide +kernel) h) cn_len.op (pda_cons (pd_fldO (i := 0) (pv 0) T.cl_Position (T.na_Position _ (by decide)) rfl) pda_nil)) pda_nil))) (fun h => pt_val h))) (pds_one (psd_raiseR rfl (takes_of rfl rfl rfl rfl) (fun h => pmk_oex X_BadPosition.ox X_BadPosition.ini X_BadPosition.ty X_BadPosition.ok (hr.mono (by decide)) X_BadPosition.b .nil pass0 (by rfl) X_BadPosition.mg h) (pda_cons (pd_const pe_str (fun _ => .str (by decide +kernel))) pda_nil))) pds_nil)
      (pds_cons (psd_fld (i := 0) (pv 0) (pd_builtB (fun h => pe_callTy call_tuple_of (by rfl) T.b_tuple (by decide +kernel) h) cn_tuple (pda_cons (pd_var (pv 2)) pda_nil)) T.cl_Position (T.na_Position _ (by decide)) rfl)
      (pds_one (psd_fld (i := 0) (pv 0) (pd_tzip rfl (by rfl) T.b_tuple (by rfl) T.b_zip (pda_cons (pd_fldO (i := 0) (pv 0) T.cl_Position (T.na_Position _ (by decide)) rfl) (pda_cons (pd_fldO (i := 0) (pv 0) T.cl_Position (T.na_Position _ (by decide)) rfl) pda_nil))) T.cl_Position (T.na_Position _ (by decide)) rfl)))))), ?_⟩
  rintro as Qd Ed ⟨x, y, rfl, hx, hy, k1, k2, k3⟩
  refine DR.start (δ' := [some (.own (.ins C [])), some (.d x), some (.d y)]) rfl ?_
  walk_at "dd"
  refine goods_any hx (fun gs hxr hg => ?_) fun v hv => ?_
  · obtain ⟨n, pl⟩ := hy.pl
    have hlen : gs.length ≤ 1000 := Nat.le_trans hg.2.2.1 (by decide)
    walk_at "dd"
    refine ⟨by show 0 < 1000; decide, ?_⟩
    walk_at "dd"
    refine ⟨y, n, gs.length, by rw [List.length_map]; rfl, pl, hlen, ?_⟩
    cases q : isR gs.length y with
    | false =>
      walk_at "dd"
      refine ⟨rfl, by show 1 ≤ 1000; decide, ?_⟩
      walk_at "dd"
      exact k3 gs hxr hg _ (by unfold cntW; exact if_pos q) _
    | true =>
      walk_at "dd"
      refine ⟨y, n, gs.length, by rw [List.length_map]; rfl, pl, hy.all, hlen, ?_⟩
      have nq : ¬ isR gs.length y = false := by rw [q]; exact Bool.noConfusion
      cases q2 : isN gs.length y with
      | false =>
        walk_at "dd"
        refine ⟨rfl, by show 1 ≤ 1000; decide, ?_⟩
        walk_at "dd"
        exact k3 gs hxr hg _ (by unfold cntW; rw [if_neg nq]; exact if_pos q2) _
      | true =>
        have nq2 : ¬ isN gs.length y = false := by rw [q2]; exact Bool.noConfusion
        obtain ⟨js, hyr, hl⟩ := cntW_none (n := gs.length) (y := y) (by unfold cntW; rw [if_neg nq]; exact if_neg nq2)
        have k := k1 gs js hxr hyr ⟨hg, hl⟩
        walk_at "dd"
        have k : Qd (.d .non) [.ins C [("goods", .tup (gs.map .str)), ("counts", .tup (js.map .int)), ("_rows", .tup (zipL (gs.map .str) (js.map .int)))]] := by rw [zip_pp]; exact k
        have jl : js.length ≤ 1000 := by omega
        rcases hyr with rfl | rfl
        · refine ⟨_, _, rfl, .inl rfl, ?_⟩
          walk_at "dd"
          refine ⟨by show 1 < 1000; decide, ?_⟩
          walk_at "dd"
          refine ⟨by rw [List.length_map, List.length_map, hl], by rw [List.length_map]; exact hlen, ?_⟩
          walk_at "dd"
          refine ⟨by show 2 < 1000; decide, ?_⟩
          walk_at "dd"
          exact k
        · refine ⟨_, _, rfl, .inr (.inr rfl), ?_⟩
          walk_at "dd"
          refine ⟨by show 1 < 1000; decide, ?_⟩
          walk_at "dd"
          refine ⟨by rw [List.length_map, List.length_map, hl], by rw [List.length_map]; exact hlen, ?_⟩
          walk_at "dd"
          refine ⟨by show 2 < 1000; decide, ?_⟩
          walk_at "dd"
          exact k
  · walk_at "dd"
    exact k2 v hv _
/-! ### reading a position: no asset -/
def sdPNo (C NA : Addr) : SpD := fun as _ E => ∃ (gs : List Str) (js : List Int) (a : D), as = [.d (posD C gs js), .d a] ∧ Po gs js ∧ Cmp a ∧ (∀ g ∈ cash :: gs, a ≠ .str g) ∧ E ⟨NA, some [("name", a)]⟩ []
theorem eqv_sd {g : Str} {a : D} (h : a ≠ .str g) (c : Cmp a) : PyData.eqv a.py (D.str g).py = false := by
  obtain ⟨p, _⟩ := c
  cases a with
  | str z =>
    rw [eqv_str]
    exact decide_eq_false fun e => h (congrArg _ e)
  | ty _ => cases p
  | adr _ => cases p
  | obj _ _ => cases p
  | dT _ => cases p
  | dK _ => cases p
  | exc _ _ _ _ _ => cases p
  | gho _ _ => cases p
  | _ => simp only [D.py, PyData.eqv]
theorem eqv_ds {g : Str} {a : D} (h : a ≠ .str g) (c : Cmp a) : PyData.eqv (D.str g).py a.py = false := by
  obtain ⟨p, _⟩ := c
  cases a with
  | str z =>
    rw [eqv_str]
    exact decide_eq_false fun e => h (congrArg _ e.symm)
  | ty _ => cases p
  | adr _ => cases p
  | obj _ _ => cases p
  | dT _ => cases p
  | dK _ => cases p
  | exc _ _ _ _ _ => cases p
  | gho _ _ => cases p
  | _ => simp only [D.py, PyData.eqv]
abbrev s_Position___getitem : Stmt := inClass (top 21) 6
theorem sc_Position___getitem : FnScope ["self", "at", "good", "count"] ["self", "at"] (defScope s_Position___getitem) := ⟨rfl, rfl, rfl, by decide +kernel, rfl, by decide +kernel, by decide +kernel⟩
theorem ok_pno (X_NoAsset : DefX P w K mg base "NoAsset" NA ["name"]) {f : Addr} {fd : FuncData} (G : Fun K "__getitem__" "Position.__getitem__" s_Position___getitem f fd) (T : TxtP K mg C BR) : FnOk P w K mg base (L2.CX P w) 3 f fd ["self", "at"] (spOf K (sdPNo C NA)) := by
  refine okD G sc_Position___getitem [] (fun as Q E ⟨gs, js, a, e, _⟩ => by subst e; exact ⟨rfl, rfl⟩) ⟨_, fun cdv A outer s H E ad F0 H0 hr => (pds_cons (psd_if (ptd_cmp (op_eqD hr.units) op2_eqD.op (pd_var (pv 1)) (pd_const pe_str (fun _ => .str (by decide +kernel))) (nomark _)) (pds_one (psd_ret (pd_neg (pd_builtB (fun h => pe_callB (cr_sumT rfl) (by rfl) T.b_sum (by decide +kernel) h) cn_sumT.op (pda_cons (pd_fld (pd_var (pv 0)) T.cl_Position (T.na_Position _ (by decide)) rfl) pda_nil))))) pds_nil)
      (pds_cons (psd_for (passes_of rfl) rfl (pid_tup (pd_fld (pd_var (pv 0)) T.cl_Position (T.na_Position _ (by decide)) rfl)) (pgd_tup (is := [2, 3]) (vs := [2, 3]) (pg_tup rfl (pgs_cons (pg_name (i := 2) sc_Position___getitem.nd rfl (.inl rfl)) (pgs_cons (pg_name (i := 3) sc_Position___getitem.nd rfl (.inl rfl)) pgs_nil))) rfl (by show ∀ i ∈ ([2, 3] : List Nat), ¬ (i ∈ ([] : List Nat)) ∧ i ∈ ([2, 3] : List Nat); decide))
      (pds_one (psd_if (ptd_cmp (op_eqD hr.units) op2_eqD.op (pd_var (pv 2)) (pd_var (pv 1)) (nomark _)) (pds_one (psd_ret (pd_var (pv 3)))) pds_nil)))
      (pds_one (psd_raiseR rfl (takes_of rfl rfl rfl rfl) (fun h => pmk_oex X_NoAsset.ox X_NoAsset.ini X_NoAsset.ty X_NoAsset.ok (hr.mono (by decide)) X_NoAsset.b .nil pass0 (by rfl) X_NoAsset.mg h) (pda_cons (pd_var (pv 1)) pda_nil))))), ?_⟩
  rintro as Qd Ed ⟨gs, js, a, rfl, hp, ca, ha, k⟩
  refine DR.start (δ' := [some (.d (posD C gs js)), some (.d a), none, none]) rfl ?_
  walk_at "dd"
  refine eqd_t (b := false) ca dp_str.cmp (eqv_sd (ha _ List.mem_cons_self) ca) ?_
  walk_at "dd"
  refine DR.for_inv (fun i δ => ∃ p2 p3, δ = [some (.d (posD C gs js)), some (.d a), p2, p3]) ⟨_, _, rfl⟩ ?_ ?_
  · rintro i x δ N hx ⟨p2, p3, rfl⟩ kN
    obtain ⟨⟨g, j⟩, hgj, rfl⟩ := DR.map_at hx
    have hg : g ∈ gs := (List.of_mem_zip (List.mem_of_getElem? hgj)).1
    walk_at "dd"
    refine eqd_t (b := false) dp_str.cmp ca (eqv_ds (ha _ (List.mem_cons_of_mem _ hg)) ca) ?_
    walk_at "dd"
    exact kN _ ⟨_, _, rfl⟩
  · rintro δ ⟨p2, p3, rfl⟩
    walk_at "dd"
    refine ⟨rfl, by show 1 ≤ 1000; decide, ?_⟩
    walk_at "dd"
    exact k
/-- the sum of products -/
def dot (js ks : List Int) : Int := (js.zipWith (fun x y => x * y) ks).sum
theorem zip_ints : ∀ {js ks : List Int}, zipL (js.map .int) (ks.map .int) = (js.zip ks).map fun p => .tup [.int p.1, .int p.2]
  | [], _ => rfl
  | _ :: _, [] => rfl
  | j :: js, k :: ks => congrArg (D.tup [.int j, .int k] :: ·) (zip_ints (js := js) (ks := ks))
theorem zip_with {f : Int → Int → Int} : ∀ {js ks : List Int}, (js.zip ks).map (fun p => D.int (f p.1 p.2)) = (js.zipWith f ks).map .int
  | [], _ => rfl
  | _ :: _, [] => rfl
  | j :: js, k :: ks => congrArg (D.int (f j k) :: ·) (zip_with (js := js) (ks := ks))
def sdWorth (C BR : Addr) : SpD := fun as Q E => ∃ (gs : List Str) (js : List Int) (y : D), as = [.d (posD C gs js), .d y] ∧ Po gs js ∧ CA y ∧ ((∃ ks : List Int, RowOf y (ks.map .int) ∧ ks.length = gs.length ∧ (∀ p ∈ js.zip ks, CMul p.1 p.2) ∧ Q (.d (.int (dot js ks))) []) ∨ (isN gs.length y = false ∧ E ⟨BR, none⟩ []))
abbrev s_Position_worth : Stmt := inClass (top 21) 4
theorem sc_Position_worth : FnScope ["self", "prices", "count", "price"] ["self", "prices"] (defScope s_Position_worth) := ⟨rfl, rfl, rfl, by decide +kernel, rfl, by decide +kernel, by decide +kernel⟩
theorem ok_pworth (D_is_number_row : DefD P w K mg base "is_number_row" 5 ["thing", "length"] sdNumX) {f : Addr} {fd : FuncData} (G : Fun K "worth" "Position.worth" s_Position_worth f fd) (T : TxtP K mg C BR) : FnOk P w K mg base (L2.CX P w) 7 f fd ["self", "prices"] (spOf K (sdWorth C BR)) := by
  refine okD G sc_Position_worth [] (fun as Q E ⟨gs, js, y, e, _⟩ => by subst e; exact ⟨rfl, rfl⟩) ⟨_, fun cdv A outer s H E ad F0 H0 hr => (pds_cons (psd_if (ptd_not (ptd_val (pd_call D_is_number_row.ok (hr.mono (by decide)) (by rfl) D_is_number_row.mg D_is_number_row.kp D_is_number_row.b (takes_of rfl rfl rfl rfl) (pda_cons (pd_var (pv 1)) (pda_cons (pd_builtB (fun h => pe_callB call_len_seq (by rfl) T.b_len (by decide +kernel) h) cn_len.op (pda_cons (pd_fld (pd_var (pv 0)) T.cl_Position (T.na_Position _ (by decide)) rfl) pda_nil)) pda_nil))) (fun h => pt_val h))) (pds_one (psd_raise0 rfl (takes_of rfl rfl rfl rfl) (pmk_own0 T.oe_BadPrices T.c_BadPrices (by rfl)))) pds_nil)
      (pds_one (psd_ret (pd_builtB (fun h => pe_callB (cr_sum rfl) (by rfl) T.b_sum (by decide +kernel) h) cn_sum.op (pda_cons (pd_lc (own := [("count", 2), ("price", 3)]) (by rfl) sc_Position_worth.nd (PI.or (pid_zip (by rfl) T.b_zip (pda_cons (pd_fld (pd_var (pv 0)) T.cl_Position (T.na_Position _ (by decide)) rfl) (pda_cons (pd_var (pv 1)) pda_nil))) (pid_zipM (by rfl) T.b_zip (pda_cons (pd_fld (pd_var (pv 0)) T.cl_Position (T.na_Position _ (by decide)) rfl) (pda_cons (pd_var (pv 1)) pda_nil)))) (blkOk_by (own := [("count", 2), ("price", 3)]) (N := ["self", "prices", "count", "price"]) (sc := defScope s_Position_worth) (by decide +kernel)) (fun _ _ _ _ _ => (pgd_tup (is := [2, 3]) (vs := [2, 3]) (pg_tup rfl (pgs_cons (pg_name (i := 2) sc_Position_worth.nd rfl (.inl rfl)) (pgs_cons (pg_name (i := 3) sc_Position_worth.nd rfl (.inl rfl)) pgs_nil))) rfl (by show ∀ i ∈ ([2, 3] : List Nat), ¬ (i ∈ ([] : List Nat)) ∧ i ∈ ([2, 3] : List Nat); decide))) (fun _ _ _ _ _ => ptsd_nil) (fun _ _ _ _ _ => (pd_op op_mul (op2_I fun _ _ _ => .int _) (pd_var (pv 2)) (pd_var (pv 3)))) (by show ∀ i ∈ ([2, 3] : List Nat), ¬ (i ∈ ([] : List Nat)); decide)) pda_nil))))), ?_⟩
  rintro as Qd Ed ⟨gs, js, y, rfl, hp, hy0, h⟩
  refine DR.start (δ' := [some (.d (posD C gs js)), some (.d y), none, none]) rfl ?_
  obtain ⟨n, pl⟩ := hy0.pl
  walk_at "dd"
  refine ⟨y, n, gs.length, by rw [List.length_map]; rfl, pl, hy0.all, Nat.le_trans hp.1.2.2.1 (by decide), ?_⟩
  rcases h with ⟨ks, hy, hl, hc, k⟩ | ⟨q, k⟩
  case inr =>
    rw [q]
    walk_at "dd"
    exact ⟨_, rfl, k⟩
  have z := isN_ok hy
  rw [hl] at z
  rw [z.2]
  walk_at "dd"
  have hjl : js.length ≤ 5 := by rw [hp.2]; exact hp.1.2.2.1
  have k : Qd (.d (.int ((js.zip ks).map fun p => p.1 * p.2).sum)) [] := by
    have e : ((js.zip ks).map fun p => p.1 * p.2) = js.zipWith (fun x y => x * y) ks := List.map_uncurry_zip_eq_zipWith
    rw [e]; exact k
  have body : ∀ {δ : DSt} {N : List D → DSt → Prop}, True := trivial
  rcases hy with rfl | rfl
  · refine .inr ?_
    walk_at "dd"
    refine ⟨true, false, _, _, _, _, Bool.noConfusion, rfl, rfl, .inl rfl, by rw [List.length_map, List.length_map, hl, hp.2], ?_⟩
    rw [zip_ints]
    refine DR.lc_mapM (l := js.zip ks) (r := fun p : Int × Int => D.tup [.int p.1, .int p.2]) (fun p => D.int (p.1 * p.2)) (fun p acc N hpm hl3 kN => ?_) ?_
    · walk_at "dd"
      refine ⟨hc p hpm, ?_⟩
      walk_at "dd"
      exact ⟨Nat.lt_of_lt_of_le hl3 (Nat.le_trans (by rw [List.length_zip]; exact Nat.le_trans (Nat.min_le_left ..) hjl) (show 5 ≤ sizeLine by decide)), kN⟩
    walk_at "dd"
    refine ⟨(js.zip ks).map fun p => p.1 * p.2, .inl (by rw [List.map_map]; rfl), ?_⟩
    walk_at "dd"
    exact k
  · refine .inl ?_
    walk_at "dd"
    refine ⟨_, _, _, _, rfl, .inr ⟨rfl, rfl⟩, ?_⟩
    rw [zip_ints]
    refine DR.lc_mapM (l := js.zip ks) (r := fun p : Int × Int => D.tup [.int p.1, .int p.2]) (fun p => D.int (p.1 * p.2)) (fun p acc N hpm hl3 kN => ?_) ?_
    · walk_at "dd"
      refine ⟨hc p hpm, ?_⟩
      walk_at "dd"
      exact ⟨Nat.lt_of_lt_of_le hl3 (Nat.le_trans (by rw [List.length_zip]; exact Nat.le_trans (Nat.min_le_left ..) hjl) (show 5 ≤ sizeLine by decide)), kN⟩
    walk_at "dd"
    refine ⟨(js.zip ks).map fun p => p.1 * p.2, .inl (by rw [List.map_map]; rfl), ?_⟩
    walk_at "dd"
    exact k
def sdLoss (C BR : Addr) : SpD := fun as Q E => ∃ (gs : List Str) (js : List Int) (y : D), as = [.d (posD C gs js), .d y] ∧ Po gs js ∧ CA y ∧ ((∃ ks : List Int, RowOf y (ks.map .int) ∧ ks.length = gs.length ∧ (∀ p ∈ js.zip ks, CMul p.1 p.2) ∧ Q (.d (.int (-(dot js ks)))) []) ∨ (isN gs.length y = false ∧ E ⟨BR, none⟩ []))
abbrev s_Position_loss : Stmt := inClass (top 21) 5
theorem sc_Position_loss : FnScope ["self", "move"] ["self", "move"] (defScope s_Position_loss) := ⟨rfl, rfl, rfl, by decide +kernel, rfl, by decide +kernel, by decide +kernel⟩
theorem ok_ploss (D_Position_worth : DefM P w K mg base C "worth" 7 ["self", "prices"] (sdWorth C BR)) {f : Addr} {fd : FuncData} (G : Fun K "loss" "Position.loss" s_Position_loss f fd) (T : TxtP K mg C BR) : FnOk P w K mg base (L2.CX P w) 9 f fd ["self", "move"] (spOf K (sdLoss C BR)) := by
  refine okD G sc_Position_loss [] (fun as Q E ⟨gs, js, y, e, _⟩ => by subst e; exact ⟨rfl, rfl⟩) ⟨_, fun cdv A outer s H E ad F0 H0 hr => (pds_one (psd_ret (pd_neg (pd_meth (pd_var (pv 0)) T.cl_Position D_Position_worth.me D_Position_worth.ok (hr.mono (by decide)) D_Position_worth.b (takes_of rfl rfl rfl rfl) (pda_cons (pd_var (pv 1)) pda_nil))))), ?_⟩
  rintro as Qd Ed ⟨gs, js, y, rfl, hp, hy, h⟩
  refine DR.start (δ' := [some (.d (posD C gs js)), some (.d y)]) rfl ?_
  walk_at "dd"
  rcases h with ⟨ks, hy2, hl, hc, k⟩ | ⟨q, k⟩
  · refine ⟨gs, js, y, rfl, hp, hy, .inl ⟨ks, hy2, hl, hc, _, rfl, ?_⟩⟩
    walk_at "dd"
    exact k
  · refine ⟨gs, js, y, rfl, hp, hy, .inr ⟨q, ?_⟩⟩
    walk_at "dd"
    exact k
end
end KT

set_option Elab.async false
set_option linter.all false
set_option maxRecDepth 100000
set_option maxHeartbeats 0
set_option pp.deepTerms false
set_option pp.deepTerms.threshold 8


namespace KT
open PySem PySem.Spec PyProof.Rows L2 DL
structure TxtPE (K : PySem.W.Frag) (mg : Str → Option Value) (C BR NA : Addr) : Prop extends TxtP K mg C BR where
  cr_Position : ClX.CRead K C (.type "type")
section
variable {P : Program} {w : World} {K : PySem.W.Frag} {mg : Str → Option Value} {base : Heap} {C BG BP BR NA : Addr}
theorem ga_row {x : D} {gs : List Str} (hx : RowOf x (gs.map .str)) (hg : Goods gs) : GA x := by
  have e : seqOf x = gs.map .str := by rcases hx with rfl | rfl <;> rfl
  refine ⟨pl_row hx, fun d hd => ?_, fun d hd z hz => ?_, ?_⟩
  · rw [e] at hd; obtain ⟨g, _, rfl⟩ := List.mem_map.mp hd; exact ⟨_, .str _⟩
  · rw [e] at hd; obtain ⟨g, h, rfl⟩ := List.mem_map.mp hd; cases hz; exact Nat.le_trans (hg.2.2.2 _ h).2.2.1 (by decide)
  · rw [e, List.length_map]; exact Nat.le_trans hg.2.2.1 (by decide)
theorem ca_row {y : D} {js : List Int} (hy : RowOf y (js.map .int)) (hl : js.length ≤ 1000) : CA y := by
  have e : seqOf y = js.map .int := by rcases hy with rfl | rfl <;> rfl
  exact ⟨pl_row hy, allpl_ints hy, by rw [e, List.length_map]; exact hl⟩
theorem row_same {x : D} {gs hs : List Str} (a : RowOf x (gs.map .str)) (b : RowOf x (hs.map .str)) : gs = hs := by
  have e1 : txs (seqOf x) = gs := by rcases a with rfl | rfl <;> exact txs_str
  have e2 : txs (seqOf x) = hs := by rcases b with rfl | rfl <;> exact txs_str
  exact e1.symm.trans e2
theorem ints_same {y : D} {js ks : List Int} (a : RowOf y (js.map .int)) (b : RowOf y (ks.map .int)) : js = ks := by
  have e1 : seqOf y = js.map .int := by rcases a with rfl | rfl <;> rfl
  have e2 : seqOf y = ks.map .int := by rcases b with rfl | rfl <;> rfl
  have e := e1.symm.trans e2
  exact (List.map_inj_right (fun _ _ h => D.int.inj h)).mp e
/-- the class is called with right ones -/
theorem init_ok {x y : D} {gs : List Str} {js : List Int} {Q : DV → List OC → Prop} {E : Ex → List OC → Prop} (hx : RowOf x (gs.map .str)) (hy : RowOf y (js.map .int)) (hp : Po gs js) (k : Q (.d .non) [.ins C (posFs gs js)]) : sdPInit C BG BP [.own (.ins C []), .d x, .d y] Q E := by
  refine ⟨x, y, rfl, ga_row hx hp.1, ca_row hy (by rw [hp.2]; exact Nat.le_trans hp.1.2.2.1 (by decide)), fun gs2 js2 h1 h2 _ => ?_, fun v hv o => ?_, fun gs2 h1 _ v hv o => ?_⟩
  · rw [← row_same hx h1, ← ints_same hy h2]; exact k
  · rw [goodsW_ok hx hp.1] at hv; cases hv
  · rw [← row_same hx h1, ← hp.2, cntW_ok hy] at hv; cases hv
def sdPFlat (C BG : Addr) : SpD := fun as Q E => ∃ x : D, as = [.d (.adr C), .d x] ∧ GA x ∧ (∀ gs, RowOf x (gs.map .str) → Goods gs → Q (.d (posD C gs (gs.map fun _ => 0))) []) ∧ ∀ v, goodsW x = some v → E ⟨BG, some [("what", .str v)]⟩ []
theorem rep0 : ∀ {gs : List Str}, (List.replicate gs.length [D.int 0]).flatten = (gs.map fun _ => (0 : Int)).map .int
  | [] => rfl
  | _ :: gs => congrArg (D.int 0 :: ·) (rep0 (gs := gs))
abbrev s_Position_flat : Stmt := inClass (top 21) 1
theorem sc_Position_flat : FnScope ["cls", "goods", "told"] ["cls", "goods"] (defScope s_Position_flat) := ⟨rfl, rfl, rfl, by decide +kernel, rfl, by decide +kernel, by decide +kernel⟩
theorem ok_pflat (D_checked_goods : DefD P w K mg base "checked_goods" 3 ["goods"] (sdGoodsX BG)) (K_Position : DefK P w K mg base C 7 3 ["self", "goods", "counts"] [] [] (sdPInit C BG BP)) {f : Addr} {fd : FuncData} (G : Fun K "flat" "Position.flat" s_Position_flat f fd) (T : TxtP K mg C BR) : FnOk P w K mg base (L2.CX P w) 9 f fd ["cls", "goods"] (spOf K (sdPFlat C BG)) := by
  refine okD G sc_Position_flat [] (fun as Q E ⟨x, e, _⟩ => by subst e; exact ⟨rfl, rfl⟩) ⟨_, fun cdv A outer s H E ad F0 H0 hr => (pds_cons (psd_set (i := 2) (pd_call D_checked_goods.ok (hr.mono (by decide)) (by rfl) D_checked_goods.mg D_checked_goods.kp D_checked_goods.b (takes_of rfl rfl rfl rfl) (pda_cons (pd_var (pv 1)) pda_nil)) (by show ¬ (2 ∈ ([] : List Nat)); decide) sc_Position_flat.nd rfl (.inl rfl))
      (pds_one (psd_ret (pd_newL (i := 0) (n := 2) K_Position.mkc K_Position.ok (hr.mono (by decide)) (by rfl) (.inl rfl) K_Position.kb0 (fun _ => .nil) (fun _ _ _ => rfl) (takes_of rfl rfl rfl rfl) (pda_cons (pd_var (pv 2)) (pda_cons (pd_op op_repA op2_repA (pd_tup (fun h => pe_tup h) (pda_cons (pd_const pe_int (fun _ => .int _)) pda_nil)) (pd_builtB (fun h => pe_callB call_len_seq (by rfl) T.b_len (by decide +kernel) h) cn_len.op (pda_cons (pd_var (pv 2)) pda_nil))) pda_nil)) pkd_nil)))), ?_⟩
  rintro as Qd Ed ⟨x, rfl, hx, k1, k2⟩
  refine DR.start (δ' := [some (.d (.adr C)), some (.d x), none]) rfl ?_
  walk_at "dd"
  refine goods_any hx (fun gs hxr hg => ?_) fun v hv => ?_
  · have k := k1 gs hxr hg
    walk_at "dd"
    have h1 := hg.2.1
    have h5 := hg.2.2.1
    refine ⟨(fun z => nomatch z), by rw [List.length_map]; omega, by rw [List.length_map]; omega, by show 1 ≤ 1000; decide, ?_⟩
    walk_at "dd"
    rw [show (((gs.map D.str).length : Nat) : Int).toNat = gs.length by rw [List.length_map]; rfl, show (DV.d (D.int 0)).toD = D.int 0 from rfl, rep0]
    refine ⟨rfl, ?_⟩
    walk_at "dd"
    refine ⟨rfl, ?_⟩
    refine init_ok (.inr rfl) (.inr rfl) ⟨hg, by rw [List.length_map]⟩ ?_
    exact ⟨rfl, _, _, rfl, _, rfl, k⟩
  · walk_at "dd"
    exact k2 v hv
theorem any_ne {a : D} (c : Cmp a) : ∀ {gs : List Str}, (∀ g ∈ gs, a ≠ .str g) → ((pyL (gs.map D.str)).any fun z => PyData.eqv z a.py) = false
  | [], _ => by simp [pyL]
  | g :: gs, h => by
    rw [List.map_cons]
    simp only [pyL, List.any_cons]
    rw [any_ne c fun g hg => h g (List.mem_cons_of_mem _ hg), eqv_ds (h g List.mem_cons_self) c]
    rfl
def sdPSingle (C BG BP NA : Addr) : SpD := fun as Q E => ∃ x a n : D, as = [.d (.adr C), .d x, .d a, .d n] ∧ GA x ∧ Cmp a ∧ (∃ t, Pl n t) ∧ (∀ v, goodsW x = some v → E ⟨BG, some [("what", .str v)]⟩ []) ∧
  (∀ gs, RowOf x (gs.map .str) → Goods gs → ((∀ g ∈ gs, a ≠ .str g) → E ⟨NA, some [("name", a)]⟩ []) ∧ ∀ g ∈ gs, a = .str g → (∀ i, n = .int i → Q (.d (posD C gs (gs.map fun b => if b = g then i else 0))) []) ∧ (isI n = false → E ⟨BP, some [("what", .str "count")]⟩ []))
abbrev s_Position_single : Stmt := inClass (top 21) 2
theorem sc_Position_single : FnScope ["cls", "goods", "good", "count", "told", "one"] ["cls", "goods", "good", "count"] (defScope s_Position_single) := ⟨rfl, rfl, rfl, by decide +kernel, rfl, by decide +kernel, by decide +kernel⟩
theorem ok_psingle (X_NoAsset : DefX P w K mg base "NoAsset" NA ["name"]) (D_checked_goods : DefD P w K mg base "checked_goods" 3 ["goods"] (sdGoodsX BG)) (K_Position : DefK P w K mg base C 7 3 ["self", "goods", "counts"] [] [] (sdPInit C BG BP)) {f : Addr} {fd : FuncData} (G : FunD K "single" "Position.single" (defArgs s_Position_single) (defBody s_Position_single) (defScope s_Position_single) [.int 1] [] f fd) (T : TxtP K mg C BR) : FnOk P w K mg base (L2.CX P w) 9 f fd ["cls", "goods", "good", "count"] (spOf K (sdPSingle C BG BP NA)) := by
  refine okDD G sc_Position_single [] (fun as Q E ⟨x, a, n, e, _⟩ => by subst e; exact ⟨rfl, rfl⟩) ⟨_, fun cdv A outer s H E ad F0 H0 hr => (pds_cons (psd_set (i := 4) (pd_call D_checked_goods.ok (hr.mono (by decide)) (by rfl) D_checked_goods.mg D_checked_goods.kp D_checked_goods.b (takes_of rfl rfl rfl rfl) (pda_cons (pd_var (pv 1)) pda_nil)) (by show ¬ (4 ∈ ([] : List Nat)); decide) sc_Position_single.nd rfl (.inl rfl))
      (pds_cons (psd_if (ptd_cmp (op_notInT (units65 hr)) (op2_inT true).op (pd_var (pv 2)) (pd_var (pv 4)) rfl) (pds_one (psd_raiseR rfl (takes_of rfl rfl rfl rfl) (fun h => pmk_oex X_NoAsset.ox X_NoAsset.ini X_NoAsset.ty X_NoAsset.ok (hr.mono (by decide)) X_NoAsset.b .nil pass0 (by rfl) X_NoAsset.mg h) (pda_cons (pd_var (pv 2)) pda_nil))) pds_nil)
      (pds_one (psd_ret (pd_newL (i := 0) (n := 2) K_Position.mkc K_Position.ok (hr.mono (by decide)) (by rfl) (.inl rfl) K_Position.kb0 (fun _ => .nil) (fun _ _ _ => rfl) (takes_of rfl rfl rfl rfl) (pda_cons (pd_var (pv 4)) (pda_cons (pd_lc (own := [("one", 5)]) (by rfl) sc_Position_single.nd (pid_tup (pd_var (pv 4))) (blkOk_by (own := [("one", 5)]) (N := ["cls", "goods", "good", "count", "told", "one"]) (sc := defScope s_Position_single) (by decide +kernel)) (fun _ _ _ _ _ => (pgd_name (i := 5) (vs := [5]) (pg_name (i := 5) sc_Position_single.nd rfl (.inl rfl)) (by show ¬ (5 ∈ ([] : List Nat)); decide) (by decide))) (fun _ _ _ _ _ => ptsd_nil) (fun _ _ _ _ _ => (pd_ifExp (ptd_cmp (op_eqD hr.units) op2_eqD.op (pd_var (pv 5)) (pd_var (pv 2)) (nomark _)) (pd_var (pv 3)) (pd_const pe_int (fun _ => .int _)))) (by show ∀ i ∈ ([5] : List Nat), ¬ (i ∈ ([] : List Nat)); decide)) pda_nil)) pkd_nil))))), ?_⟩
  rintro as Qd Ed ⟨x, a, n, rfl, hx, ca, pn, k1, k2⟩
  refine DR.start (δ' := [some (.d (.adr C)), some (.d x), some (.d a), some (.d n), none, none]) rfl ?_
  walk_at "dd"
  refine goods_any hx (fun gs hxr hg => ?_) fun v hv => ?_
  · obtain ⟨kn, ks⟩ := k2 gs hxr hg
    walk_at "dd"
    refine ⟨_, .inr rfl, ca, (dp_strs _).cmp, ?_⟩
    by_cases hm : ∃ g ∈ gs, a = .str g
    · obtain ⟨g, hgm, rfl⟩ := hm
      rw [if_pos rfl, show ((pyL (gs.map D.str)).any fun z => PyData.eqv z (DV.d (D.str g)).toD.py) = decide (g ∈ gs) from any_str, decide_eq_true hgm]
      refine ⟨DR.nost_b, _, rfl, ?_⟩
      walk_at "dd"
      obtain ⟨ki, ko⟩ := ks g hgm rfl
      refine DR.lc_mapM (l := gs) (r := D.str) (fun b => if b = g then n else .int 0) (fun b acc N hb hl3 kN => ?_) ?_
      · walk_at "dd"
        have al : acc.length < sizeLine := Nat.lt_of_lt_of_le hl3 (Nat.le_trans hg.2.2.1 (show 5 ≤ sizeLine by decide))
        refine eqd_t dp_str.cmp dp_str.cmp eqv_str ?_
        walk_at "dd"
        refine DR.split (fun c => ?_) (fun c => ?_)
        · rw [if_pos c] at kN
          walk_at "dd"
          exact ⟨al, kN⟩
        · rw [if_neg c] at kN
          walk_at "dd"
          exact ⟨al, kN⟩
      walk_at "dd"
      refine ⟨rfl, ?_⟩
      walk_at "dd"
      refine ⟨rfl, ?_⟩
      obtain ⟨t, pn⟩ := pn
      cases q : isI n with
      | true =>
        obtain ⟨i, rfl⟩ : ∃ i, n = .int i := by cases pn <;> first | exact ⟨_, rfl⟩ | cases q
        rw [show (gs.map fun b => if b = g then D.int i else .int 0) = (gs.map fun b => if b = g then i else 0).map D.int by
          rw [List.map_map]; exact List.map_congr_left fun b _ => by by_cases e : b = g <;> simp [e]]
        refine init_ok (.inr rfl) (.inl rfl) ⟨hg, by rw [List.length_map]⟩ ?_
        exact ⟨rfl, _, _, rfl, _, rfl, ki i rfl⟩
      | false =>
        have hin : ∀ b ∈ gs, ∃ t, Pl (if b = g then n else .int 0) t := fun b _ => by by_cases e : b = g; (rw [if_pos e]; exact ⟨_, pn⟩); (rw [if_neg e]; exact ⟨_, .int 0⟩)
        refine ⟨_, _, rfl, ga_row (.inr rfl) hg, ⟨⟨_, .lst _⟩, fun d hd => ?_, ?_⟩, fun gs2 js h1 h2 hp => ?_, fun v hv o => ?_, fun gs2 h1 h2 v hv o => ?_⟩
        · obtain ⟨b, hb, rfl⟩ := List.mem_map.mp hd
          exact hin b hb
        · show (gs.map _).length ≤ 1000
          rw [List.length_map]; exact Nat.le_trans hg.2.2.1 (by decide)
        · exfalso
          have e : (gs.map fun b => if b = g then n else .int 0) = js.map .int := by rcases h2 with h2 | h2; (injection h2); cases h2
          have m : n ∈ js.map D.int := by rw [← e]; exact List.mem_map.mpr ⟨g, hgm, if_pos rfl⟩
          obtain ⟨i, _, rfl⟩ := List.mem_map.mp m
          cases q
        · have hv : goodsW (.tup (gs.map .str)) = some v := hv
          rw [goodsW_ok (.inr rfl) hg] at hv; cases hv
        · have e : gs = gs2 := row_same (x := .tup (gs.map .str)) (.inr rfl) h1
          subst e
          have r : isR gs.length (.lst (gs.map fun b => if b = g then n else .int 0)) = true := by
            unfold isR seqOf isS; rw [List.length_map, decide_eq_true rfl]; rfl
          have m : isN gs.length (.lst (gs.map fun b => if b = g then n else .int 0)) = false := by
            unfold isN
            rw [r, Bool.true_and]
            refine Bool.eq_false_iff.mpr fun h => ?_
            have := List.all_eq_true.mp h n (List.mem_map.mpr ⟨g, hgm, if_pos rfl⟩)
            rw [q] at this
            cases this
          have hv : cntW gs.length (.lst (gs.map fun b => if b = g then n else .int 0)) = some v := hv
          unfold cntW at hv
          rw [r, m] at hv
          obtain rfl := Option.some.inj hv
          exact ⟨_, _, rfl, _, rfl, ko q⟩
    · have no : ∀ g ∈ gs, a ≠ .str g := fun g hg e => hm ⟨g, hg, e⟩
      rw [if_pos rfl, show ((pyL (gs.map D.str)).any fun z => PyData.eqv z (DV.d a).toD.py) = false from any_ne ca no]
      refine ⟨DR.nost_b, _, rfl, ?_⟩
      walk_at "dd"
      refine ⟨rfl, by show 1 ≤ 1000; decide, ?_⟩
      walk_at "dd"
      exact kn no
  · walk_at "dd"
    exact k1 v hv
end
end KT

set_option Elab.async false
set_option linter.all false
set_option maxRecDepth 100000
set_option maxHeartbeats 0
set_option pp.deepTerms false
set_option pp.deepTerms.threshold 8


namespace KT
open PySem PySem.Spec PyProof.Rows L2 DL
theorem atI_map {f : α → β} {xs : List α} {i : Nat} {x : α} (h : xs[i]? = some x) : atI (xs.map f) (i : Int) = some (f x) := by
  unfold atI
  rw [List.length_map]
  have hl : i < xs.length := by
    rcases Nat.lt_or_ge i xs.length with h1 | h1
    · exact h1
    · rw [List.getElem?_eq_none h1] at h; cases h
  have e : ixN xs.length (i : Int) = some i := by
    unfold ixN
    rw [if_pos (by omega)]
    simp [hl]
  rw [e]
  show (xs.map f)[i]? = _
  rw [List.getElem?_map, h]
  rfl
/-- a bag of draws -/
def Bg (ys : List D) : Prop := ∃ x y : Int, ys = [.int x, .int y] ∧ 0 ≤ x ∧ 0 ≤ y ∧ y < 2147483647
section
variable {P : Program} {w : World} {K : PySem.W.Frag} {mg : Str → Option Value} {base : Heap} {C OG BG : Addr}
def sdTake : SpD := fun as Q _ => ∃ (ys : List D) (m : Int), as = [.own (.lst ys), .d (.int m)] ∧ Bg ys ∧ 0 < m ∧ m < 2 ^ 64 ∧ ∀ (r : Int) (ys : List D), 0 ≤ r → r < m → Bg ys → Q (.d (.int r)) [.lst ys]
abbrev s_law_take : Stmt := top 24
theorem sc_law_take : FnScope ["_law_bag_here", "_law_many", "_law_digit"] ["_law_bag_here", "_law_many"] (defScope s_law_take) := ⟨rfl, rfl, rfl, by decide +kernel, rfl, by decide +kernel, by decide +kernel⟩
theorem ok_take {f : Addr} {fd : FuncData} (G : Fun K "_law_take" "_law_take" s_law_take f fd) (T : TxtB mg) : FnOk P w K mg base (L2.CX P w) 1 f fd ["_law_bag_here", "_law_many"] (spOf K sdTake) := by
  refine okD G sc_law_take [0] (fun as Q E ⟨ys, m, e, _⟩ => by subst e; exact ⟨rfl, rfl⟩) ⟨_, fun cdv A outer s H E ad F0 H0 hr => (pds_cons (psd_if (ptd_cmp op_gt (op2_I0 fun _ _ _ => .bl _) (pd_ixO (i := 0) (pv 0) (pd_const pe_int (fun _ => .int _)) (fun _ _ => rfl)) (pd_const pe_int (fun _ => .int _)) (nomark _)) (pds_cons (psd_set (i := 2) (pd_op op_mod (op2_I fun _ _ _ => .int _) (pd_builtB (fun h => pe_callTy call_int1 (by rfl) T.b_int (by decide +kernel) h) cn_int.op (pda_cons (pd_ixO (i := 0) (pv 0) (pd_const pe_int (fun _ => .int _)) (fun _ _ => rfl)) pda_nil)) (pd_var (pv 1))) (by show ¬ (2 ∈ ([0] : List Nat)); decide) sc_law_take.nd rfl (.inl rfl))
      (pds_cons (psd_setItem (j := 0) (fun h g => ps_asg h g) (fun ho hi hs => pg_sub ho hi hs) (pv 0) (pd_op op_fdivW (op2_I fun _ _ _ => .int _) (pd_ixO (i := 0) (pv 0) (pd_const pe_int (fun _ => .int _)) (fun _ _ => rfl)) (pd_var (pv 1))) (pd_const pe_int (fun _ => .int _)))
      (pds_one (psd_ret (pd_var (pv 2)))))) pds_nil)
      (pds_cons (psd_setItem (j := 0) (fun h g => ps_asg h g) (fun ho hi hs => pg_sub ho hi hs) (pv 0) (pd_op op_mod (op2_I fun _ _ _ => .int _) (pd_builtB (fun h => pe_callTy call_int1 (by rfl) T.b_int (by decide +kernel) h) cn_int.op (pda_cons (pd_op op_add (op2_I0 fun _ _ _ => .int _) (pd_op op_mul (op2_I fun _ _ _ => .int _) (pd_ixO (i := 0) (pv 0) (pd_const pe_int (fun _ => .int _)) (fun _ _ => rfl)) (pd_const pe_int (fun _ => .int _))) (pd_const pe_int (fun _ => .int _))) pda_nil)) (pd_const pe_int (fun _ => .int _))) (pd_const pe_int (fun _ => .int _)))
      (pds_one (psd_ret (pd_op op_mod (op2_I fun _ _ _ => .int _) (pd_op op_fdivW (op2_I fun _ _ _ => .int _) (pd_op op_mod (op2_I fun _ _ _ => .int _) (pd_builtB (fun h => pe_callTy call_int1 (by rfl) T.b_int (by decide +kernel) h) cn_int.op (pda_cons (pd_op op_mul (op2_I fun _ _ _ => .int _) (pd_op op_fdivW (op2_I fun _ _ _ => .int _) (pd_ixO (i := 0) (pv 0) (pd_const pe_int (fun _ => .int _)) (fun _ _ => rfl)) (pd_const pe_int (fun _ => .int _))) (pd_const pe_int (fun _ => .int _))) pda_nil)) (pd_const pe_int (fun _ => .int _))) (pd_const pe_int (fun _ => .int _))) (pd_var (pv 1))))))), ?_⟩
  rintro as Qd Ed ⟨ys, m, rfl, ⟨x, y, rfl, x0, y0, y1⟩, m0, m1, k⟩
  refine DR.start (δ' := [some (.own (.lst [.int x, .int y])), some (.d (.int m)), none]) rfl ?_
  walk_at "dd"
  refine DR.split (fun c => ?_) (fun c => ?_)
  · walk_at "dd"
    refine ⟨wide_div m0 (b := 64) (by omega) (by decide) (by decide), ?_⟩
    walk_at "dd"
    exact k _ _ (Int.emod_nonneg _ (by omega)) (Int.emod_lt_of_pos _ m0) ⟨x / m, y, rfl, Int.ediv_nonneg x0 (by omega), y0, y1⟩
  · walk_at "dd"
    have h1 : 0 ≤ (y * 48271 + 60013) % 2147483629 := Int.emod_nonneg _ (by decide)
    have h2 : (y * 48271 + 60013) % 2147483629 < 2147483629 := Int.emod_lt_of_pos _ (by decide)
    exact k _ _ (Int.emod_nonneg _ (by omega)) (Int.emod_lt_of_pos _ m0) ⟨x, _, rfl, x0, h1, by omega⟩
theorem take {ys : List D} {m : Int} {Q : DV → List OC → Prop} {E : Ex → List OC → Prop} (h : Bg ys) (m0 : 0 < m) (m1 : m < 2 ^ 64) (k : ∀ (r : Int) (ys : List D), 0 ≤ r → r < m → Bg ys → Q (.d (.int r)) [.lst ys]) : sdTake [.own (.lst ys), .d (.int m)] Q E := ⟨ys, m, rfl, h, m0, m1, k⟩
def sdBag : SpD := fun as Q _ => ∃ (zs : List Int) (p : Nat), as = [.d (.ro (zs.map .int)), .d (.int p)] ∧ p < 64 ∧ ∀ ys, Bg ys → Q (.own (.lst ys)) []
abbrev s_law_bag : Stmt := top 23
theorem sc_law_bag : FnScope ["_law_script", "_law_at", "_law_cell", "_law_mixed", "_law_k", "_law_each"] ["_law_script", "_law_at"] (defScope s_law_bag) := ⟨rfl, rfl, rfl, by decide +kernel, rfl, by decide +kernel, by decide +kernel⟩
theorem ok_bag {f : Addr} {fd : FuncData} (G : Fun K "_law_bag" "_law_bag" s_law_bag f fd) (T : TxtN mg) : FnOk P w K mg base (L2.CX P w) 1 f fd ["_law_script", "_law_at"] (spOf K sdBag) := by
  refine okD G sc_law_bag [] (fun as Q E ⟨zs, p, e, _⟩ => by subst e; exact ⟨rfl, rfl⟩) ⟨_, fun cdv A outer s H E ad F0 H0 hr => (pds_cons (psd_set (i := 2) (pd_ifExp (ptd_cmp op_lt (op2_I0 fun _ _ _ => .bl _) (pd_var (pv 1)) (pd_builtB (fun h => pe_callB call_len_seq (by rfl) T.b_len (by decide +kernel) h) cn_len.op (pda_cons (pd_var (pv 0)) pda_nil)) (nomark _)) (pd_ix ix_list op2_ixL (pd_var (pv 0)) (pd_var (pv 1)) (fun _ _ => rfl)) (pd_const pe_int (fun _ => .int _))) (by show ¬ (2 ∈ ([] : List Nat)); decide) sc_law_bag.nd rfl (.inl rfl))
      (pds_cons (psd_set (i := 3) (pd_op op_add (op2_I0 fun _ _ _ => .int _) (pd_op op_mul (op2_I fun _ _ _ => .int _) (pd_const pe_int (fun _ => .int _)) (pd_var (pv 1))) (pd_const pe_int (fun _ => .int _))) (by show ¬ (3 ∈ ([] : List Nat)); decide) sc_law_bag.nd rfl (.inl rfl))
      (pds_cons (psd_for (passes_of rfl) rfl (pid_enum (by rfl) T.b_enumerate (pda_cons (pd_slice (pd_var (pv 0)) pod_none (pod_some (pd_const pe_int (fun _ => .int _)))) pda_nil)) (pgd_tup (is := [4, 5]) (vs := [4, 5]) (pg_tup rfl (pgs_cons (pg_name (i := 4) sc_law_bag.nd rfl (.inl rfl)) (pgs_cons (pg_name (i := 5) sc_law_bag.nd rfl (.inl rfl)) pgs_nil))) rfl (by show ∀ i ∈ ([4, 5] : List Nat), ¬ (i ∈ ([] : List Nat)) ∧ i ∈ ([4, 5] : List Nat); decide))
      (pds_one (psd_set (i := 3) (pd_op op_mod (op2_I fun _ _ _ => .int _) (pd_builtB (fun h => pe_callTy call_int1 (by rfl) T.b_int (by decide +kernel) h) cn_int.op (pda_cons (pd_op op_add (op2_I0 fun _ _ _ => .int _) (pd_op op_add (op2_I0 fun _ _ _ => .int _) (pd_op op_mul (op2_I fun _ _ _ => .int _) (pd_var (pv 3)) (pd_const pe_int (fun _ => .int _))) (pd_op op_mod (op2_I fun _ _ _ => .int _) (pd_builtB (fun h => pe_callTy call_int1 (by rfl) T.b_int (by decide +kernel) h) cn_int.op (pda_cons (pd_var (pv 5)) pda_nil)) (pd_const pe_int (fun _ => .int _)))) (pd_op op_mul (op2_I fun _ _ _ => .int _) (pd_const pe_int (fun _ => .int _)) (pd_var (pv 4)))) pda_nil)) (pd_const pe_int (fun _ => .int _))) (by show ¬ (3 ∈ ([] : List Nat)); decide) sc_law_bag.nd rfl (.inl rfl))))
      (pds_one (psd_ret (pd_lst (fun h => pe_lst h) (pda_cons (pd_ifExp (ptd_cmp op_ge (op2_I0 fun _ _ _ => .bl _) (pd_builtB (fun h => pe_callB call_abs (by rfl) T.b_abs (by decide +kernel) h) cn_abs.op (pda_cons (pd_var (pv 2)) pda_nil)) (pd_op op_pow (op2_I fun _ _ _ => .int _) (pd_const pe_int (fun _ => .int _)) (pd_const pe_int (fun _ => .int _))) (nomark _)) (pd_builtB (fun h => pe_callB call_abs (by rfl) T.b_abs (by decide +kernel) h) cn_abs.op (pda_cons (pd_var (pv 2)) pda_nil)) (pd_const pe_int (fun _ => .int _))) (pda_cons (pd_var (pv 3)) pda_nil)))))))), ?_⟩
  rintro as Qd Ed ⟨zs, p, rfl, hp, k⟩
  refine DR.start (δ' := [some (.d (.ro (zs.map .int))), some (.d (.int p)), none, none, none, none]) rfl ?_
  with_reducible refine DR.cut (fun δ => ∃ cell : Int, δ = [some (.d (.ro (zs.map .int))), some (.d (.int p)), some (.d (.int cell)), none, none, none]) (fun N kN => ?_) ?_
  · walk_at "dd"
    refine DR.split (fun c => ?_) (fun c => ?_)
    · walk_at "dd"
      have hl : p < zs.length := by rw [List.length_map] at c; omega
      refine ⟨_, _, .inr rfl, atI_map (List.getElem?_eq_getElem hl), ?_⟩
      exact kN _ ⟨_, rfl⟩
    · walk_at "dd"
      exact kN _ ⟨_, rfl⟩
  rintro δ ⟨cell, rfl⟩
  with_reducible refine DR.cut (fun δ => δ = [some (.d (.ro (zs.map .int))), some (.d (.int p)), some (.d (.int cell)), some (.d (.int (9257 * p + 2711))), none, none]) (fun N kN => ?_) ?_
  · walk_at "dd"
    exact kN _ rfl
  rintro δ rfl
  walk_at "dd"
  refine ⟨_, .inr rfl, ?_⟩
  walk_at "dd"
  refine ⟨_, _, rfl, .inl rfl, ?_⟩
  refine DR.for_inv (fun i δ => ∃ (m : Int) (p4 p5 : Option DV), 0 ≤ m ∧ m < 2147483647 ∧ δ = [some (.d (.ro (zs.map .int))), some (.d (.int p)), some (.d (.int cell)), some (.d (.int m)), p4, p5]) ⟨9257 * (p : Int) + 2711, _, _, by omega, by omega, rfl⟩ ?_ ?_
  · rintro i x δ N hx ⟨m, p4, p5, m0, m1, rfl⟩ kN
    obtain ⟨d, hd, rfl⟩ := DR.enum_at hx
    have hd := List.mem_of_getElem? hd
    obtain ⟨z, rfl⟩ : ∃ z : Int, d = .int z := by
      unfold DL.cutD at hd
      have hd := List.mem_of_mem_drop (List.mem_of_mem_take hd)
      obtain ⟨z, _, rfl⟩ := List.mem_map.mp hd
      exact ⟨z, rfl⟩
    walk_at "dd"
    refine kN _ ⟨_, _, _, Int.emod_nonneg _ (by decide), ?_, rfl⟩
    have := Int.emod_lt_of_pos (m * 40692 + z % 2147483399 + 457 * i) (show (0 : Int) < 2147483563 by decide)
    omega
  · rintro δ ⟨m, p4, p5, m0, m1, rfl⟩
    walk_at "dd"
    refine DR.split (fun c => ?_) (fun c => ?_)
    · walk_at "dd"
      exact k _ ⟨_, _, rfl, by split <;> omega, m0, m1⟩
    · walk_at "dd"
      exact k _ ⟨_, _, rfl, by omega, m0, m1⟩
def sdOf : SpD := fun as Q _ => ∃ (ys xs : List D) (x : D), as = [.own (.lst ys), .d x] ∧ x = .lst xs ∧ Bg ys ∧ 0 < xs.length ∧ xs.length < 1000 ∧ ∀ (g : D) (ys : List D), g ∈ xs → Bg ys → Q (.d g) [.lst ys]
abbrev s_law_of : Stmt := top 25
theorem sc_law_of : FnScope ["_law_bag_here", "_law_some"] ["_law_bag_here", "_law_some"] (defScope s_law_of) := ⟨rfl, rfl, rfl, by decide +kernel, rfl, by decide +kernel, by decide +kernel⟩
theorem ok_of (D_law_take : DefD P w K mg base "_law_take" 1 ["_law_bag_here", "_law_many"] sdTake) {f : Addr} {fd : FuncData} (G : Fun K "_law_of" "_law_of" s_law_of f fd) (T : TxtB mg) : FnOk P w K mg base (L2.CX P w) 3 f fd ["_law_bag_here", "_law_some"] (spOf K sdOf) := by
  refine okD G sc_law_of [0] (fun as Q E ⟨ys, m, x, e, _⟩ => by subst e; exact ⟨rfl, rfl⟩) ⟨_, fun cdv A outer s H E ad F0 H0 hr => (pds_one (psd_ret (pd_ix ix_list op2_ixL (pd_var (pv 1)) (pd_call D_law_take.ok (hr.mono (by decide)) (by rfl) D_law_take.mg D_law_take.kp D_law_take.b (takes_of rfl rfl rfl rfl) (pda_own (i := 0) (pv 0) (pda_cons (pd_builtB (fun h => pe_callB call_len_seq (by rfl) T.b_len (by decide +kernel) h) cn_len.op (pda_cons (pd_var (pv 1)) pda_nil)) pda_nil))) (fun _ _ => rfl)))), ?_⟩
  rintro as Qd Ed ⟨ys, xs, x, rfl, rfl, hb, h0, hl, k⟩
  refine DR.start (δ' := [some (.own (.lst ys)), some (.d (.lst xs))]) rfl ?_
  walk_at "dd"
  refine take hb (by omega) (by omega) fun r ys r0 r1 hb => ?_
  walk_at "dd"
  have hr : r.toNat < xs.length := by omega
  have e : ((r.toNat : Nat) : Int) = r := Int.toNat_of_nonneg r0
  have at' : atI xs (r.toNat : Int) = some xs[r.toNat] := by
    have := atI_map (f := fun d : D => d) (List.getElem?_eq_getElem hr)
    rwa [List.map_id' ] at this
  rw [e] at at'
  refine ⟨_, _, .inl rfl, at', ?_⟩
  walk_at "dd"
  exact k _ ys (List.getElem_mem hr) hb
theorem of {ys xs : List D} {x : D} {Q : DV → List OC → Prop} {E : Ex → List OC → Prop} (e : x = .lst xs) (h : Bg ys) (h0 : 0 < xs.length) (hl : xs.length < 1000) (k : ∀ (g : D) (ys : List D), g ∈ xs → Bg ys → Q (.d g) [.lst ys]) : sdOf [.own (.lst ys), .d x] Q E := ⟨ys, xs, x, rfl, e, h, h0, hl, k⟩
/-- texts of a row of texts -/
theorem ofs {ys : List D} {gs : List Str} {x : D} {Q : DV → List OC → Prop} {E : Ex → List OC → Prop} (e : x = .lst (gs.map .str)) (h : Bg ys) (hn : gs ≠ []) (hl : gs.length < 1000) (k : ∀ (g : Str) (ys : List D), g ∈ gs → Bg ys → Q (.d (.str g)) [.lst ys]) : sdOf [.own (.lst ys), .d x] Q E :=
  of e h (by rw [List.length_map]; exact List.length_pos_iff.mpr hn) (by rw [List.length_map]; exact hl) fun g ys hg hb => by
    obtain ⟨z, hz, rfl⟩ := List.mem_map.mp hg
    exact k z ys hz hb
/-- numbers of a row of numbers -/
theorem ofi {ys : List D} {js : List Int} {x : D} {Q : DV → List OC → Prop} {E : Ex → List OC → Prop} (e : x = .lst (js.map .int)) (h : Bg ys) (hn : js ≠ []) (hl : js.length < 1000) (k : ∀ (j : Int) (ys : List D), j ∈ js → Bg ys → Q (.d (.int j)) [.lst ys]) : sdOf [.own (.lst ys), .d x] Q E :=
  of e h (by rw [List.length_map]; exact List.length_pos_iff.mpr hn) (by rw [List.length_map]; exact hl) fun g ys hg hb => by
    obtain ⟨z, hz, rfl⟩ := List.mem_map.mp hg
    exact k z ys hz hb
def Low (z : Str) : Prop := ∀ c ∈ z.cps.toList, 97 ≤ c ∧ c ≤ 122
def sg (c : Nat) : Str := ⟨#[c]⟩
theorem str_cps {a b : Str} : (a ++ b).cps.toList = a.cps.toList ++ b.cps.toList := Array.toList_append
theorem str_len {a b : Str} : (a ++ b).length = a.length + b.length := Array.size_append
theorem low_app {a b : Str} (h1 : Low a) (h2 : Low b) : Low (a ++ b) := fun c hc => by
  rw [str_cps] at hc
  exact (List.mem_append.mp hc).elim (h1 c) (h2 c)
theorem five {g : Str} (h : g ∈ (["a", "z", "s", "h", "m"] : List Str)) : g.length = 1 ∧ Low g := by
  have e : ∀ g ∈ (["a", "z", "s", "h", "m"] : List Str), g.length = 1 ∧ ∀ c ∈ g.cps.toList, 97 ≤ c ∧ c ≤ 122 := by decide +kernel
  exact e g h
def abc : List Nat := (Str.ofString "abcdefghijklmnopqrstuvwxyz").cps.toList
def sgD (c : Nat) : D := .str ⟨#[c]⟩
/-- a name: a letter within a stem -/
def mkN (z : Str) (n c : Nat) : Str := Txt.slice z none (some (n : Int)) ++ ⟨#[c]⟩ ++ Txt.slice z (some (n : Int)) none
theorem mk_cps {z : Str} {n c : Nat} (h : n ≤ z.length) : (mkN z n c).cps.toList = z.cps.toList.take n ++ [c] ++ z.cps.toList.drop n := by
  unfold mkN
  rw [str_cps, str_cps, slice_hi h, slice_lo h]
theorem mk_len {z : Str} {n c : Nat} (h : n ≤ z.length) : (mkN z n c).length = z.length + 1 := by
  have e : ∀ s : Str, s.length = s.cps.toList.length := fun s => (Array.length_toList).symm
  rw [e, mk_cps h, e z]
  have h : n ≤ z.cps.toList.length := by rw [← e]; exact h
  simp only [List.length_append, List.length_take, List.length_drop, List.length_cons, List.length_nil]
  omega
theorem mk_inj {z : Str} {n c d : Nat} (h : n ≤ z.length) (e : mkN z n c = mkN z n d) : c = d := by
  have e := congrArg (fun s : Str => s.cps.toList) e
  simp only [mk_cps h, List.append_assoc] at e
  have e := List.append_cancel_left e
  simpa using e
theorem mk_low {z : Str} {n c : Nat} (h : n ≤ z.length) (hz : Low z) (hc : 97 ≤ c ∧ c ≤ 122) : Low (mkN z n c) := fun d hd => by
  rw [mk_cps h] at hd
  rcases List.mem_append.mp hd with hd | hd
  · rcases List.mem_append.mp hd with hd | hd
    · exact hz d (List.mem_of_mem_take hd)
    · rw [List.mem_singleton.mp hd]; exact hc
  · exact hz d (List.mem_of_mem_drop hd)
theorem abc_low : ∀ c ∈ abc, 97 ≤ c ∧ c ≤ 122 := by decide +kernel
theorem abc_nd : abc.Nodup := by decide +kernel
theorem erase_map {α β : Type} {f : α → β} : ∀ {l : List α} {n : Nat}, (l.map f).eraseIdx n = (l.eraseIdx n).map f
  | [], _ => rfl
  | _ :: _, 0 => rfl
  | a :: l, n + 1 => congrArg (f a :: ·) (erase_map (l := l) (n := n))
theorem erase_perm {α : Type} : ∀ {l : List α} {n : Nat} (h : n < l.length), (l[n] :: l.eraseIdx n).Perm l
  | [], _, h => nomatch h
  | _ :: _, 0, _ => .refl _
  | a :: l, n + 1, h => (List.Perm.swap a (l[n]'(Nat.lt_of_succ_lt_succ h)) (l.eraseIdx n)).trans (.cons a (erase_perm (Nat.lt_of_succ_lt_succ h)))
theorem six {r : Int} {n : Nat} (h0 : 0 ≤ r) (h1 : r < n) : seqIndex? r n = some r.toNat := by
  unfold seqIndex?
  simp
  omega
theorem upto_at {m i : Nat} {x : D} (h : (upto 0 m)[i]? = some x) : x = .int i ∧ i < m := by
  unfold upto at h
  rw [List.getElem?_map] at h
  rcases Nat.lt_or_ge i m with hi | hi
  · rw [List.getElem?_range hi] at h
    cases h
    exact ⟨by show D.int (0 + (i : Int)) = _; rw [Int.zero_add], hi⟩
  · rw [List.getElem?_eq_none (by rw [List.length_range]; exact hi)] at h
    cases h
theorem upto_len {m : Nat} : (upto 0 m).length = m := by
  unfold upto
  simp
/-- goods of at most k names -/
def sdNames : SpD := fun as Q _ => ∃ (ys : List D) (k : Nat), as = [.own (.lst ys), .d (.int k)] ∧ Bg ys ∧ 1 ≤ k ∧ k ≤ 5 ∧ ∀ (gs : List Str) (ys : List D), Goods gs → (∀ g ∈ gs, g ≠ "other") → Bg ys → Q (.own (.lst (gs.map .str))) [.lst ys] ∧ Q (.d (.lst (gs.map .str))) [.lst ys]
theorem names {ys : List D} {n : Nat} {Q : DV → List OC → Prop} {E : Ex → List OC → Prop} (h : Bg ys) (h1 : 1 ≤ n) (h5 : n ≤ 5) (k : ∀ (gs : List Str) (ys : List D), Goods gs → (∀ g ∈ gs, g ≠ "other") → Bg ys → Q (.own (.lst (gs.map .str))) [.lst ys] ∧ Q (.d (.lst (gs.map .str))) [.lst ys]) : sdNames [.own (.lst ys), .d (.int n)] Q E := ⟨ys, n, rfl, h, h1, h5, k⟩
theorem str_x {a b : Str} (h : a.cps.toList = b.cps.toList) : a = b := by
  cases a; cases b
  exact congrArg _ (Array.toList_inj.mp h)
theorem low_q : Low "q" := by unfold Low; decide +kernel
theorem q_ne {g : Str} : g ++ "q" ≠ "cash" := fun e => by
  have e := congrArg (fun s : Str => s.cps.toList.getLast?) e
  simp only [str_cps] at e
  rw [show (("q" : Str).cps.toList) = [113] from rfl, List.getLast?_concat] at e
  exact absurd e (by decide +kernel)
theorem q_inj {g h : Str} (e : g ++ "q" = h ++ "q") : g = h := by
  have e := congrArg (fun s : Str => s.cps.toList) e
  simp only [str_cps] at e
  exact str_x (List.append_cancel_right e)
/-- a stem -/
def Stm (z : Str) : Prop := ∀ c ∈ z.cps.toList, c ∈ ([97, 122, 115, 104, 109] : List Nat)
theorem stm_low {z : Str} (h : Stm z) : Low z := fun c hc => by
  have := h c hc
  simp only [List.mem_cons, List.not_mem_nil, or_false] at this
  omega
theorem stm_app {a b : Str} (h1 : Stm a) (h2 : Stm b) : Stm (a ++ b) := fun c hc => by
  rw [str_cps] at hc
  exact (List.mem_append.mp hc).elim (h1 c) (h2 c)
theorem fiveS {g : Str} (h : g ∈ (["a", "z", "s", "h", "m"] : List Str)) : g.length = 1 ∧ Stm g := by
  have e : ∀ g ∈ (["a", "z", "s", "h", "m"] : List Str), g.length = 1 ∧ ∀ c ∈ g.cps.toList, c ∈ ([97, 122, 115, 104, 109] : List Nat) := by decide +kernel
  exact e g h
theorem other_in : 111 ∈ (Str.ofString "other").cps.toList ∧ 116 ∈ (Str.ofString "other").cps.toList := by decide +kernel
theorem mk_other {z : Str} {n c : Nat} (h : n ≤ z.length) (hz : Stm z) {q : Str} (hq : ∀ d ∈ q.cps.toList, d = 113) : mkN z n c ++ q ≠ "other" := fun e => by
  have m : ∀ d ∈ (Str.ofString "other").cps.toList, d ∈ ([97, 122, 115, 104, 109] : List Nat) ∨ d = c ∨ d = 113 := fun d hd => by
    rw [← e, str_cps, mk_cps h] at hd
    rcases List.mem_append.mp hd with hd | hd
    · rcases List.mem_append.mp hd with hd | hd
      · rcases List.mem_append.mp hd with hd | hd
        · exact .inl (hz d (List.mem_of_mem_take hd))
        · exact .inr (.inl (List.mem_singleton.mp hd))
      · exact .inl (hz d (List.mem_of_mem_drop hd))
    · exact .inr (.inr (hq d hd))
  have a := m 111 other_in.1
  have b := m 116 other_in.2
  simp only [List.mem_cons, List.not_mem_nil, or_false] at a b
  omega
theorem mk_other0 {z : Str} {n c : Nat} (h : n ≤ z.length) (hz : Stm z) : mkN z n c ≠ "other" := fun e => mk_other h hz (q := "") (fun d hd => nomatch hd) (by rw [e]; decide +kernel)
abbrev s_law_names : Stmt := top 26
theorem sc_law_names : FnScope ["_law_bag_here", "_law_many", "_law_left", "_law_found", "_law_stem", "_law_turn", "_law_place", "_law_one"] ["_law_bag_here", "_law_many"] (defScope s_law_names) := ⟨rfl, rfl, rfl, by decide +kernel, rfl, by decide +kernel, by decide +kernel⟩
theorem ok_names (D_law_take : DefD P w K mg base "_law_take" 1 ["_law_bag_here", "_law_many"] sdTake) (D_law_of : DefD P w K mg base "_law_of" 3 ["_law_bag_here", "_law_some"] sdOf) {f : Addr} {fd : FuncData} (G : Fun K "_law_names" "_law_names" s_law_names f fd) (T : TxtN mg) : FnOk P w K mg base (L2.CX P w) 5 f fd ["_law_bag_here", "_law_many"] (spOf K sdNames) := by
  refine okD G sc_law_names [0] (fun as Q E ⟨ys, m, e, _⟩ => by subst e; exact ⟨rfl, rfl⟩) ⟨_, fun cdv A outer s H E ad F0 H0 hr => (pds_cons (psd_par3 (i := 2) (j := 3) (l := 4) (oi := true) (oj := true) (ol := false) (pka_cons (pd_builtB (fun h => pe_callTy (call_listS (by rfl)) (by rfl) T.b_list (by decide +kernel) h) cn_listS (pda_cons (pd_const pe_str (fun _ => .str (by decide +kernel))) pda_nil)) (pka_cons (pd_lst (fun h => pe_lst h) pda_nil) (pka_cons (pd_const pe_str (fun _ => .str (by decide +kernel))) pka_nil))) (by show ¬ (2 ∈ ([0] : List Nat)); decide) (by show ¬ (3 ∈ ([0] : List Nat)); decide) (by show ¬ (4 ∈ ([0] : List Nat)); decide) (fun h => ps_par3 (i := 2) (j := 3) (l := 4) (by rfl) sc_law_names.nd rfl rfl rfl (by decide) (by decide) (by decide) rfl rfl rfl h (by rfl)) (by decide) (by decide) (by decide))
      (pds_cons (psd_for (passes_of rfl) rfl (pid_range1 (by rfl) T.b_range (pda_cons (pd_call D_law_take.ok (hr.mono (by decide)) (by rfl) D_law_take.mg D_law_take.kp D_law_take.b (takes_of rfl rfl rfl rfl) (pda_own (i := 0) (pv 0) (pda_cons (pd_const pe_int (fun _ => .int _)) pda_nil))) pda_nil)) (pgd_name (i := 5) (vs := [5]) (pg_name (i := 5) sc_law_names.nd rfl (.inl rfl)) (by show ¬ (5 ∈ ([0] : List Nat)); decide) (by decide))
      (pds_one (psd_set (i := 4) (pd_op op_add_str op2_addS (pd_var (pv 4)) (pd_call D_law_of.ok (hr.mono (by decide)) (by rfl) D_law_of.mg D_law_of.kp D_law_of.b (takes_of rfl rfl rfl rfl) (pda_own (i := 0) (pv 0) (pda_cons (pd_lst (fun h => pe_lst h) (pda_cons (pd_const pe_str (fun _ => .str (by decide +kernel))) (pda_cons (pd_const pe_str (fun _ => .str (by decide +kernel))) (pda_cons (pd_const pe_str (fun _ => .str (by decide +kernel))) (pda_cons (pd_const pe_str (fun _ => .str (by decide +kernel))) (pda_cons (pd_const pe_str (fun _ => .str (by decide +kernel))) pda_nil)))))) pda_nil)))) (by show ¬ (4 ∈ ([0] : List Nat)); decide) sc_law_names.nd rfl (.inl rfl))))
      (pds_cons (psd_set (i := 6) (pd_call D_law_take.ok (hr.mono (by decide)) (by rfl) D_law_take.mg D_law_take.kp D_law_take.b (takes_of rfl rfl rfl rfl) (pda_own (i := 0) (pv 0) (pda_cons (pd_op op_add (op2_I0 fun _ _ _ => .int _) (pd_builtB (fun h => pe_callB call_len_str (by rfl) T.b_len (by decide +kernel) h) cn_lenS.op (pda_cons (pd_var (pv 4)) pda_nil)) (pd_const pe_int (fun _ => .int _))) pda_nil))) (by show ¬ (6 ∈ ([0] : List Nat)); decide) sc_law_names.nd rfl (.inl rfl))
      (pds_cons (psd_for (passes_of rfl) rfl (pid_range1 (by rfl) T.b_range (pda_cons (pd_var (pv 1)) pda_nil)) (pgd_name (i := 5) (vs := [5]) (pg_name (i := 5) sc_law_names.nd rfl (.inl rfl)) (by show ¬ (5 ∈ ([0] : List Nat)); decide) (by decide))
      (pds_one (psd_expr (pd_methO (j := 3) (fun ho h => pe_bm PySem.F.plainAttrs_list PySem.F.slot_list_append PySem.F.type_list_append mt_append ho h) mo_append (pv 3) (pda_cons (pd_op op_add_str op2_addS (pd_op op_add_str op2_addS (pd_sliceS (pd_var (pv 4)) pod_none (pod_some (pd_var (pv 6)))) (pd_methO (j := 2) (fun ho h => pe_bm PySem.F.plainAttrs_list PySem.F.slot_list_pop PySem.F.type_list_pop mt_popAt ho h) mo_pop (pv 2) (pda_cons (pd_call D_law_take.ok (hr.mono (by decide)) (by rfl) D_law_take.mg D_law_take.kp D_law_take.b (takes_of rfl rfl rfl rfl) (pda_own (i := 0) (pv 0) (pda_cons (pd_builtO (i := 2) (fun h => pe_callB call_len_seq (by rfl) T.b_len (by decide +kernel) h) cn_len (pv 2)) pda_nil))) pda_nil))) (pd_sliceS (pd_var (pv 4)) (pod_some (pd_var (pv 6))) pod_none)) pda_nil)))))
      (pds_one (psd_ret (pd_ifExp (ptd_inLO_t (j := 3) (units65 hr) (pd_const pe_str (fun _ => .str (by decide +kernel))) (pv 3)) (pd_lc (own := [("_law_one", 7)]) (by rfl) sc_law_names.nd (pid_list (pd_fvar (i := 3) (pv 3) (by show ¬ (3 ∈ ([0] : List Nat)); decide))) (blkOk_by (own := [("_law_one", 7)]) (N := ["_law_bag_here", "_law_many", "_law_left", "_law_found", "_law_stem", "_law_turn", "_law_place", "_law_one"]) (sc := defScope s_law_names) (by decide +kernel)) (fun _ _ _ _ _ => (pgd_name (i := 7) (vs := [7]) (pg_name (i := 7) sc_law_names.nd rfl (.inl rfl)) (by show ¬ (7 ∈ ([0] : List Nat)); decide) (by decide))) (fun _ _ _ _ _ => ptsd_nil) (fun _ _ _ _ _ => (pd_op op_add_str op2_addS (pd_var (pv 7)) (pd_const pe_str (fun _ => .str (by decide +kernel))))) (by show ∀ i ∈ ([7] : List Nat), ¬ (i ∈ ([0] : List Nat)); decide)) (pd_fvar (i := 3) (pv 3) (by show ¬ (3 ∈ ([0] : List Nat)); decide))))))))), ?_⟩
  rintro as Qd Ed ⟨ys, kk, rfl, hb, k1, k5, k⟩
  refine DR.start (δ' := [some (.own (.lst ys)), some (.d (.int kk)), none, none, none, none, none, none]) rfl ?_
  with_reducible refine DR.cut (fun δ => δ = [some (.own (.lst ys)), some (.d (.int kk)), some (.own (.lst (abc.map sgD))), some (.own (.lst [])), some (.d (.str "")), none, none, none]) (fun N kN => ?_) ?_
  · walk_at "dd"
    refine ⟨by decide, ?_⟩
    walk_at "dd"
    exact ⟨_, _, _, rfl, kN _ rfl⟩
  rintro δ rfl
  with_reducible refine DR.cut (fun δ => ∃ (ys : List D) (z : Str) (p5 : Option DV), δ = [some (.own (.lst ys)), some (.d (.int kk)), some (.own (.lst (abc.map sgD))), some (.own (.lst [])), some (.d (.str z)), p5, none, none] ∧ Bg ys ∧ z.length ≤ 10 ∧ Stm z) (fun N kN => ?_) ?_
  · walk_at "dd"
    refine take hb (by decide) (by decide) fun r ys r0 r1 hb => ?_
    walk_at "dd"
    refine ⟨by omega, by omega, ?_⟩
    refine DR.for_inv (fun i δ => ∃ (ys : List D) (z : Str) (p5 : Option DV), δ = [some (.own (.lst ys)), some (.d (.int kk)), some (.own (.lst (abc.map sgD))), some (.own (.lst [])), some (.d (.str z)), p5, none, none] ∧ Bg ys ∧ z.length = i ∧ Stm z) ⟨ys, "", none, rfl, hb, rfl, fun c h => nomatch h⟩ ?_ ?_
    · rintro i x δ N hx ⟨ys, z, p5, rfl, hb, hz, hl⟩ kN
      obtain ⟨rfl, hi⟩ := upto_at hx
      walk_at "dd"
      refine ⟨by show 5 ≤ sizeLine; decide, ?_⟩
      walk_at "dd"
      refine ofs (gs := ["a", "z", "s", "h", "m"]) rfl hb (fun h => nomatch h) (by decide) fun g ys hg hb => ?_
      have hg := fiveS hg
      walk_at "dd"
      refine ⟨Nat.le_trans (show z.length + g.length ≤ 11 by omega) (by decide), ?_⟩
      walk_at "dd"
      exact kN _ ⟨ys, z ++ g, _, rfl, hb, by rw [str_len]; omega, stm_app hl hg.2⟩
    · rintro δ ⟨ys, z, p5, rfl, hb, hz, hl⟩
      rw [upto_len] at hz
      exact kN _ ⟨ys, z, p5, rfl, hb, by omega, hl⟩
  rintro δ ⟨ys, z, p5, rfl, hb, hz, hl⟩
  walk_at "dd"
  refine ⟨Nat.le_trans hz (by decide), ?_⟩
  walk_at "dd"
  refine take hb (m := ((z.length : Nat) : Int) + 1) (by omega) (by omega) fun r ys r0 r1 hb => ?_
  walk_at "dd"
  refine ⟨by omega, by omega, ?_⟩
  have hr : r.toNat ≤ z.length := by omega
  have er : ((r.toNat : Nat) : Int) = r := Int.toNat_of_nonneg r0
  refine DR.for_inv (fun i δ => ∃ (ys : List D) (cs ls : List Nat) (p5 : Option DV), δ = [some (.own (.lst ys)), some (.d (.int kk)), some (.own (.lst (ls.map sgD))), some (.own (.lst ((cs.map (mkN z r.toNat)).map .str))), some (.d (.str z)), p5, some (.d (.int r)), none] ∧ Bg ys ∧ cs.length = i ∧ (cs ++ ls).Perm abc) ⟨ys, [], abc, p5, rfl, hb, rfl, .refl _⟩ ?_ ?_
  · rintro i x δ N hx ⟨ys, cs, ls, p5, rfl, hb, hc, hp⟩ kN
    obtain ⟨rfl, hi⟩ := upto_at hx
    have hlen : ls.length + i = 26 := by
      have := hp.length_eq
      rw [List.length_append, show abc.length = 26 from by decide +kernel] at this
      omega
    walk_at "dd"
    have zl : z.length ≤ sizeLine := Nat.le_trans hz (by decide)
    refine ⟨zl, ?_⟩
    walk_at "dd"
    refine take hb (m := ((ls.map sgD).length : Nat)) (by rw [List.length_map]; omega) (by rw [List.length_map]; omega) fun q ys q0 q1 hb => ?_
    rw [List.length_map] at q1
    walk_at "dd"
    have hq : q.toNat < ls.length := by omega
    refine ⟨[_], _, rfl, rfl, q, q.toNat, sgD ls[q.toNat], rfl, by omega, by omega, six q0 (by rw [List.length_map]; exact q1), by rw [List.getElem?_map, List.getElem?_eq_getElem hq]; rfl, ?_⟩
    walk_at "dd"
    have l1 : (Txt.slice z none (some r)).length + 1 ≤ 12 := by
      have := mk_len (c := 0) hr
      unfold mkN at this
      rw [str_len, str_len, er] at this
      have o : (⟨#[0]⟩ : Str).length = 1 := rfl
      omega
    refine ⟨Nat.le_trans l1 (by decide), ?_⟩
    walk_at "dd"
    refine ⟨zl, ?_⟩
    walk_at "dd"
    have l2 : (Txt.slice z none (some r) ++ (⟨#[ls[q.toNat]]⟩ : Str)).length + (Txt.slice z (some r) none).length ≤ 12 := by
      have := mk_len (c := ls[q.toNat]) hr
      unfold mkN at this
      rw [str_len, er] at this
      omega
    refine ⟨Nat.le_trans l2 (by decide), ?_⟩
    walk_at "dd"
    refine ⟨[_], _, rfl, rfl, _, rfl, by rw [List.length_map, List.length_map]; exact Nat.lt_of_lt_of_le (show cs.length < 5 by omega) (by decide), ?_⟩
    refine kN _ ⟨ys, cs ++ [ls[q.toNat]], ls.eraseIdx q.toNat, some (.d (.int i)), ?_, hb, by rw [List.length_append, hc]; rfl, ?_⟩
    · rw [List.map_append, List.map_append, ← erase_map]
      have em : mkN z r.toNat ls[q.toNat] = Txt.slice z none (some r) ++ (⟨#[ls[q.toNat]]⟩ : Str) ++ Txt.slice z (some r) none := by unfold mkN; rw [er]
      show _ = [_, _, _, some (DV.own (OC.lst (_ ++ [D.str (mkN z r.toNat ls[q.toNat])]))), _, _, _, _]
      rw [em]
      rfl
    · refine .trans ?_ hp
      rw [List.append_assoc]
      exact .append_left _ (erase_perm hq)
  · rintro δ ⟨ys, cs, ls, p5, rfl, hb, hc, hp⟩
    rw [upto_len] at hc
    have hc : cs.length = kk := hc
    have hcs : ∀ c ∈ cs, 97 ≤ c ∧ c ≤ 122 := fun c h => abc_low c (hp.mem_iff.mp (List.mem_append_left _ h))
    have hnd : cs.Nodup := (List.nodup_append.mp (hp.nodup_iff.mpr abc_nd)).1
    have hfn : (cs.map (mkN z r.toNat)).Nodup := List.pairwise_map.mpr (hnd.imp fun h e => h (mk_inj hr e))
    walk_at "dd"
    refine ⟨dp_str.cmp, (dp_lst (dp_map fun r _ => dp_str)).cmp, _, rfl, ?_⟩
    rw [show ((pyL ((cs.map (mkN z r.toNat)).map D.str)).any fun z => PyData.eqv z (DV.d (D.str "cash")).toD.py) = decide (cash ∈ cs.map (mkN z r.toNat)) from any_str]
    have len : ∀ g ∈ cs.map (mkN z r.toNat), 1 ≤ g.length ∧ g.length ≤ 11 ∧ Low g := fun g hg => by
      obtain ⟨c, hc, rfl⟩ := List.mem_map.mp hg
      exact ⟨by rw [mk_len hr]; omega, by rw [mk_len hr]; omega, mk_low hr (stm_low hl) (hcs c hc)⟩
    rw [show (false != decide (cash ∈ cs.map (mkN z r.toNat))) = decide (cash ∈ cs.map (mkN z r.toNat)) by simp]
    refine DR.split (fun c => ?_) (fun c => ?_)
    · walk_at "dd"
      refine DR.lc_mapM (l := cs.map (mkN z r.toNat)) (r := D.str) (fun g => D.str (g ++ "q")) (fun g acc N hg hl3 kN => ?_) ?_
      · walk_at "dd"
        have hg := len g hg
        refine ⟨Nat.le_trans (show g.length + 1 ≤ 12 by omega) (by decide), ?_⟩
        walk_at "dd"
        exact ⟨Nat.lt_of_lt_of_le hl3 (by rw [List.length_map, hc]; exact Nat.le_trans k5 (by decide)), kN⟩
      have := (k ((cs.map (mkN z r.toNat)).map fun g => g ++ "q") ys ⟨List.pairwise_map.mpr (hfn.imp fun h e => h (q_inj e)), by rw [List.length_map, List.length_map, hc]; exact k1, by rw [List.length_map, List.length_map, hc]; exact k5, fun g hg => ?_⟩ (fun g hg => ?_) hb).1
      · walk_at "dd"
        rw [List.map_map] at this
        exact this
      · obtain ⟨a, ha, rfl⟩ := List.mem_map.mp hg
        have la := len a ha
        have lq : ("q" : Str).length = 1 := rfl
        exact ⟨q_ne, by rw [str_len]; omega, by rw [str_len]; omega, low_app la.2.2 low_q⟩
      · obtain ⟨a, ha, rfl⟩ := List.mem_map.mp hg
        obtain ⟨c, _, rfl⟩ := List.mem_map.mp ha
        exact mk_other hr hl (fun d hd => by
          have e : ∀ d ∈ (Str.ofString "q").cps.toList, d = 113 := by decide +kernel
          exact e d hd)
    · walk_at "dd"
      exact (k (cs.map (mkN z r.toNat)) ys ⟨hfn, by rw [List.length_map, hc]; exact k1, by rw [List.length_map, hc]; exact k5, fun g hg => ⟨fun e => c ((show g = cash from e) ▸ hg), (len g hg).1, Nat.le_succ_of_le (len g hg).2.1, (len g hg).2.2⟩⟩ (fun g hg => by obtain ⟨c, _, rfl⟩ := List.mem_map.mp hg; exact mk_other0 hr hl) hb).2
end
end KT

set_option Elab.async false
set_option linter.all false
set_option maxRecDepth 100000
set_option maxHeartbeats 0
set_option pp.deepTerms false
set_option pp.deepTerms.threshold 8


namespace KT
open PySem PySem.Spec PyProof.Rows L2 DL
section
variable {P : Program} {w : World} {K : PySem.W.Frag} {mg : Str → Option Value} {base : Heap} {C OG BG : Addr}
def sdFar : SpD := fun as Q _ => ∃ (ys : List D) (m : Int), as = [.own (.lst ys), .d (.int m)] ∧ Bg ys ∧ 0 ≤ m ∧ m ≤ 10 ^ 18 ∧ ∀ (r : Int) (ys : List D), 0 ≤ r → r ≤ m → Bg ys → Q (.d (.int r)) [.lst ys]
abbrev s_law_far : Stmt := top 27
theorem sc_law_far : FnScope ["_law_bag_here", "_law_most", "_law_value"] ["_law_bag_here", "_law_most"] (defScope s_law_far) := ⟨rfl, rfl, rfl, by decide +kernel, rfl, by decide +kernel, by decide +kernel⟩
theorem ok_far (D_law_take : DefD P w K mg base "_law_take" 1 ["_law_bag_here", "_law_many"] sdTake) {f : Addr} {fd : FuncData} (G : Fun K "_law_far" "_law_far" s_law_far f fd) (T : TxtB mg) : FnOk P w K mg base (L2.CX P w) 3 f fd ["_law_bag_here", "_law_most"] (spOf K sdFar) := by
  refine okD G sc_law_far [0] (fun as Q E ⟨ys, m, e, _⟩ => by subst e; exact ⟨rfl, rfl⟩) ⟨_, fun cdv A outer s H E ad F0 H0 hr => (pds_cons (psd_set (i := 2) (pd_op op_add (op2_I0 fun _ _ _ => .int _) (pd_op op_add (op2_I0 fun _ _ _ => .int _) (pd_op op_mul (op2_I fun _ _ _ => .int _) (pd_call D_law_take.ok (hr.mono (by decide)) (by rfl) D_law_take.mg D_law_take.kp D_law_take.b (takes_of rfl rfl rfl rfl) (pda_own (i := 0) (pv 0) (pda_cons (pd_op op_pow (op2_I fun _ _ _ => .int _) (pd_const pe_int (fun _ => .int _)) (pd_const pe_int (fun _ => .int _))) pda_nil))) (pd_op op_pow (op2_I fun _ _ _ => .int _) (pd_const pe_int (fun _ => .int _)) (pd_const pe_int (fun _ => .int _)))) (pd_op op_mul (op2_I fun _ _ _ => .int _) (pd_call D_law_take.ok (hr.mono (by decide)) (by rfl) D_law_take.mg D_law_take.kp D_law_take.b (takes_of rfl rfl rfl rfl) (pda_own (i := 0) (pv 0) (pda_cons (pd_op op_pow (op2_I fun _ _ _ => .int _) (pd_const pe_int (fun _ => .int _)) (pd_const pe_int (fun _ => .int _))) pda_nil))) (pd_op op_pow (op2_I fun _ _ _ => .int _) (pd_const pe_int (fun _ => .int _)) (pd_const pe_int (fun _ => .int _))))) (pd_call D_law_take.ok (hr.mono (by decide)) (by rfl) D_law_take.mg D_law_take.kp D_law_take.b (takes_of rfl rfl rfl rfl) (pda_own (i := 0) (pv 0) (pda_cons (pd_op op_pow (op2_I fun _ _ _ => .int _) (pd_const pe_int (fun _ => .int _)) (pd_const pe_int (fun _ => .int _))) pda_nil)))) (by show ¬ (2 ∈ ([0] : List Nat)); decide) sc_law_far.nd rfl (.inl rfl))
      (pds_one (psd_ret (pd_op op_mod (op2_I fun _ _ _ => .int _) (pd_var (pv 2)) (pd_op op_add (op2_I0 fun _ _ _ => .int _) (pd_var (pv 1)) (pd_const pe_int (fun _ => .int _))))))), ?_⟩
  rintro as Qd Ed ⟨ys, m, rfl, hb, m0, m1, k⟩
  refine DR.start (δ' := [some (.own (.lst ys)), some (.d (.int m)), none]) rfl ?_
  have p6 : CPow 10 6 := ⟨by decide, by decide, by decide⟩
  walk_at "dd"
  refine ⟨p6, ?_⟩
  walk_at "dd"
  refine take hb (by decide) (by decide) fun r1 ys p1 q1 hb => ?_
  walk_at "dd"
  refine ⟨p6, ?_⟩
  walk_at "dd"
  refine take hb (by decide) (by decide) fun r2 ys p2 q2 hb => ?_
  walk_at "dd"
  refine ⟨p6, ?_⟩
  walk_at "dd"
  refine ⟨p6, ?_⟩
  walk_at "dd"
  refine take hb (by decide) (by decide) fun r3 ys p3 q3 hb => ?_
  walk_at "dd"
  refine k _ ys ?_ ?_ hb
  · exact Int.emod_nonneg _ (by omega)
  · have := Int.emod_lt_of_pos (r1 * 10 ^ (Int.toNat 12) + r2 * 10 ^ (Int.toNat 6) + r3) (show 0 < m + 1 by omega)
    exact Int.le_of_lt_add_one this
def sdWhl : SpD := fun as Q _ => ∃ (ys : List D) (m : Int), as = [.own (.lst ys), .d (.int m)] ∧ Bg ys ∧ 4 ≤ m ∧ m ≤ 10 ^ 18 ∧ ∀ (r : Int) (ys : List D), -m ≤ r → r ≤ m → Bg ys → Q (.d (.int r)) [.lst ys]
theorem whl {ys : List D} {m : Int} {Q : DV → List OC → Prop} {E : Ex → List OC → Prop} (h : Bg ys) (m0 : 4 ≤ m) (m1 : m ≤ 10 ^ 18) (k : ∀ (r : Int) (ys : List D), -m ≤ r → r ≤ m → Bg ys → Q (.d (.int r)) [.lst ys]) : sdWhl [.own (.lst ys), .d (.int m)] Q E := ⟨ys, m, rfl, h, m0, m1, k⟩
abbrev s_law_whole : Stmt := top 28
theorem sc_law_whole : FnScope ["_law_bag_here", "_law_most", "_law_way"] ["_law_bag_here", "_law_most"] (defScope s_law_whole) := ⟨rfl, rfl, rfl, by decide +kernel, rfl, by decide +kernel, by decide +kernel⟩
theorem ok_whole (D_law_take : DefD P w K mg base "_law_take" 1 ["_law_bag_here", "_law_many"] sdTake) (D_law_far : DefD P w K mg base "_law_far" 3 ["_law_bag_here", "_law_most"] sdFar) {f : Addr} {fd : FuncData} (G : Fun K "_law_whole" "_law_whole" s_law_whole f fd) (T : TxtB mg) : FnOk P w K mg base (L2.CX P w) 5 f fd ["_law_bag_here", "_law_most"] (spOf K sdWhl) := by
  refine okD G sc_law_whole [0] (fun as Q E ⟨ys, m, e, _⟩ => by subst e; exact ⟨rfl, rfl⟩) ⟨_, fun cdv A outer s H E ad F0 H0 hr => (pds_cons (psd_set (i := 2) (pd_call D_law_take.ok (hr.mono (by decide)) (by rfl) D_law_take.mg D_law_take.kp D_law_take.b (takes_of rfl rfl rfl rfl) (pda_own (i := 0) (pv 0) (pda_cons (pd_const pe_int (fun _ => .int _)) pda_nil))) (by show ¬ (2 ∈ ([0] : List Nat)); decide) sc_law_whole.nd rfl (.inl rfl))
      (pds_cons (psd_if (ptd_cmp op_lt (op2_I0 fun _ _ _ => .bl _) (pd_var (pv 2)) (pd_const pe_int (fun _ => .int _)) (nomark _)) (pds_one (psd_ret (pd_op op_sub (op2_I0 fun _ _ _ => .int _) (pd_call D_law_take.ok (hr.mono (by decide)) (by rfl) D_law_take.mg D_law_take.kp D_law_take.b (takes_of rfl rfl rfl rfl) (pda_own (i := 0) (pv 0) (pda_cons (pd_const pe_int (fun _ => .int _)) pda_nil))) (pd_const pe_int (fun _ => .int _))))) pds_nil)
      (pds_cons (psd_if (ptd_cmp op_eq op2_eq.op (pd_var (pv 2)) (pd_const pe_int (fun _ => .int _)) (nomark _)) (pds_one (psd_ret (pd_op op_mul (op2_I fun _ _ _ => .int _) (pd_var (pv 1)) (pd_op op_sub (op2_I0 fun _ _ _ => .int _) (pd_const pe_int (fun _ => .int _)) (pd_op op_mul (op2_I fun _ _ _ => .int _) (pd_const pe_int (fun _ => .int _)) (pd_call D_law_take.ok (hr.mono (by decide)) (by rfl) D_law_take.mg D_law_take.kp D_law_take.b (takes_of rfl rfl rfl rfl) (pda_own (i := 0) (pv 0) (pda_cons (pd_const pe_int (fun _ => .int _)) pda_nil)))))))) pds_nil)
      (pds_one (psd_ret (pd_op op_mul (op2_I fun _ _ _ => .int _) (pd_call D_law_far.ok (hr.mono (by decide)) (by rfl) D_law_far.mg D_law_far.kp D_law_far.b (takes_of rfl rfl rfl rfl) (pda_own (i := 0) (pv 0) (pda_cons (pd_var (pv 1)) pda_nil))) (pd_op op_sub (op2_I0 fun _ _ _ => .int _) (pd_const pe_int (fun _ => .int _)) (pd_op op_mul (op2_I fun _ _ _ => .int _) (pd_const pe_int (fun _ => .int _)) (pd_call D_law_take.ok (hr.mono (by decide)) (by rfl) D_law_take.mg D_law_take.kp D_law_take.b (takes_of rfl rfl rfl rfl) (pda_own (i := 0) (pv 0) (pda_cons (pd_const pe_int (fun _ => .int _)) pda_nil))))))))))), ?_⟩
  rintro as Qd Ed ⟨ys, m, rfl, hb, m0, m1, k⟩
  refine DR.start (δ' := [some (.own (.lst ys)), some (.d (.int m)), none]) rfl ?_
  walk_at "dd"
  refine take hb (by decide) (by decide) fun r ys p1 q1 hb => ?_
  walk_at "dd"
  refine DR.split (fun c => ?_) (fun c => ?_)
  · walk_at "dd"
    refine take hb (by decide) (by decide) fun r2 ys p2 q2 hb => ?_
    walk_at "dd"
    exact k _ ys (by omega) (by omega) hb
  · walk_at "dd"
    refine DR.split (fun c2 => ?_) (fun c2 => ?_)
    · walk_at "dd"
      refine take hb (by decide) (by decide) fun r2 ys p2 q2 hb => ?_
      walk_at "dd"
      have h : r2 = 0 ∨ r2 = 1 := by omega
      rcases h with rfl | rfl
      · exact k _ ys (by omega) (by omega) hb
      · exact k _ ys (by omega) (by omega) hb
    · walk_at "dd"
      refine ⟨ys, m, rfl, hb, by omega, m1, fun v ys v0 v1 hb => ?_⟩
      walk_at "dd"
      refine take hb (by decide) (by decide) fun r2 ys p2 q2 hb => ?_
      walk_at "dd"
      have h : r2 = 0 ∨ r2 = 1 := by omega
      rcases h with rfl | rfl
      · exact k _ ys (by omega) (by omega) hb
      · exact k _ ys (by omega) (by omega) hb
def sdCounts : SpD := fun as Q _ => ∃ (ys : List D) (n : Nat) (m : Int), as = [.own (.lst ys), .d (.int n), .d (.int m)] ∧ Bg ys ∧ n ≤ 5 ∧ 4 ≤ m ∧ m ≤ 10 ^ 18 ∧ ∀ (js : List Int) (ys : List D), js.length = n → (∀ j ∈ js, -m ≤ j ∧ j ≤ m) → Bg ys → Q (.own (.lst (js.map .int))) [.lst ys]
theorem counts {ys : List D} {n : Nat} {m : Int} {Q : DV → List OC → Prop} {E : Ex → List OC → Prop} (h : Bg ys) (hn : n ≤ 5) (m0 : 4 ≤ m) (m1 : m ≤ 10 ^ 18) (k : ∀ (js : List Int) (ys : List D), js.length = n → (∀ j ∈ js, -m ≤ j ∧ j ≤ m) → Bg ys → Q (.own (.lst (js.map .int))) [.lst ys]) : sdCounts [.own (.lst ys), .d (.int n), .d (.int m)] Q E := ⟨ys, n, m, rfl, h, hn, m0, m1, k⟩
abbrev s_law_counts : Stmt := top 29
theorem sc_law_counts : FnScope ["_law_bag_here", "_law_many", "_law_most", "_law_each"] ["_law_bag_here", "_law_many", "_law_most"] (defScope s_law_counts) := ⟨rfl, rfl, rfl, by decide +kernel, rfl, by decide +kernel, by decide +kernel⟩
theorem ok_counts (D_law_whole : DefD P w K mg base "_law_whole" 5 ["_law_bag_here", "_law_most"] sdWhl) {f : Addr} {fd : FuncData} (G : Fun K "_law_counts" "_law_counts" s_law_counts f fd) (T : TxtB mg) : FnOk P w K mg base (L2.CX P w) 7 f fd ["_law_bag_here", "_law_many", "_law_most"] (spOf K sdCounts) := by
  refine okD G sc_law_counts [0] (fun as Q E ⟨ys, n, m, e, _⟩ => by subst e; exact ⟨rfl, rfl⟩) ⟨_, fun cdv A outer s H E ad F0 H0 hr => (pds_one (psd_ret (pd_lc (own := [("_law_each", 3)]) (by rfl) sc_law_counts.nd (pid_range1 (by rfl) T.b_range (pda_cons (pd_var (pv 1)) pda_nil)) (blkOk_by (own := [("_law_each", 3)]) (N := ["_law_bag_here", "_law_many", "_law_most", "_law_each"]) (sc := defScope s_law_counts) (by decide +kernel)) (fun _ _ _ _ _ => (pgd_name (i := 3) (vs := [3]) (pg_name (i := 3) sc_law_counts.nd rfl (.inl rfl)) (by show ¬ (3 ∈ ([0] : List Nat)); decide) (by decide))) (fun _ _ _ _ _ => ptsd_nil) (fun _ _ _ _ _ => (pd_call D_law_whole.ok (hr.mono (by decide)) (by rfl) D_law_whole.mg D_law_whole.kp D_law_whole.b takes0 (pda_own (i := 0) (pv 0) (pda_cons (pd_var (pv 2)) pda_nil)))) (by show ∀ i ∈ ([3] : List Nat), ¬ (i ∈ ([0] : List Nat)); decide)))), ?_⟩
  rintro as Qd Ed ⟨ys, n, m, rfl, hb, hn, m0, m1, k⟩
  refine DR.start (δ' := [some (.own (.lst ys)), some (.d (.int n)), some (.d (.int m)), none]) rfl ?_
  walk_at "dd"
  refine ⟨by omega, by omega, ?_⟩
  refine DR.lc_inv (fun i acc δ => ∃ (js : List Int) (ys : List D), acc = js.map .int ∧ js.length = i ∧ (∀ j ∈ js, -m ≤ j ∧ j ≤ m) ∧ Bg ys ∧ δ = [some (.own (.lst ys)), some (.d (.int n)), some (.d (.int m)), none]) ⟨[], ys, rfl, rfl, (fun j h => nomatch h), hb, rfl⟩ ?_ ?_
  · rintro i x acc δ N hx ⟨js, ys, rfl, hi, hj, hb, rfl⟩ kN
    obtain ⟨rfl, hin⟩ := upto_at hx
    have hin : i < n := hin
    walk_at "dd"
    refine whl hb m0 m1 fun r ys r0 r1 hb => ?_
    walk_at "dd"
    refine ⟨Nat.lt_of_lt_of_le (show (js.map D.int).length < 5 by rw [List.length_map]; omega) (by decide), kN _ _ ⟨js ++ [r], ys, by rw [List.map_append]; rfl, by rw [List.length_append, hi]; rfl, fun j h => ?_, hb, rfl⟩⟩
    rcases List.mem_append.mp h with h | h
    · exact hj j h
    · rw [List.mem_singleton.mp h]; exact ⟨r0, r1⟩
  · rintro acc δ ⟨js, ys, rfl, hi, hj, hb, rfl⟩
    rw [upto_len] at hi
    walk_at "dd"
    exact k js ys hi hj hb
end
end KT

set_option Elab.async false
set_option linter.all false
set_option maxRecDepth 100000
set_option maxHeartbeats 0
set_option pp.deepTerms false
set_option pp.deepTerms.threshold 8


namespace KT
open PySem PySem.Spec PyProof.Rows L2 DL
structure TxtE (K : PySem.W.Frag) (mg : Str → Option Value) (C BR NA ME BG BP : Addr) : Prop extends TxtPE K mg C BR NA where
  c_MarketError : mg "MarketError" = some (.ref ME)
  c_BadGoods : mg "BadGoods" = some (.ref BG)
  c_BadPosition : mg "BadPosition" = some (.ref BP)
  c_NoAsset : mg "NoAsset" = some (.ref NA)
  b_ValueError : mg "ValueError" = none
  xf_BadGoods : XfC K BG
  xf_BadPosition : XfC K BP
  xf_NoAsset : XfC K NA
  n_BadGoods_what : PySem.W.findIn K (.ref BG) "what" = some none
  n_BadPosition_what : PySem.W.findIn K (.ref BP) "what" = some none
  n_NoAsset_name : PySem.W.findIn K (.ref NA) "name" = some none
  exm_G : PySem.W.exmOne K (.ref BG) (.ref ME) = some true
  exm_P : PySem.W.exmOne K (.ref BP) (.ref ME) = some true
  exm_N : PySem.W.exmOne K (.ref NA) (.ref ME) = some true
  exm_R : PySem.W.exmOne K (.ref BR) (.ref ME) = some true
  ec_G : ExcC K BG
  ec_P : ExcC K BP
  ec_N : ExcC K NA
  ec_R : ExcC K BR
  kv_N : PySem.W.kitOne K (.ref NA) (.type "ValueError") = some true
  kv_R : PySem.W.kitOne K (.ref BR) (.type "ValueError") = some true
  kg_G : PySem.W.kitOne K (.ref BG) (.ref BG) = some true
  kp_G : PySem.W.kitOne K (.ref BP) (.ref BG) = some false
  kp_P : PySem.W.kitOne K (.ref BP) (.ref BP) = some true
  kn_G : PySem.W.kitOne K (.ref NA) (.ref BG) = some false
  kn_N : PySem.W.kitOne K (.ref NA) (.ref NA) = some true
  kp_N : PySem.W.kitOne K (.ref BP) (.ref NA) = some false
  kr_R : PySem.W.kitOne K (.ref BR) (.ref BR) = some true
section
variable {P : Program} {w : World} {K : PySem.W.Frag} {mg : Str → Option Value} {base : Heap} {C BG BP BR NA ME : Addr}
abbrev lst2 (a b : D) : DV := .own (.lst [a, b])
def sdTold : SpD := fun as Q _ => ∃ x y : D, as = [.d x, .d y] ∧ GA x ∧ CA y ∧ (∀ gs js, RowOf x (gs.map .str) → RowOf y (js.map .int) → Po gs js → Q (lst2 (.str "made") (.tup (js.map .int))) []) ∧
  (∀ v, goodsW x = some v → Q (lst2 (.str "goods") (.str v)) []) ∧ (∀ gs, RowOf x (gs.map .str) → Goods gs → ∀ v, cntW gs.length y = some v → Q (lst2 (.str "position") (.str v)) [])
abbrev s_law_told : Stmt := top 30
theorem sc_law_told : FnScope ["_law_goods", "_law_counts_here", "_law_made", "e"] ["_law_goods", "_law_counts_here"] (defScope s_law_told) := ⟨rfl, rfl, rfl, by decide +kernel, rfl, by decide +kernel, by decide +kernel⟩
theorem ok_told (K_Position : DefK P w K mg base C 7 3 ["self", "goods", "counts"] [] [] (sdPInit C BG BP)) {f : Addr} {fd : FuncData} (G : Fun K "_law_told" "_law_told" s_law_told f fd) (T : TxtE K mg C BR NA ME BG BP) : FnOk P w K mg base (L2.CX P w) 9 f fd ["_law_goods", "_law_counts_here"] (spOf K sdTold) := by
  refine okD G sc_law_told [] (fun as Q E ⟨x, y, e, _⟩ => by subst e; exact ⟨rfl, rfl⟩) ⟨_, fun cdv A outer s H E ad F0 H0 hr => (pds_cons (psd_tryA K rfl (i := 3) (by show ¬ (3 ∈ ([] : List Nat)); decide) rfl rfl sc_law_told.nd rfl rfl ⟨by rfl, by decide +kernel, .inl T.c_MarketError⟩ (takes_of rfl rfl rfl rfl) (fun W pn xe tk po => (pds_one (psd_set (i := 2) (pd_newK (n := 2) K_Position.mkc K_Position.ok (hr.mono (by decide)) (by rfl) T.c_Position K_Position.kb0 (fun _ => .nil) (fun _ _ _ => rfl) tk (pda_cons (pd_var (pv 0)) (pda_cons (pd_var (pv 1)) pda_nil)) pkd_nil) (by show ¬ (2 ∈ ([] : List Nat)); decide) sc_law_told.nd rfl (.inl rfl)))) (fun a oe cls d pn hz hf => (pds_cons (psd_if (ptd_val (pd_builtB (fun h => pe_callB (call_isXc hz hf) (by rfl) T.b_isinstance (by decide +kernel) h) (cn_isXc (K := K)).op (pda_cons (pd_var (pv 3)) (pda_cons (pd_const (pe_glob (v := .ref BG) rfl T.c_BadGoods rfl) (fun _ => .adr _)) pda_nil))) (fun h => pt_val h)) (pds_one (psd_ret (pd_lst (fun h => pe_lst h) (pda_cons (pd_const pe_str (fun _ => .str (by decide +kernel))) (pda_cons (pd_orE (pd_xf T.xf_BadGoods T.n_BadGoods_what hz hf (pd_var (pv 3))) (pd_xf T.xf_BadPosition T.n_BadPosition_what hz hf (pd_var (pv 3)))) pda_nil))))) pds_nil)
      (pds_one (psd_ret (pd_ifExp (ptd_val (pd_builtB (fun h => pe_callB (call_isXc hz hf) (by rfl) T.b_isinstance (by decide +kernel) h) (cn_isXc (K := K)).op (pda_cons (pd_var (pv 3)) (pda_cons (pd_const (pe_glob (v := .ref BP) rfl T.c_BadPosition rfl) (fun _ => .adr _)) pda_nil))) (fun h => pt_val h)) (pd_lst (fun h => pe_lst h) (pda_cons (pd_const pe_str (fun _ => .str (by decide +kernel))) (pda_cons (pd_orE (pd_xf T.xf_BadGoods T.n_BadGoods_what hz hf (pd_var (pv 3))) (pd_xf T.xf_BadPosition T.n_BadPosition_what hz hf (pd_var (pv 3)))) pda_nil))) (pd_lst (fun h => pe_lst h) (pda_cons (pd_const pe_str (fun _ => .str (by decide +kernel))) (pda_cons (pd_const pe_str (fun _ => .str (by decide +kernel))) pda_nil)))))))))
      (pds_one (psd_ret (pd_lst (fun h => pe_lst h) (pda_cons (pd_const pe_str (fun _ => .str (by decide +kernel))) (pda_cons (pd_fld (pd_var (pv 2)) T.cl_Position (T.na_Position _ (by decide)) rfl) pda_nil)))))), ?_⟩
  rintro as Qd Ed ⟨x, y, rfl, hx, hy, k1, k2, k3⟩
  refine DR.start (δ' := [some (.d x), some (.d y), none, none]) rfl ?_
  walk_at "dd"
  refine DR.trya ?_
  walk_at "dd"
  refine ⟨rfl, ?_⟩
  walk_at "dd"
  refine ⟨rfl, ?_⟩
  refine ⟨x, y, rfl, hx, hy, fun gs js h1 h2 hp => ?_, fun v hv o => ?_, fun gs h1 hg v hv o => ?_⟩
  · refine ⟨rfl, _, _, rfl, ?_⟩
    walk_at "dd"
    exact k1 gs js h1 h2 hp
  · refine ⟨_, _, rfl, true, T.exm_G, fun _ a dd _ => ?_, fun e => nomatch e⟩
    walk_at "dd"
    refine ⟨_, _, _, _, rfl, rfl, T.ec_G, T.kg_G, ?_⟩
    walk_at "dd"
    refine .inl ?_
    walk_at "dd"
    refine ⟨_, _, rfl, rfl, rfl, ?_⟩
    walk_at "dd"
    exact k2 v hv
  · refine ⟨_, _, rfl, true, T.exm_P, fun _ a dd _ => ?_, fun e => nomatch e⟩
    walk_at "dd"
    refine ⟨_, _, _, _, rfl, rfl, T.ec_P, T.kp_G, ?_⟩
    walk_at "dd"
    refine ⟨_, _, _, _, rfl, rfl, T.ec_P, T.kp_P, ?_⟩
    walk_at "dd"
    refine .inr ?_
    walk_at "dd"
    refine ⟨_, _, rfl, rfl, rfl, ?_⟩
    walk_at "dd"
    exact k3 gs h1 hg v hv
def sdFlatTold : SpD := fun as Q _ => ∃ x : D, as = [.d x] ∧ GA x ∧ (∀ gs, RowOf x (gs.map .str) → Goods gs → Q (lst2 (.str "made") (.tup ((gs.map fun _ => (0 : Int)).map .int))) []) ∧ (∀ v, goodsW x = some v → Q (lst2 (.str "goods") (.str v)) [])
abbrev s_law_flat_told : Stmt := top 32
theorem sc_law_flat_told : FnScope ["_law_goods", "_law_made", "e"] ["_law_goods"] (defScope s_law_flat_told) := ⟨rfl, rfl, rfl, by decide +kernel, rfl, by decide +kernel, by decide +kernel⟩
theorem ok_flatTold (D_Position_flat : DefC P w K mg base C (.type "type") "flat" 9 (dfltD 2 [] (sdPFlat C BG))) {f : Addr} {fd : FuncData} (G : Fun K "_law_flat_told" "_law_flat_told" s_law_flat_told f fd) (T : TxtE K mg C BR NA ME BG BP) : FnOk P w K mg base (L2.CX P w) 11 f fd ["_law_goods"] (spOf K sdFlatTold) := by
  refine okD G sc_law_flat_told [] (fun as Q E ⟨x, e, _⟩ => by subst e; exact ⟨rfl, rfl⟩) ⟨_, fun cdv A outer s H E ad F0 H0 hr => (pds_cons (psd_tryA K rfl (i := 2) (by show ¬ (2 ∈ ([] : List Nat)); decide) rfl rfl sc_law_flat_told.nd rfl rfl ⟨by rfl, by decide +kernel, .inl T.c_MarketError⟩ (takes_of rfl rfl rfl rfl) (fun W pn xe tk po => (pds_one (psd_set (i := 1) (pd_clsm (pd_const (pe_glob (v := .ref C) rfl T.c_Position rfl) (fun _ => .adr _)) T.cr_Position D_Position_flat.cm D_Position_flat.ok (hr.mono (by decide)) tk (pda_cons (pd_var (pv 0)) pda_nil)) (by show ¬ (1 ∈ ([] : List Nat)); decide) sc_law_flat_told.nd rfl (.inl rfl)))) (fun a oe cls d pn hz hf => (pds_one (psd_ret (pd_ifExp (ptd_val (pd_builtB (fun h => pe_callB (call_isXc hz hf) (by rfl) T.b_isinstance (by decide +kernel) h) (cn_isXc (K := K)).op (pda_cons (pd_var (pv 2)) (pda_cons (pd_const (pe_glob (v := .ref BG) rfl T.c_BadGoods rfl) (fun _ => .adr _)) pda_nil))) (fun h => pt_val h)) (pd_lst (fun h => pe_lst h) (pda_cons (pd_const pe_str (fun _ => .str (by decide +kernel))) (pda_cons (pd_xf T.xf_BadGoods T.n_BadGoods_what hz hf (pd_var (pv 2))) pda_nil))) (pd_lst (fun h => pe_lst h) (pda_cons (pd_const pe_str (fun _ => .str (by decide +kernel))) (pda_cons (pd_const pe_str (fun _ => .str (by decide +kernel))) pda_nil))))))))
      (pds_one (psd_ret (pd_lst (fun h => pe_lst h) (pda_cons (pd_const pe_str (fun _ => .str (by decide +kernel))) (pda_cons (pd_fld (pd_var (pv 1)) T.cl_Position (T.na_Position _ (by decide)) rfl) pda_nil)))))), ?_⟩
  rintro as Qd Ed ⟨x, rfl, hx, k1, k2⟩
  refine DR.start (δ' := [some (.d x), none, none]) rfl ?_
  walk_at "dd"
  refine DR.trya ?_
  walk_at "dd"
  refine ⟨rfl, ?_⟩
  walk_at "dd"
  refine ⟨[.adr C, x], rfl, rfl, x, rfl, hx, fun gs h hg => ?_, fun v hv => ?_⟩
  · walk_at "dd"
    exact k1 gs h hg
  · refine ⟨true, T.exm_G, fun _ a dd _ => ?_, fun e => nomatch e⟩
    walk_at "dd"
    refine ⟨_, _, _, _, rfl, rfl, T.ec_G, T.kg_G, ?_⟩
    walk_at "dd"
    refine ⟨_, _, rfl, rfl, rfl, ?_⟩
    walk_at "dd"
    exact k2 v hv
def sdSingleTold : SpD := fun as Q _ => ∃ x a n : D, as = [.d x, .d a, .d n] ∧ GA x ∧ Cmp a ∧ Show a ∧ (∃ t, Pl n t) ∧ (∀ v, goodsW x = some v → Q (lst2 (.str "goods") (.str v)) []) ∧
  (∀ gs, RowOf x (gs.map .str) → Goods gs → ((∀ g ∈ gs, a ≠ .str g) → Q (lst2 (.str "asset") (.str a.py.shown)) []) ∧ ∀ g ∈ gs, a = .str g → (∀ i, n = .int i → Q (lst2 (.str "made") (.tup ((gs.map fun b => if b = g then i else 0).map .int))) []) ∧ (isI n = false → Q (lst2 (.str "position") (.str "count")) []))
abbrev s_law_single_told : Stmt := top 31
theorem sc_law_single_told : FnScope ["_law_goods", "_law_good", "_law_count", "_law_made", "e"] ["_law_goods", "_law_good", "_law_count"] (defScope s_law_single_told) := ⟨rfl, rfl, rfl, by decide +kernel, rfl, by decide +kernel, by decide +kernel⟩
theorem ok_singleTold (D_Position_single_K : DefCK P w K mg base C (.type "type") "single" 9 2 ["cls", "goods", "good", "count"] ["count"] (sdPSingle C BG BP NA)) {f : Addr} {fd : FuncData} (G : Fun K "_law_single_told" "_law_single_told" s_law_single_told f fd) (T : TxtE K mg C BR NA ME BG BP) : FnOkG P w K mg base (L2.CX P w) 11 f fd ["_law_goods", "_law_good", "_law_count"] (spOf K sdSingleTold) := by
  refine okDG G sc_law_single_told [] (fun as Q E ⟨x, a, n, e, _⟩ => by subst e; exact ⟨rfl, rfl⟩) ⟨_, fun cdv A hgs outer s H E ad F0 H0 hr => (pds_cons (psd_tryA K rfl (i := 4) (by show ¬ (4 ∈ ([] : List Nat)); decide) rfl rfl sc_law_single_told.nd rfl rfl ⟨by rfl, by decide +kernel, .inl T.c_MarketError⟩ (takes_of rfl rfl rfl rfl) (fun W pn xe tk po => (pds_one (psd_set (i := 3) (pd_clsmK (pd_const (pe_glob (v := .ref C) rfl T.c_Position rfl) (fun _ => .adr _)) T.cr_Position D_Position_single_K.cm D_Position_single_K.ok (hr.mono (by decide)) D_Position_single_K.kb tk (pda_cons (pd_var (pv 0)) (pda_cons (pd_var (pv 1)) pda_nil)) (pkd_cons (pd_var (pv 2)) pkd_nil)) (by show ¬ (3 ∈ ([] : List Nat)); decide) sc_law_single_told.nd rfl (.inl rfl)))) (fun a oe cls d pn hz hf => (pds_cons (psd_if (ptd_val (pd_builtB (fun h => pe_callB (call_isXc hz hf) (by rfl) T.b_isinstance (by decide +kernel) h) (cn_isXc (K := K)).op (pda_cons (pd_var (pv 4)) (pda_cons (pd_const (pe_glob (v := .ref BG) rfl T.c_BadGoods rfl) (fun _ => .adr _)) pda_nil))) (fun h => pt_val h)) (pds_one (psd_ret (pd_lst (fun h => pe_lst h) (pda_cons (pd_const pe_str (fun _ => .str (by decide +kernel))) (pda_cons (pd_orE (pd_xf T.xf_BadGoods T.n_BadGoods_what hz hf (pd_var (pv 4))) (pd_xf T.xf_BadPosition T.n_BadPosition_what hz hf (pd_var (pv 4)))) pda_nil))))) pds_nil)
      (pds_cons (psd_if (ptd_val (pd_builtB (fun h => pe_callB (call_isXc hz hf) (by rfl) T.b_isinstance (by decide +kernel) h) (cn_isXc (K := K)).op (pda_cons (pd_var (pv 4)) (pda_cons (pd_const (pe_glob (v := .ref NA) rfl T.c_NoAsset rfl) (fun _ => .adr _)) pda_nil))) (fun h => pt_val h)) (pds_one (psd_ret (pd_lst (fun h => pe_lst h) (pda_cons (pd_const pe_str (fun _ => .str (by decide +kernel))) (pda_cons (pd_repr hgs (units65 hr :) (by rfl) T.b_repr (by decide +kernel) (pda_cons (pd_xf T.xf_NoAsset T.n_NoAsset_name hz hf (pd_var (pv 4))) pda_nil)) pda_nil))))) pds_nil)
      (pds_one (psd_ret (pd_ifExp (ptd_val (pd_builtB (fun h => pe_callB (call_isXc hz hf) (by rfl) T.b_isinstance (by decide +kernel) h) (cn_isXc (K := K)).op (pda_cons (pd_var (pv 4)) (pda_cons (pd_const (pe_glob (v := .ref BP) rfl T.c_BadPosition rfl) (fun _ => .adr _)) pda_nil))) (fun h => pt_val h)) (pd_lst (fun h => pe_lst h) (pda_cons (pd_const pe_str (fun _ => .str (by decide +kernel))) (pda_cons (pd_orE (pd_xf T.xf_BadGoods T.n_BadGoods_what hz hf (pd_var (pv 4))) (pd_xf T.xf_BadPosition T.n_BadPosition_what hz hf (pd_var (pv 4)))) pda_nil))) (pd_lst (fun h => pe_lst h) (pda_cons (pd_const pe_str (fun _ => .str (by decide +kernel))) (pda_cons (pd_const pe_str (fun _ => .str (by decide +kernel))) pda_nil))))))))))
      (pds_one (psd_ret (pd_lst (fun h => pe_lst h) (pda_cons (pd_const pe_str (fun _ => .str (by decide +kernel))) (pda_cons (pd_fld (pd_var (pv 3)) T.cl_Position (T.na_Position _ (by decide)) rfl) pda_nil)))))), ?_⟩
  rintro as Qd Ed ⟨x, a, n, rfl, hx, ca, sa, pn, k1, k2⟩
  refine DR.start (δ' := [some (.d x), some (.d a), some (.d n), none, none]) rfl ?_
  walk_at "dd"
  refine DR.trya ?_
  walk_at "dd"
  refine ⟨rfl, ?_⟩
  walk_at "dd"
  refine ⟨rfl, ?_⟩
  walk_at "dd"
  refine ⟨rfl, ?_⟩
  refine ⟨x, a, n, rfl, hx, ca, pn, fun v hv => ?_, fun gs h hg => ⟨fun no => ?_, fun g hgm e => ⟨fun i hi => ?_, fun q => ?_⟩⟩⟩
  · refine ⟨true, T.exm_G, fun _ a dd _ => ?_, fun e => nomatch e⟩
    walk_at "dd"
    refine ⟨_, _, _, _, rfl, rfl, T.ec_G, T.kg_G, ?_⟩
    walk_at "dd"
    refine .inl ?_
    walk_at "dd"
    refine ⟨_, _, rfl, rfl, rfl, ?_⟩
    walk_at "dd"
    exact k1 v hv
  · refine ⟨true, T.exm_N, fun _ b dd _ => ?_, fun e => nomatch e⟩
    walk_at "dd"
    refine ⟨_, _, _, _, rfl, rfl, T.ec_N, T.kn_G, ?_⟩
    walk_at "dd"
    refine ⟨_, _, _, _, rfl, rfl, T.ec_N, T.kn_N, ?_⟩
    walk_at "dd"
    refine ⟨_, _, rfl, rfl, rfl, ?_⟩
    walk_at "dd"
    refine ⟨sa, ?_⟩
    walk_at "dd"
    exact (k2 gs h hg).1 no
  · walk_at "dd"
    exact ((k2 gs h hg).2 g hgm e).1 i hi
  · refine ⟨true, T.exm_P, fun _ b dd _ => ?_, fun e => nomatch e⟩
    walk_at "dd"
    refine ⟨_, _, _, _, rfl, rfl, T.ec_P, T.kp_G, ?_⟩
    walk_at "dd"
    refine ⟨_, _, _, _, rfl, rfl, T.ec_P, T.kp_N, ?_⟩
    walk_at "dd"
    refine ⟨_, _, _, _, rfl, rfl, T.ec_P, T.kp_P, ?_⟩
    walk_at "dd"
    refine .inr ?_
    walk_at "dd"
    refine ⟨_, _, rfl, rfl, rfl, ?_⟩
    walk_at "dd"
    exact ((k2 gs h hg).2 g hgm e).2 q
end
end KT

set_option Elab.async false
set_option linter.all false
set_option maxRecDepth 100000
set_option maxHeartbeats 0
set_option pp.deepTerms false
set_option pp.deepTerms.threshold 8


namespace KT
open PySem PySem.Spec PyProof.Rows L2 DL
section
variable {P : Program} {w : World} {K : PySem.W.Frag} {mg : Str → Option Value} {base : Heap} {C BG BP BR NA ME : Addr}
def sdNoAsset (C : Addr) : SpD := fun as Q _ => ∃ (gs : List Str) (js : List Int) (a : D), as = [.d (posD C gs js), .d a] ∧ Po gs js ∧ Show a ∧ (∀ g ∈ cash :: gs, a ≠ .str g) ∧ Q (.d (.bl true)) []
abbrev s_law_no_asset : Stmt := top 33
theorem sc_law_no_asset : FnScope ["_law_position", "_law_thing", "_law_told_here", "e"] ["_law_position", "_law_thing"] (defScope s_law_no_asset) := ⟨rfl, rfl, rfl, by decide +kernel, rfl, by decide +kernel, by decide +kernel⟩
theorem ok_noAsset (D_Position___getitem : DefG P w K mg base C 3 ["self", "at"] (sdPNo C NA)) {f : Addr} {fd : FuncData} (G : Fun K "_law_no_asset" "_law_no_asset" s_law_no_asset f fd) (T : TxtE K mg C BR NA ME BG BP) : FnOkG P w K mg base (L2.CX P w) 5 f fd ["_law_position", "_law_thing"] (spOf K (sdNoAsset C)) := by
  refine okDG G sc_law_no_asset [] (fun as Q E ⟨gs, js, a, e, _⟩ => by subst e; exact ⟨rfl, rfl⟩) ⟨_, fun cdv A hgs outer s H E ad F0 H0 hr => (pds_cons (psd_tryA K rfl (i := 3) (by show ¬ (3 ∈ ([] : List Nat)); decide) rfl rfl sc_law_no_asset.nd rfl rfl ⟨by rfl, by decide +kernel, .inl T.c_MarketError⟩ (takes_of rfl rfl rfl rfl) (fun W pn xe tk po => (pds_one (psd_set (i := 2) (pd_sub D_Position___getitem.gi D_Position___getitem.ok (hr.mono (by decide)) D_Position___getitem.b tk (pd_var (pv 0)) (pd_var (pv 1)) (fun _ _ => rfl)) (by show ¬ (2 ∈ ([] : List Nat)); decide) sc_law_no_asset.nd rfl (.inl rfl)))) (fun a oe cls d pn hz hf => (pds_one (psd_ret (pd_and (pd_builtB (fun h => pe_callB (call_isXc hz hf) (by rfl) T.b_isinstance (by decide +kernel) h) (cn_isXc (K := K)).op (pda_cons (pd_var (pv 3)) (pda_cons (pd_const (pe_glob (v := .ref NA) rfl T.c_NoAsset rfl) (fun _ => .adr _)) pda_nil))) (pd_and (pd_builtB (fun h => pe_callB (call_isXc hz hf) (by rfl) T.b_isinstance (by decide +kernel) h) (cn_isXcT (K := K)).op (pda_cons (pd_var (pv 3)) (pda_cons (pd_const (pe_bltn (v := .ty "ValueError") (by rfl) T.b_ValueError (by decide +kernel) rfl) (fun _ => .ty _)) pda_nil))) (pd_one (pd_cmp op_eq op2_eq.op (pd_repr hgs (units65 hr :) (by rfl) T.b_repr (by decide +kernel) (pda_cons (pd_xf T.xf_NoAsset T.n_NoAsset_name hz hf (pd_var (pv 3))) pda_nil)) (pd_repr hgs (units65 hr :) (by rfl) T.b_repr (by decide +kernel) (pda_cons (pd_var (pv 1)) pda_nil)) (nomark _)))))))))
      (pds_one (psd_ret (pd_const pe_bl (fun _ => .bl _))))), ?_⟩
  rintro as Qd Ed ⟨gs, js, a, rfl, hp, sa, ha, k⟩
  refine DR.start (δ' := [some (.d (posD C gs js)), some (.d a), none, none]) rfl ?_
  walk_at "dd"
  refine DR.trya ?_
  walk_at "dd"
  refine ⟨gs, js, a, rfl, hp, sa.1, ha, true, T.exm_N, fun _ b dd _ => ?_, fun e => nomatch e⟩
  walk_at "dd"
  refine ⟨_, _, _, _, rfl, rfl, T.ec_N, T.kn_N, ?_⟩
  walk_at "dd"
  refine ⟨_, _, _, _, rfl, rfl, T.ec_N, T.kv_N, ?_⟩
  walk_at "dd"
  refine ⟨_, _, rfl, rfl, rfl, ?_⟩
  walk_at "dd"
  refine ⟨sa, ?_⟩
  walk_at "dd"
  refine ⟨sa, ?_⟩
  walk_at "dd"
  rw [if_neg Bool.false_ne_true, show decide (V.str (DV.d a).toD.py.shown = V.str (DV.d a).toD.py.shown) = true from decide_eq_true rfl]
  exact k
def sdNoPrices (C : Addr) : SpD := fun as Q _ => ∃ (gs : List Str) (js : List Int) (y : D) (b : Bool), as = [.d (posD C gs js), .d y, .d (.bl b)] ∧ Po gs js ∧ CA y ∧ isN gs.length y = false ∧ Q (.d (.bl true)) []
abbrev s_law_no_prices : Stmt := top 34
theorem sc_law_no_prices : FnScope ["_law_position", "_law_prices", "_law_is_loss", "e"] ["_law_position", "_law_prices", "_law_is_loss"] (defScope s_law_no_prices) := ⟨rfl, rfl, rfl, by decide +kernel, rfl, by decide +kernel, by decide +kernel⟩
theorem ok_noPrices (D_Position_worth : DefM P w K mg base C "worth" 7 ["self", "prices"] (sdWorth C BR)) (D_Position_loss : DefM P w K mg base C "loss" 9 ["self", "move"] (sdLoss C BR)) {f : Addr} {fd : FuncData} (G : Fun K "_law_no_prices" "_law_no_prices" s_law_no_prices f fd) (T : TxtE K mg C BR NA ME BG BP) : FnOk P w K mg base (L2.CX P w) 11 f fd ["_law_position", "_law_prices", "_law_is_loss"] (spOf K (sdNoPrices C)) := by
  refine okD G sc_law_no_prices [] (fun as Q E ⟨gs, js, a, b, e, _⟩ => by subst e; exact ⟨rfl, rfl⟩) ⟨_, fun cdv A outer s H E ad F0 H0 hr => (pds_cons (psd_tryA K rfl (i := 3) (by show ¬ (3 ∈ ([] : List Nat)); decide) rfl rfl sc_law_no_prices.nd rfl rfl ⟨by rfl, by decide +kernel, .inl T.c_MarketError⟩ (takes_of rfl rfl rfl rfl) (fun W pn xe tk po => (pds_one (psd_if (ptd_val (pd_var (pv 2)) (fun h => pt_val h)) (pds_one (psd_expr (pd_meth (pd_var (pv 0)) T.cl_Position D_Position_loss.me D_Position_loss.ok (hr.mono (by decide)) D_Position_loss.b tk (pda_cons (pd_var (pv 1)) pda_nil)))) (pds_one (psd_expr (pd_meth (pd_var (pv 0)) T.cl_Position D_Position_worth.me D_Position_worth.ok (hr.mono (by decide)) D_Position_worth.b tk (pda_cons (pd_var (pv 1)) pda_nil))))))) (fun a oe cls d pn hz hf => (pds_one (psd_ret (pd_and (pd_builtB (fun h => pe_callB (call_isXc hz hf) (by rfl) T.b_isinstance (by decide +kernel) h) (cn_isXc (K := K)).op (pda_cons (pd_var (pv 3)) (pda_cons (pd_const (pe_glob (v := .ref BR) rfl T.c_BadPrices rfl) (fun _ => .adr _)) pda_nil))) (pd_one (pd_builtB (fun h => pe_callB (call_isXc hz hf) (by rfl) T.b_isinstance (by decide +kernel) h) (cn_isXcT (K := K)).op (pda_cons (pd_var (pv 3)) (pda_cons (pd_const (pe_bltn (v := .ty "ValueError") (by rfl) T.b_ValueError (by decide +kernel) rfl) (fun _ => .ty _)) pda_nil)))))))))
      (pds_one (psd_ret (pd_const pe_bl (fun _ => .bl _))))), ?_⟩
  rintro as Qd Ed ⟨gs, js, y, b, rfl, hp, hy, q, k⟩
  refine DR.start (δ' := [some (.d (posD C gs js)), some (.d y), some (.d (.bl b)), none]) rfl ?_
  walk_at "dd"
  refine DR.trya ?_
  cases b
  · walk_at "dd"
    refine ⟨gs, js, y, rfl, hp, hy, .inr ⟨q, true, T.exm_R, fun _ b dd _ => ?_, fun e => nomatch e⟩⟩
    walk_at "dd"
    refine ⟨_, _, _, _, rfl, rfl, T.ec_R, T.kr_R, ?_⟩
    walk_at "dd"
    refine ⟨_, _, _, _, rfl, rfl, T.ec_R, T.kv_R, ?_⟩
    walk_at "dd"
    exact k
  · walk_at "dd"
    refine ⟨gs, js, y, rfl, hp, hy, .inr ⟨q, true, T.exm_R, fun _ b dd _ => ?_, fun e => nomatch e⟩⟩
    walk_at "dd"
    refine ⟨_, _, _, _, rfl, rfl, T.ec_R, T.kr_R, ?_⟩
    walk_at "dd"
    refine ⟨_, _, _, _, rfl, rfl, T.ec_R, T.kv_R, ?_⟩
    walk_at "dd"
    exact k
end
end KT

set_option Elab.async false
set_option linter.all false
set_option maxRecDepth 100000
set_option maxHeartbeats 0
set_option pp.deepTerms false
set_option pp.deepTerms.threshold 8


namespace KT
open PySem PySem.Spec PyProof.Rows L2 DL
theorem cutT {l : List D} {k : Nat} (h : k ≤ l.length) : DL.cutD l none (some (k : Int)) = l.take k := by
  have e : HT.sIx l.length l.length (some (k : Int)) = k := by rw [HT.sIx_nat]; omega
  have e0 : HT.sIx l.length 0 none = 0 := rfl
  unfold DL.cutD
  rw [e, e0, List.drop_zero, Nat.sub_zero]
theorem cutR {l : List D} {k : Nat} (h : k ≤ l.length) : DL.cutD l (some (k : Int)) none = l.drop k := by
  have e : HT.sIx l.length 0 (some (k : Int)) = k := by rw [HT.sIx_nat]; omega
  have e0 : HT.sIx l.length l.length none = l.length := rfl
  unfold DL.cutD
  rw [e, e0]
  exact List.take_of_length_le (by rw [List.length_drop]; exact Nat.le_refl _)
/-- an entry of ways: what is passed, and the word that is due -/
structure BadG (x : D) (v : Str) : Prop where
  ga : GA x
  w : goodsW x = some v
  sz : Sz 2000 3 x
structure BadC (n : Nat) (y : D) (v : Str) : Prop where
  ca : CA y
  w : cntW n y = some v
  sz : Sz 2000 3 y
def WyG (d : D) : Prop := ∃ x v, d = .lst [x, .str v] ∧ BadG x v
def WyC (n : Nat) (d : D) : Prop := ∃ x v, d = .lst [x, .str v] ∧ BadC n x v
theorem add {p : D → Prop} {l : List D} {e : D} (h : ∀ d ∈ l, p d) (he : p e) : ∀ d ∈ l ++ [e], p d := fun d hd => by
  rcases List.mem_append.mp hd with hd | hd
  · exact h d hd
  · rw [List.mem_singleton.mp hd]; exact he
theorem ga_txs {x : D} {ts : List Str} (hx : RowOf x (ts.map .str)) (h : ∀ t ∈ ts, t.length ≤ 20) (hl : ts.length ≤ 8) : GA x := by
  have e : seqOf x = ts.map .str := by rcases hx with rfl | rfl <;> rfl
  refine ⟨pl_row hx, fun d hd => ?_, fun d hd z hz => ?_, ?_⟩
  · rw [e] at hd; obtain ⟨g, _, rfl⟩ := List.mem_map.mp hd; exact ⟨_, .str _⟩
  · rw [e] at hd; obtain ⟨g, hg, rfl⟩ := List.mem_map.mp hd; cases hz; exact Nat.le_trans (h _ hg) (by decide)
  · rw [e, List.length_map]; omega
theorem sz_txs {x : D} {ts : List Str} (hx : RowOf x (ts.map .str)) (h : ∀ t ∈ ts, t.length ≤ 20) (hl : ts.length ≤ 8) : Sz 2000 3 x := by
  have hs : ∀ d ∈ ts.map D.str, Sz 202 1 d := fun d hd => by obtain ⟨t, ht, rfl⟩ := List.mem_map.mp hd; exact sz_str (h t ht)
  rcases hx with rfl | rfl
  · exact (sz_lst hs (m := 8) (by rw [List.length_map]; exact hl)).le (by decide) (by decide)
  · exact (sz_tup hs (m := 8) (by rw [List.length_map]; exact hl)).le (by decide) (by decide)
theorem goodsW_txs {x : D} {ts : List Str} (hx : RowOf x (ts.map .str)) : goodsW x = if ts.length < 1 ∨ 5 < ts.length then some ("goods" : Str) else if ts.all nmB = false then some ("name" : Str) else if cash ∈ ts then some ("cash" : Str) else if ts.Nodup then (none : Option Str) else some ("double" : Str) := by
  have e : seqOf x = ts.map .str := by rcases hx with rfl | rfl <;> rfl
  have s : isS x = true := by rcases hx with rfl | rfl <;> rfl
  have a : (ts.map D.str).all nmD = ts.all nmB := by rw [List.all_map]; rfl
  unfold goodsW
  rw [e, txs_str, s, List.length_map, a]
  have : (true = false ∨ ts.length < 1 ∨ 5 < ts.length) ↔ (ts.length < 1 ∨ 5 < ts.length) := ⟨fun h => h.resolve_left Bool.noConfusion, .inr⟩
  by_cases c : ts.length < 1 ∨ 5 < ts.length
  · rw [if_pos c, if_pos (.inr c)]
  · rw [if_neg c, if_neg fun h => c (this.mp h)]
theorem bad_txs {x : D} {ts : List Str} {v : Str} (hx : RowOf x (ts.map .str)) (h : ∀ t ∈ ts, t.length ≤ 20) (hl : ts.length ≤ 8) (w : (if ts.length < 1 ∨ 5 < ts.length then some ("goods" : Str) else if ts.all nmB = false then some ("name" : Str) else if cash ∈ ts then some ("cash" : Str) else if ts.Nodup then (none : Option Str) else some ("double" : Str)) = some v) : BadG x v :=
  ⟨ga_txs hx h hl, (goodsW_txs hx).trans w, sz_txs hx h hl⟩
theorem cash_nm : nmB cash = true := by decide +kernel
theorem A_nm : nmB "A" = false := by decide +kernel
theorem e_nm : nmB "" = false := by decide +kernel
section
variable {gs : List Str} (hg : Goods gs)
include hg
theorem gl20 : ∀ t ∈ gs, t.length ≤ 20 := fun t ht => Nat.le_trans (hg.2.2.2 t ht).2.2.1 (by decide)
theorem way4 : BadG (.lst ((gs ++ ([("A" : Str)] : List Str)).map .str)) (if gs.length < 5 then ("name" : Str) else ("goods" : Str)) := by
  have h5 := hg.2.2.1
  have h1 := hg.2.1
  refine bad_txs (.inl rfl) (fun t ht => ?_) (by rw [List.length_append]; show gs.length + 1 ≤ 8; omega) ?_
  · rcases List.mem_append.mp ht with h | h
    · exact gl20 hg t h
    · rw [List.mem_singleton.mp h]; decide
  · have al : (gs ++ [("A" : Str)]).all nmB = false := by rw [List.all_append]; show (gs.all nmB && (nmB "A" && true)) = false; rw [A_nm]; simp
    rw [List.length_append]
    by_cases c : gs.length < 5
    · rw [if_neg (show ¬ (gs.length + [("A" : Str)].length < 1 ∨ 5 < gs.length + [("A" : Str)].length) by show ¬ (gs.length + 1 < 1 ∨ 5 < gs.length + 1); omega), if_pos al, if_pos c]
    · rw [if_pos (show gs.length + [("A" : Str)].length < 1 ∨ 5 < gs.length + [("A" : Str)].length by show gs.length + 1 < 1 ∨ 5 < gs.length + 1; omega), if_neg c]
theorem take4 {t : Str} (ht : nmB t = true) (hl : t.length ≤ 20) : (∀ u ∈ gs.take 4 ++ [t], u.length ≤ 20) ∧ (gs.take 4 ++ [t]).length ≤ 5 ∧ 1 ≤ (gs.take 4 ++ [t]).length ∧ ¬ ((gs.take 4 ++ [t]).all nmB = false) := by
  refine ⟨fun u hu => ?_, by rw [List.length_append, List.length_take]; show min 4 gs.length + 1 ≤ 5; omega, by rw [List.length_append]; show 1 ≤ _ + 1; omega, ?_⟩
  · rcases List.mem_append.mp hu with h | h
    · exact gl20 hg u (List.mem_of_mem_take h)
    · rw [List.mem_singleton.mp h]; exact hl
  · simp only [Bool.not_eq_false]
    refine List.all_eq_true.mpr fun u hu => ?_
    rcases List.mem_append.mp hu with h | h
    · exact nm_nmB (hg.2.2.2 u (List.mem_of_mem_take h))
    · rw [List.mem_singleton.mp h]; exact ht
theorem way5 : BadG (.lst ((gs.take 4 ++ [cash]).map .str)) "cash" := by
  obtain ⟨a, b, c, d⟩ := take4 hg cash_nm (by decide)
  refine bad_txs (.inl rfl) a (by omega) ?_
  rw [if_neg (by omega), if_neg d, if_pos (List.mem_append_right _ List.mem_cons_self)]
theorem way6 : ∃ g, gs[0]? = some g ∧ BadG (.lst ((gs.take 4 ++ [g]).map .str)) "double" := by
  obtain ⟨g, gs, rfl⟩ : ∃ g gs', gs = g :: gs' := by
    cases gs with
    | nil => exact absurd hg.2.1 (by decide)
    | cons g gs => exact ⟨g, gs, rfl⟩
  refine ⟨g, rfl, ?_⟩
  have ng := hg.2.2.2 g List.mem_cons_self
  obtain ⟨a, b, c, d⟩ := take4 hg (nm_nmB ng) (Nat.le_trans ng.2.2.1 (by decide))
  refine bad_txs (.inl rfl) a (by omega) ?_
  have nc : ¬ cash ∈ (g :: gs).take 4 ++ [g] := fun h => by
    rcases List.mem_append.mp h with h | h
    · exact (hg.2.2.2 _ (List.mem_of_mem_take h)).1 rfl
    · exact ng.1 (List.mem_singleton.mp h).symm
  have nd : ¬ ((g :: gs).take 4 ++ [g]).Nodup := fun h => (List.nodup_append.mp h).2.2 g List.mem_cons_self g List.mem_cons_self rfl
  rw [if_neg (by omega), if_neg d, if_neg nc, if_neg nd]
theorem way7 : BadG (.tup ((gs.take 3 ++ ([("" : Str), cash] : List Str)).map .str)) "name" := by
  have l : (gs.take 3 ++ ([("" : Str), cash] : List Str)).length ≤ 5 ∧ 1 ≤ (gs.take 3 ++ ([("" : Str), cash] : List Str)).length := by rw [List.length_append, List.length_take]; show min 3 gs.length + 2 ≤ 5 ∧ 1 ≤ min 3 gs.length + 2; omega
  refine bad_txs (.inr rfl) (fun t ht => ?_) (by omega) ?_
  · rcases List.mem_append.mp ht with h | h
    · exact gl20 hg t (List.mem_of_mem_take h)
    · have e : ∀ t ∈ (["", cash] : List Str), t.length ≤ 20 := by decide +kernel
      exact e t h
  · have al : (gs.take 3 ++ ([("" : Str), cash] : List Str)).all nmB = false := by rw [List.all_append]; show ((gs.take 3).all nmB && (nmB "" && (nmB cash && true))) = false; rw [e_nm]; simp
    rw [if_neg (by omega), if_pos al]
end
theorem way1 : BadG (.lst []) "goods" := bad_txs (ts := []) (.inl rfl) (fun _ h => nomatch h) (by decide) rfl
theorem way8 : BadG (.lst ((["b", "c", "d", "e", "f", "g"] : List Str).map .str)) "goods" := bad_txs (.inl rfl) (by decide +kernel) (by decide) (if_pos (.inr (by decide)))
theorem way2 : BadG .non "goods" := ⟨⟨⟨_, .non⟩, (fun d h => nomatch h), (fun d h => nomatch h), Nat.zero_le _⟩, if_pos (.inl rfl), sz_non.le (by decide) (by decide)⟩
theorem way3 : BadG (.str "oil") "goods" := ⟨⟨⟨_, .str _⟩, (fun d h => nomatch h), (fun d h => nomatch h), Nat.zero_le _⟩, if_pos (.inl rfl), (sz_str (m := 3) (by decide)).le (by decide) (by decide)⟩
section
variable {P : Program} {w : World} {K : PySem.W.Frag} {mg : Str → Option Value} {base : Heap} {C BG BP BR NA ME : Addr}
def sdBadG : SpD := fun as Q _ => ∃ (ys : List D) (gs : List Str), as = [.own (.lst ys), .d (.lst (gs.map .str))] ∧ Bg ys ∧ Goods gs ∧ ∀ (x : D) (v : Str) (ys : List D), BadG x v → Bg ys → Q (.d (.lst [x, .str v])) [.lst ys]
abbrev s_law_bad_goods : Stmt := top 35
theorem sc_law_bad_goods : FnScope ["_law_bag_here", "_law_goods", "_law_ways"] ["_law_bag_here", "_law_goods"] (defScope s_law_bad_goods) := ⟨rfl, rfl, rfl, by decide +kernel, rfl, by decide +kernel, by decide +kernel⟩
theorem ok_badG (D_law_of : DefD P w K mg base "_law_of" 3 ["_law_bag_here", "_law_some"] sdOf) {f : Addr} {fd : FuncData} (G : Fun K "_law_bad_goods" "_law_bad_goods" s_law_bad_goods f fd) (T : TxtN mg) : FnOk P w K mg base (L2.CX P w) 5 f fd ["_law_bag_here", "_law_goods"] (spOf K sdBadG) := by
  refine okD G sc_law_bad_goods [0] (fun as Q E ⟨ys, gs, e, _⟩ => by subst e; exact ⟨rfl, rfl⟩) ⟨_, fun cdv A outer s H E ad F0 H0 hr => (pds_cons (psd_setO (i := 2) (pd_lst (fun h => pe_lst h) (pda_cons (pd_lst (fun h => pe_lst h) (pda_cons (pd_lst (fun h => pe_lst h) pda_nil) (pda_cons (pd_const pe_str (fun _ => .str (by decide +kernel))) pda_nil))) (pda_cons (pd_lst (fun h => pe_lst h) (pda_cons (pd_const pe_non (fun _ => .non)) (pda_cons (pd_const pe_str (fun _ => .str (by decide +kernel))) pda_nil))) (pda_cons (pd_lst (fun h => pe_lst h) (pda_cons (pd_const pe_str (fun _ => .str (by decide +kernel))) (pda_cons (pd_const pe_str (fun _ => .str (by decide +kernel))) pda_nil))) (pda_cons (pd_lst (fun h => pe_lst h) (pda_cons (pd_op op_cat op2_cat (pd_var (pv 1)) (pd_lst (fun h => pe_lst h) (pda_cons (pd_const pe_str (fun _ => .str (by decide +kernel))) pda_nil))) (pda_cons (pd_ifExp (ptd_cmp op_lt (op2_I0 fun _ _ _ => .bl _) (pd_builtB (fun h => pe_callB call_len_seq (by rfl) T.b_len (by decide +kernel) h) cn_len.op (pda_cons (pd_var (pv 1)) pda_nil)) (pd_const pe_int (fun _ => .int _)) (nomark _)) (pd_const pe_str (fun _ => .str (by decide +kernel))) (pd_const pe_str (fun _ => .str (by decide +kernel)))) pda_nil))) pda_nil))))) (by show ¬ (2 ∈ ([0] : List Nat)); decide) sc_law_bad_goods.nd rfl (.inl rfl))
      (pds_cons (psd_expr (pd_methO (j := 2) (fun ho h => pe_bm PySem.F.plainAttrs_list PySem.F.slot_list_append PySem.F.type_list_append mt_append ho h) mo_append (pv 2) (pda_cons (pd_lst (fun h => pe_lst h) (pda_cons (pd_op op_cat op2_cat (pd_slice (pd_var (pv 1)) pod_none (pod_some (pd_const pe_int (fun _ => .int _)))) (pd_lst (fun h => pe_lst h) (pda_cons (pd_const pe_str (fun _ => .str (by decide +kernel))) pda_nil))) (pda_cons (pd_const pe_str (fun _ => .str (by decide +kernel))) pda_nil))) pda_nil)))
      (pds_cons (psd_expr (pd_methO (j := 2) (fun ho h => pe_bm PySem.F.plainAttrs_list PySem.F.slot_list_append PySem.F.type_list_append mt_append ho h) mo_append (pv 2) (pda_cons (pd_lst (fun h => pe_lst h) (pda_cons (pd_op op_cat op2_cat (pd_slice (pd_var (pv 1)) pod_none (pod_some (pd_const pe_int (fun _ => .int _)))) (pd_lst (fun h => pe_lst h) (pda_cons (pd_ix ix_list op2_ixL (pd_var (pv 1)) (pd_const pe_int (fun _ => .int _)) (fun _ _ => rfl)) pda_nil))) (pda_cons (pd_const pe_str (fun _ => .str (by decide +kernel))) pda_nil))) pda_nil)))
      (pds_cons (psd_expr (pd_methO (j := 2) (fun ho h => pe_bm PySem.F.plainAttrs_list PySem.F.slot_list_append PySem.F.type_list_append mt_append ho h) mo_append (pv 2) (pda_cons (pd_lst (fun h => pe_lst h) (pda_cons (pd_op op_catA op2_catT (pd_builtB (fun h => pe_callTy call_tuple_of (by rfl) T.b_tuple (by decide +kernel) h) cn_tuple (pda_cons (pd_slice (pd_var (pv 1)) pod_none (pod_some (pd_const pe_int (fun _ => .int _)))) pda_nil)) (pd_tup (fun h => pe_tup h) (pda_cons (pd_const pe_str (fun _ => .str (by decide +kernel))) (pda_cons (pd_const pe_str (fun _ => .str (by decide +kernel))) pda_nil)))) (pda_cons (pd_const pe_str (fun _ => .str (by decide +kernel))) pda_nil))) pda_nil)))
      (pds_cons (psd_expr (pd_methO (j := 2) (fun ho h => pe_bm PySem.F.plainAttrs_list PySem.F.slot_list_append PySem.F.type_list_append mt_append ho h) mo_append (pv 2) (pda_cons (pd_lst (fun h => pe_lst h) (pda_cons (pd_lst (fun h => pe_lst h) (pda_cons (pd_const pe_str (fun _ => .str (by decide +kernel))) (pda_cons (pd_const pe_str (fun _ => .str (by decide +kernel))) (pda_cons (pd_const pe_str (fun _ => .str (by decide +kernel))) (pda_cons (pd_const pe_str (fun _ => .str (by decide +kernel))) (pda_cons (pd_const pe_str (fun _ => .str (by decide +kernel))) (pda_cons (pd_const pe_str (fun _ => .str (by decide +kernel))) pda_nil))))))) (pda_cons (pd_const pe_str (fun _ => .str (by decide +kernel))) pda_nil))) pda_nil)))
      (pds_one (psd_ret (pd_call D_law_of.ok (hr.mono (by decide)) (by rfl) D_law_of.mg D_law_of.kp D_law_of.b (takes_of rfl rfl rfl rfl) (pda_own (i := 0) (pv 0) (pda_cons (pd_fvar (i := 2) (pv 2) (by show ¬ (2 ∈ ([0] : List Nat)); decide)) pda_nil)))))))))), ?_⟩
  rintro as Qd Ed ⟨ys, gs, rfl, hb, hg, k⟩
  refine DR.start (δ' := [some (.own (.lst ys)), some (.d (.lst (gs.map .str))), none]) rfl ?_
  have g1 := hg.2.1
  have g5 := hg.2.2.1
  obtain ⟨g0, hg0, w6⟩ := way6 hg
  have tk : ∀ k : Nat, k ≤ 5 → DL.cutD (gs.map D.str) none (some (k : Int)) = (gs.take k).map D.str := fun k hk => by
    by_cases c : k ≤ gs.length
    · rw [cutT (by rw [List.length_map]; exact c), List.map_take]
    · have e : HT.sIx (gs.map D.str).length (gs.map D.str).length (some (k : Int)) = gs.length := by rw [HT.sIx_nat, List.length_map]; omega
      have e0 : HT.sIx (gs.map D.str).length 0 none = 0 := rfl
      unfold DL.cutD
      rw [e, e0, List.drop_zero, Nat.sub_zero, List.take_of_length_le (by rw [List.length_map]; exact Nat.le_refl _), List.take_of_length_le (by omega)]
  have big : ∀ n : Nat, n ≤ 20 → n ≤ sizeLine := fun n h => Nat.le_trans h (by decide)
  with_reducible refine DR.cut (fun δ => ∃ l : List D, (∀ d ∈ l, WyG d) ∧ l.length = 4 ∧ δ = [some (.own (.lst ys)), some (.d (.lst (gs.map .str))), some (.own (.lst l))]) (fun N kN => ?_) ?_
  · have w4 := way4 hg
    walk_at "dd"
    refine ⟨big _ (by rw [List.length_map]; show gs.length + 1 ≤ 20; omega), ?_⟩
    have fin : ∀ v : Str, v = (if gs.length < 5 then ("name" : Str) else ("goods" : Str)) → N [some (.own (.lst ys)), some (.d (.lst (gs.map .str))), some (.own (.lst [.lst [.lst [], .str "goods"], .lst [.non, .str "goods"], .lst [.str "oil", .str "goods"], .lst [.lst (gs.map .str ++ [.str "A"]), .str v]]))] := fun v hv => by
      refine kN _ ⟨_, fun d hd => ?_, rfl, rfl⟩
      simp only [List.mem_cons, List.not_mem_nil, or_false] at hd
      rcases hd with rfl | rfl | rfl | rfl
      · exact ⟨_, _, rfl, way1⟩
      · exact ⟨_, _, rfl, way2⟩
      · exact ⟨_, _, rfl, way3⟩
      · refine ⟨_, _, rfl, ?_⟩
        rw [hv]
        rw [List.map_append] at w4
        exact w4
    walk_at "dd"
    refine DR.split (fun c => ?_) (fun c => ?_)
    · walk_at "dd"
      exact fin _ (if_pos (by rw [List.length_map] at c; omega)).symm
    · walk_at "dd"
      exact fin _ (if_neg (by rw [List.length_map] at c; omega)).symm
  rintro δ ⟨l, hl, ll, rfl⟩
  with_reducible refine DR.cut (fun δ => ∃ l : List D, (∀ d ∈ l, WyG d) ∧ l.length = 5 ∧ δ = [some (.own (.lst ys)), some (.d (.lst (gs.map .str))), some (.own (.lst l))]) (fun N kN => ?_) ?_
  · have w5 := way5 hg
    rw [List.map_append, ← tk 4 (by decide)] at w5
    walk_at "dd"
    refine ⟨big _ (by rw [show (4 : Int) = ((4 : Nat) : Int) from rfl, tk 4 (by decide), List.length_map, List.length_take]; show min 4 gs.length + 1 ≤ 20; omega), ?_⟩
    walk_at "dd"
    refine ⟨[_], _, rfl, rfl, _, rfl, Nat.lt_of_lt_of_le (show l.length < 20 by omega) (by decide), ?_⟩
    exact kN _ ⟨_, add hl ⟨_, _, rfl, w5⟩, by rw [List.length_append, ll]; rfl, rfl⟩
  rintro δ ⟨l, hl, ll, rfl⟩
  with_reducible refine DR.cut (fun δ => ∃ l : List D, (∀ d ∈ l, WyG d) ∧ l.length = 6 ∧ δ = [some (.own (.lst ys)), some (.d (.lst (gs.map .str))), some (.own (.lst l))]) (fun N kN => ?_) ?_
  · rw [List.map_append, ← tk 4 (by decide)] at w6
    walk_at "dd"
    refine ⟨_, _, .inl rfl, (show atI (gs.map D.str) 0 = some (.str g0) from atI_map (i := 0) hg0), ?_⟩
    walk_at "dd"
    refine ⟨big _ (by rw [show (4 : Int) = ((4 : Nat) : Int) from rfl, tk 4 (by decide), List.length_map, List.length_take]; show min 4 gs.length + 1 ≤ 20; omega), ?_⟩
    walk_at "dd"
    refine ⟨[_], _, rfl, rfl, _, rfl, Nat.lt_of_lt_of_le (show l.length < 20 by omega) (by decide), ?_⟩
    exact kN _ ⟨_, add hl ⟨_, _, rfl, w6⟩, by rw [List.length_append, ll]; rfl, rfl⟩
  rintro δ ⟨l, hl, ll, rfl⟩
  with_reducible refine DR.cut (fun δ => ∃ l : List D, (∀ d ∈ l, WyG d) ∧ l.length = 7 ∧ δ = [some (.own (.lst ys)), some (.d (.lst (gs.map .str))), some (.own (.lst l))]) (fun N kN => ?_) ?_
  · have w7 := way7 hg
    rw [List.map_append, ← tk 3 (by decide)] at w7
    walk_at "dd"
    refine ⟨_, _, rfl, .inl rfl, ?_⟩
    walk_at "dd"
    refine ⟨big _ (by rw [show (3 : Int) = ((3 : Nat) : Int) from rfl, tk 3 (by decide), List.length_map, List.length_take]; show min 3 gs.length + 2 ≤ 20; omega), ?_⟩
    walk_at "dd"
    refine ⟨[_], _, rfl, rfl, _, rfl, Nat.lt_of_lt_of_le (show l.length < 20 by omega) (by decide), ?_⟩
    exact kN _ ⟨_, add hl ⟨_, _, rfl, w7⟩, by rw [List.length_append, ll]; rfl, rfl⟩
  rintro δ ⟨l, hl, ll, rfl⟩
  with_reducible refine DR.cut (fun δ => ∃ l : List D, (∀ d ∈ l, WyG d) ∧ l.length = 8 ∧ δ = [some (.own (.lst ys)), some (.d (.lst (gs.map .str))), some (.own (.lst l))]) (fun N kN => ?_) ?_
  · walk_at "dd"
    refine ⟨big 6 (by decide), ?_⟩
    walk_at "dd"
    refine ⟨[_], _, rfl, rfl, _, rfl, Nat.lt_of_lt_of_le (show l.length < 20 by omega) (by decide), ?_⟩
    exact kN _ ⟨_, add hl ⟨_, _, rfl, way8⟩, by rw [List.length_append, ll]; rfl, rfl⟩
  rintro δ ⟨l, hl, ll, rfl⟩
  walk_at "dd"
  refine of rfl hb (by omega) (by omega) fun d ys hd hb => ?_
  obtain ⟨x, v, rfl, hx⟩ := hl d hd
  walk_at "dd"
  exact k x v ys hx hb
end
end KT

set_option Elab.async false
set_option linter.all false
set_option maxRecDepth 100000
set_option maxHeartbeats 0
set_option pp.deepTerms false
set_option pp.deepTerms.threshold 8


namespace KT
open PySem PySem.Spec PyProof.Rows L2 DL
/-- what is no number -/
structure Odd (o : D) : Prop where
  pl : ∃ n, Pl o n
  no : isI o = false
  sz : Sz 100 2 o
abbrev odds : List D := [.non, .bl true, .bl false, .str "1", .str "", .tup [.int 1], .lst [.int 0]]
theorem odd_all : ∀ o ∈ odds, Odd o := by
  have i1 : ∀ i : Int, i.natAbs < 10 ^ 19 → ∀ e ∈ ([.int i] : List D), Sz 20 1 e := fun i h e he => by rw [List.mem_singleton.mp he]; exact sz_int h
  intro o ho
  simp only [odds, List.mem_cons, List.not_mem_nil, or_false] at ho
  rcases ho with rfl | rfl | rfl | rfl | rfl | rfl | rfl
  · exact ⟨⟨_, .non⟩, rfl, sz_non.le (by decide) (by decide)⟩
  · exact ⟨⟨_, .bl _⟩, rfl, sz_bl.le (by decide) (by decide)⟩
  · exact ⟨⟨_, .bl _⟩, rfl, sz_bl.le (by decide) (by decide)⟩
  · exact ⟨⟨_, .str _⟩, rfl, (sz_str (m := 1) (by decide)).le (by decide) (by decide)⟩
  · exact ⟨⟨_, .str _⟩, rfl, (sz_str (m := 1) (by decide)).le (by decide) (by decide)⟩
  · exact ⟨⟨_, .tup _⟩, rfl, (sz_tup (i1 1 (by decide)) (m := 1) (by decide)).le (by decide) (by decide)⟩
  · exact ⟨⟨_, .lst _⟩, rfl, (sz_lst (i1 0 (by decide)) (m := 1) (by decide)).le (by decide) (by decide)⟩
def Wid (js : List Int) : Prop := ∀ j ∈ js, j.natAbs < 10 ^ 19
theorem szi {js : List Int} (h : Wid js) : ∀ d ∈ js.map D.int, Sz 20 1 d := fun d hd => by obtain ⟨j, hj, rfl⟩ := List.mem_map.mp hd; exact sz_int (h j hj)
/-- a list of few plain things of another length -/
theorem bad_len {n : Nat} {l : List D} (h : ∀ d ∈ l, (∃ t, Pl d t) ∧ Sz 100 2 d) (hl : l.length ≤ 8) (hn : l.length ≠ n) : BadC n (.lst l) "counts" := by
  refine ⟨⟨⟨_, .lst _⟩, fun d hd => (h d hd).1, Nat.le_trans hl (by decide)⟩, ?_, (sz_lst (fun d hd => (h d hd).2) hl).le (by decide) (by decide)⟩
  unfold cntW
  exact if_pos (by unfold isR; show (true && decide (l.length = n)) = false; rw [decide_eq_false hn]; rfl)
theorem bad_odd {l : List D} {o : D} (h : ∀ d ∈ l, (∃ t, Pl d t) ∧ Sz 100 2 d) (hl : l.length ≤ 8) (ho : Odd o) (hm : o ∈ l) : BadC l.length (.lst l) "count" := by
  refine ⟨⟨⟨_, .lst _⟩, fun d hd => (h d hd).1, Nat.le_trans hl (by decide)⟩, ?_, (sz_lst (fun d hd => (h d hd).2) hl).le (by decide) (by decide)⟩
  have r : isR l.length (.lst l) = true := by unfold isR; show (true && decide (l.length = l.length)) = true; rw [decide_eq_true rfl]; rfl
  have m : isN l.length (.lst l) = false := by
    unfold isN
    rw [r, Bool.true_and]
    refine Bool.eq_false_iff.mpr fun z => ?_
    have := List.all_eq_true.mp z o hm
    rw [ho.no] at this
    cases this
  unfold cntW
  rw [r, m]
  rfl
theorem bad_flat {n : Nat} {y : D} (p : ∃ t, Pl y t) (s : isS y = false) (z : Sz 2000 3 y) : BadC n y "counts" := by
  have e : seqOf y = [] := by obtain ⟨t, p⟩ := p; cases p <;> first | rfl | cases s
  refine ⟨⟨p, fun d hd => ?_, ?_⟩, ?_, z⟩
  · rw [e] at hd; cases hd
  · rw [e]; exact Nat.zero_le _
  · unfold cntW
    exact if_pos (by unfold isR; rw [s]; rfl)
theorem pls {js : List Int} (h : Wid js) : ∀ d ∈ js.map D.int, (∃ t, Pl d t) ∧ Sz 100 2 d := fun d hd => ⟨by obtain ⟨j, _, rfl⟩ := List.mem_map.mp hd; exact ⟨_, .int _⟩, (szi h d hd).le (by decide) (by decide)⟩
theorem plo {o : D} (h : Odd o) : (∃ t, Pl o t) ∧ Sz 100 2 o := ⟨h.pl, h.sz.le (by decide) (by decide)⟩
section
variable {P : Program} {w : World} {K : PySem.W.Frag} {mg : Str → Option Value} {base : Heap} {C BG BP BR NA ME : Addr}
def sdBadC : SpD := fun as Q _ => ∃ (ys : List D) (js : List Int), as = [.own (.lst ys), .d (.lst (js.map .int))] ∧ Bg ys ∧ 1 ≤ js.length ∧ js.length ≤ 5 ∧ Wid js ∧ ∀ (x : D) (v : Str) (ys : List D), BadC js.length x v → Bg ys → Q (.d (.lst [x, .str v])) [.lst ys]
abbrev s_law_bad_counts : Stmt := top 36
theorem sc_law_bad_counts : FnScope ["_law_bag_here", "_law_counts_here", "_law_place", "_law_odd", "_law_ways", "_law_again"] ["_law_bag_here", "_law_counts_here"] (defScope s_law_bad_counts) := ⟨rfl, rfl, rfl, by decide +kernel, rfl, by decide +kernel, by decide +kernel⟩
theorem ok_badC (D_law_take : DefD P w K mg base "_law_take" 1 ["_law_bag_here", "_law_many"] sdTake) (D_law_of : DefD P w K mg base "_law_of" 3 ["_law_bag_here", "_law_some"] sdOf) {f : Addr} {fd : FuncData} (G : Fun K "_law_bad_counts" "_law_bad_counts" s_law_bad_counts f fd) (T : TxtN mg) : FnOk P w K mg base (L2.CX P w) 5 f fd ["_law_bag_here", "_law_counts_here"] (spOf K sdBadC) := by
  refine okD G sc_law_bad_counts [0] (fun as Q E ⟨ys, gs, e, _⟩ => by subst e; exact ⟨rfl, rfl⟩) ⟨_, fun cdv A outer s H E ad F0 H0 hr => (pds_cons (psd_set (i := 2) (pd_call D_law_take.ok (hr.mono (by decide)) (by rfl) D_law_take.mg D_law_take.kp D_law_take.b (takes_of rfl rfl rfl rfl) (pda_own (i := 0) (pv 0) (pda_cons (pd_builtB (fun h => pe_callB call_len_seq (by rfl) T.b_len (by decide +kernel) h) cn_len.op (pda_cons (pd_var (pv 1)) pda_nil)) pda_nil))) (by show ¬ (2 ∈ ([0] : List Nat)); decide) sc_law_bad_counts.nd rfl (.inl rfl))
      (pds_cons (psd_set (i := 3) (pd_call D_law_of.ok (hr.mono (by decide)) (by rfl) D_law_of.mg D_law_of.kp D_law_of.b (takes_of rfl rfl rfl rfl) (pda_own (i := 0) (pv 0) (pda_cons (pd_lst (fun h => pe_lst h) (pda_cons (pd_const pe_non (fun _ => .non)) (pda_cons (pd_const pe_bl (fun _ => .bl _)) (pda_cons (pd_const pe_bl (fun _ => .bl _)) (pda_cons (pd_const pe_str (fun _ => .str (by decide +kernel))) (pda_cons (pd_const pe_str (fun _ => .str (by decide +kernel))) (pda_cons (pd_tup (fun h => pe_tup h) (pda_cons (pd_const pe_int (fun _ => .int _)) pda_nil)) (pda_cons (pd_lst (fun h => pe_lst h) (pda_cons (pd_const pe_int (fun _ => .int _)) pda_nil)) pda_nil)))))))) pda_nil))) (by show ¬ (3 ∈ ([0] : List Nat)); decide) sc_law_bad_counts.nd rfl (.inl rfl))
      (pds_cons (psd_setO (i := 4) (pd_lst (fun h => pe_lst h) (pda_cons (pd_lst (fun h => pe_lst h) (pda_cons (pd_op op_cat op2_cat (pd_var (pv 1)) (pd_lst (fun h => pe_lst h) (pda_cons (pd_const pe_int (fun _ => .int _)) pda_nil))) (pda_cons (pd_const pe_str (fun _ => .str (by decide +kernel))) pda_nil))) (pda_cons (pd_lst (fun h => pe_lst h) (pda_cons (pd_slice (pd_var (pv 1)) (pod_some (pd_const pe_int (fun _ => .int _))) pod_none) (pda_cons (pd_const pe_str (fun _ => .str (by decide +kernel))) pda_nil))) (pda_cons (pd_lst (fun h => pe_lst h) (pda_cons (pd_const pe_non (fun _ => .non)) (pda_cons (pd_const pe_str (fun _ => .str (by decide +kernel))) pda_nil))) (pda_cons (pd_lst (fun h => pe_lst h) (pda_cons (pd_const pe_int (fun _ => .int _)) (pda_cons (pd_const pe_str (fun _ => .str (by decide +kernel))) pda_nil))) (pda_cons (pd_lst (fun h => pe_lst h) (pda_cons (pd_const pe_bl (fun _ => .bl _)) (pda_cons (pd_const pe_str (fun _ => .str (by decide +kernel))) pda_nil))) pda_nil)))))) (by show ¬ (4 ∈ ([0] : List Nat)); decide) sc_law_bad_counts.nd rfl (.inl rfl))
      (pds_cons (psd_expr (pd_methO (j := 4) (fun ho h => pe_bm PySem.F.plainAttrs_list PySem.F.slot_list_append PySem.F.type_list_append mt_append ho h) mo_append (pv 4) (pda_cons (pd_lst (fun h => pe_lst h) (pda_cons (pd_op op_cat op2_cat (pd_var (pv 1)) (pd_lst (fun h => pe_lst h) (pda_cons (pd_var (pv 3)) pda_nil))) (pda_cons (pd_const pe_str (fun _ => .str (by decide +kernel))) pda_nil))) pda_nil)))
      (pds_cons (psd_expr (pd_methO (j := 4) (fun ho h => pe_bm PySem.F.plainAttrs_list PySem.F.slot_list_append PySem.F.type_list_append mt_append ho h) mo_append (pv 4) (pda_cons (pd_lst (fun h => pe_lst h) (pda_cons (pd_op op_mulT op2_mulT (pd_const pe_str (fun _ => .str (by decide +kernel))) (pd_builtB (fun h => pe_callB call_len_seq (by rfl) T.b_len (by decide +kernel) h) cn_len.op (pda_cons (pd_var (pv 1)) pda_nil))) (pda_cons (pd_const pe_str (fun _ => .str (by decide +kernel))) pda_nil))) pda_nil)))
      (pds_cons (psd_for (passes_of rfl) rfl (pid_range1 (by rfl) T.b_range (pda_cons (pd_const pe_int (fun _ => .int _)) pda_nil)) (pgd_name (i := 5) (vs := [5]) (pg_name (i := 5) sc_law_bad_counts.nd rfl (.inl rfl)) (by show ¬ (5 ∈ ([0] : List Nat)); decide) (by decide))
      (pds_one (psd_expr (pd_methO (j := 4) (fun ho h => pe_bm PySem.F.plainAttrs_list PySem.F.slot_list_append PySem.F.type_list_append mt_append ho h) mo_append (pv 4) (pda_cons (pd_lst (fun h => pe_lst h) (pda_cons (pd_op op_cat op2_cat (pd_op op_cat op2_cat (pd_slice (pd_var (pv 1)) pod_none (pod_some (pd_var (pv 2)))) (pd_lst (fun h => pe_lst h) (pda_cons (pd_var (pv 3)) pda_nil))) (pd_slice (pd_var (pv 1)) (pod_some (pd_op op_add (op2_I0 fun _ _ _ => .int _) (pd_var (pv 2)) (pd_const pe_int (fun _ => .int _)))) pod_none)) (pda_cons (pd_const pe_str (fun _ => .str (by decide +kernel))) pda_nil))) pda_nil)))))
      (pds_one (psd_ret (pd_call D_law_of.ok (hr.mono (by decide)) (by rfl) D_law_of.mg D_law_of.kp D_law_of.b (takes_of rfl rfl rfl rfl) (pda_own (i := 0) (pv 0) (pda_cons (pd_fvar (i := 4) (pv 4) (by show ¬ (4 ∈ ([0] : List Nat)); decide)) pda_nil))))))))))), ?_⟩
  rintro as Qd Ed ⟨ys, js, rfl, hb, j1, j5, hw, k⟩
  refine DR.start (δ' := [some (.own (.lst ys)), some (.d (.lst (js.map .int))), none, none, none, none]) rfl ?_
  have big : ∀ n : Nat, n ≤ 20 → n ≤ sizeLine := fun n h => Nat.le_trans h (by decide)
  with_reducible refine DR.cut (fun δ => ∃ (ys : List D) (p : Nat), p < js.length ∧ Bg ys ∧ δ = [some (.own (.lst ys)), some (.d (.lst (js.map .int))), some (.d (.int p)), none, none, none]) (fun N kN => ?_) ?_
  · walk_at "dd"
    refine take hb (by rw [List.length_map]; omega) (by rw [List.length_map]; omega) fun r ys r0 r1 hb => ?_
    obtain ⟨p, rfl⟩ := Int.eq_ofNat_of_zero_le r0
    rw [List.length_map] at r1
    walk_at "dd"
    exact kN _ ⟨ys, p, by omega, hb, rfl⟩
  rintro δ ⟨ys, p, hp, hb, rfl⟩
  with_reducible refine DR.cut (fun δ => ∃ (ys : List D) (o : D), Odd o ∧ Bg ys ∧ δ = [some (.own (.lst ys)), some (.d (.lst (js.map .int))), some (.d (.int p)), some (.d o), none, none]) (fun N kN => ?_) ?_
  · walk_at "dd"
    refine ⟨[_, _, _, _, _, _, _], rfl, by show 7 ≤ sizeLine; decide, ?_⟩
    walk_at "dd"
    refine of (xs := odds) rfl hb (by decide) (by decide) fun o ys ho hb => ?_
    walk_at "dd"
    exact kN _ ⟨ys, o, odd_all o ho, hb, rfl⟩
  rintro δ ⟨ys, o, ho, hb, rfl⟩
  have t1 : DL.cutD (js.map D.int) (some 1) none = (js.map D.int).drop 1 := cutR (k := 1) (by rw [List.length_map]; omega)
  have t2 : DL.cutD (js.map D.int) none (some (p : Int)) = (js.map D.int).take p := cutT (by rw [List.length_map]; omega)
  have t3 : DL.cutD (js.map D.int) (some ((p : Int) + 1)) none = (js.map D.int).drop (p + 1) := cutR (k := p + 1) (by rw [List.length_map]; omega)
  with_reducible refine DR.cut (fun δ => ∃ l : List D, (∀ d ∈ l, WyC js.length d) ∧ l.length = 5 ∧ δ = [some (.own (.lst ys)), some (.d (.lst (js.map .int))), some (.d (.int (p : Nat))), some (.d o), some (.own (.lst l)), none]) (fun N kN => ?_) ?_
  · walk_at "dd"
    refine ⟨big _ (by rw [List.length_map]; show js.length + 1 ≤ 20; omega), ?_⟩
    walk_at "dd"
    refine ⟨big 5 (by decide), ?_⟩
    refine kN _ ⟨[_, _, _, _, _], fun d hd => ?_, rfl, rfl⟩
    simp only [List.mem_cons, List.not_mem_nil, or_false] at hd
    rcases hd with rfl | rfl | rfl | rfl | rfl
    · exact ⟨_, _, rfl, bad_len (l := js.map .int ++ [.int 0]) (add (pls hw) ⟨⟨_, .int _⟩, (sz_int (by decide)).le (by decide) (by decide)⟩) (by rw [List.length_append, List.length_map]; show js.length + 1 ≤ 8; omega) (by rw [List.length_append, List.length_map]; show js.length + 1 ≠ _; omega)⟩
    · refine ⟨_, _, rfl, ?_⟩
      show BadC js.length (.lst (DL.cutD (js.map D.int) (some 1) none)) "counts"
      rw [t1]
      exact bad_len (fun d hd => pls hw d (List.mem_of_mem_drop hd)) (by rw [List.length_drop, List.length_map]; omega) (by rw [List.length_drop, List.length_map]; omega)
    · exact ⟨_, _, rfl, bad_flat ⟨_, .non⟩ rfl (sz_non.le (by decide) (by decide))⟩
    · exact ⟨_, _, rfl, bad_flat ⟨_, .int _⟩ rfl ((sz_int (by decide)).le (by decide) (by decide))⟩
    · exact ⟨_, _, rfl, bad_flat ⟨_, .bl _⟩ rfl (sz_bl.le (by decide) (by decide))⟩
  rintro δ ⟨l, hl, ll, rfl⟩
  with_reducible refine DR.cut (fun δ => ∃ l : List D, (∀ d ∈ l, WyC js.length d) ∧ l.length = 6 ∧ δ = [some (.own (.lst ys)), some (.d (.lst (js.map .int))), some (.d (.int (p : Nat))), some (.d o), some (.own (.lst l)), none]) (fun N kN => ?_) ?_
  · walk_at "dd"
    refine ⟨big _ (by rw [List.length_map]; show js.length + 1 ≤ 20; omega), ?_⟩
    walk_at "dd"
    refine ⟨[_], _, rfl, rfl, _, rfl, Nat.lt_of_lt_of_le (show l.length < 20 by omega) (by decide), ?_⟩
    exact kN _ ⟨_, add hl ⟨_, _, rfl, bad_len (l := js.map .int ++ [o]) (add (pls hw) (plo ho)) (by rw [List.length_append, List.length_map]; show js.length + 1 ≤ 8; omega) (by rw [List.length_append, List.length_map]; show js.length + 1 ≠ _; omega)⟩, by rw [List.length_append, ll]; rfl, rfl⟩
  rintro δ ⟨l, hl, ll, rfl⟩
  with_reducible refine DR.cut (fun δ => ∃ l : List D, (∀ d ∈ l, WyC js.length d) ∧ l.length = 7 ∧ δ = [some (.own (.lst ys)), some (.d (.lst (js.map .int))), some (.d (.int (p : Nat))), some (.d o), some (.own (.lst l)), none]) (fun N kN => ?_) ?_
  · walk_at "dd"
    rw [List.length_map]
    refine ⟨by omega, by omega, by decide, by decide, fun u hu => ?_⟩
    have hu : u.length ≤ 10 := by rw [hu, show ("1" : Str).length = 1 from rfl]; omega
    walk_at "dd"
    refine ⟨[_], _, rfl, rfl, _, rfl, Nat.lt_of_lt_of_le (show l.length < 20 by omega) (by decide), ?_⟩
    exact kN _ ⟨_, add hl ⟨_, _, rfl, bad_flat ⟨_, .str _⟩ rfl ((sz_str hu).le (by decide) (by decide))⟩, by rw [List.length_append, ll]; rfl, rfl⟩
  rintro δ ⟨l, hl, ll, rfl⟩
  with_reducible refine DR.cut (fun δ => ∃ (l : List D) (p5 : Option DV), (∀ d ∈ l, WyC js.length d) ∧ l.length = 13 ∧ δ = [some (.own (.lst ys)), some (.d (.lst (js.map .int))), some (.d (.int p)), some (.d o), some (.own (.lst l)), p5]) (fun N kN => ?_) ?_
  · walk_at "dd"
    refine ⟨by decide, by decide, ?_⟩
    refine DR.for_inv (fun i δ => ∃ (l : List D) (p5 : Option DV), (∀ d ∈ l, WyC js.length d) ∧ l.length = 7 + i ∧ δ = [some (.own (.lst ys)), some (.d (.lst (js.map .int))), some (.d (.int p)), some (.d o), some (.own (.lst l)), p5]) ⟨l, _, hl, ll, rfl⟩ ?_ ?_
    · rintro i x δ N hx ⟨l, p5, hl, ll, rfl⟩ kN
      obtain ⟨rfl, hi⟩ := upto_at hx
      have hi : i < 6 := hi
      have hb1 : BadC js.length (.lst ((js.map D.int).take p ++ [o] ++ (js.map D.int).drop (p + 1))) "count" := by
        have el : ((js.map D.int).take p ++ [o] ++ (js.map D.int).drop (p + 1)).length = js.length := by
          rw [List.length_append, List.length_append, List.length_take, List.length_drop, List.length_map]
          show min p js.length + 1 + (js.length - (p + 1)) = _
          omega
        have := bad_odd (l := (js.map D.int).take p ++ [o] ++ (js.map D.int).drop (p + 1)) (fun d hd => by
          rcases List.mem_append.mp hd with hd | hd
          · rcases List.mem_append.mp hd with hd | hd
            · exact pls hw d (List.mem_of_mem_take hd)
            · rw [List.mem_singleton.mp hd]; exact plo ho
          · exact pls hw d (List.mem_of_mem_drop hd)) (by omega) ho (List.mem_append_left _ (List.mem_append_right _ List.mem_cons_self))
        rwa [el] at this
      walk_at "dd"
      rw [t2]
      refine ⟨big _ (by rw [List.length_take, List.length_map]; show min p js.length + 1 ≤ 20; omega), ?_⟩
      walk_at "dd"
      rw [t3]
      refine ⟨big _ (by rw [List.length_append, List.length_take, List.length_drop, List.length_map]; show min p js.length + 1 + (js.length - (p + 1)) ≤ 20; omega), ?_⟩
      walk_at "dd"
      refine ⟨[_], _, rfl, rfl, _, rfl, Nat.lt_of_lt_of_le (show l.length < 20 by omega) (by decide), ?_⟩
      exact kN _ ⟨_, _, add hl ⟨_, _, rfl, hb1⟩, by rw [List.length_append, ll]; rfl, rfl⟩
    · rintro δ ⟨l, p5, hl, ll, rfl⟩
      exact kN _ ⟨l, p5, hl, ll, rfl⟩
  rintro δ ⟨l, p5, hl, ll, rfl⟩
  walk_at "dd"
  refine of rfl hb (by omega) (by omega) fun d ys hd hb => ?_
  obtain ⟨x, v, rfl, hx⟩ := hl d hd
  walk_at "dd"
  exact k x v ys hx hb
end
end KT

set_option Elab.async false
set_option linter.all false
set_option maxRecDepth 100000
set_option maxHeartbeats 0
set_option pp.deepTerms false
set_option pp.deepTerms.threshold 8


namespace KT
open PySem PySem.Spec PyProof.Rows L2 DL
theorem wid18 {js : List Int} {m : Int} (h : ∀ j ∈ js, -m ≤ j ∧ j ≤ m) (hm : m ≤ 10 ^ 18) : Wid js := fun j hj => by
  have := h j hj
  have e : (10 : Int) ^ 18 = 1000000000000000000 := by decide
  have e2 : (10 : Nat) ^ 19 = 10000000000000000000 := by decide
  rw [e] at hm
  rw [e2]
  omega
/-- what is asked of the position -/
structure NoT (gs : List Str) (a : D) : Prop where
  sz : Sz 400 2 a
  no : ∀ g ∈ cash :: gs, a ≠ .str g
theorem not_txt {gs : List Str} (hg : Goods gs) (ho : ∀ g ∈ gs, g ≠ "other") {z : Str} (hl : z.length ≤ 30) (hc : z ≠ cash) (h : z = "other" ∨ nmB z = false) : NoT gs (.str z) := by
  refine ⟨(sz_str hl).le (by decide) (by decide), fun g hm e => ?_⟩
  injection e with e
  subst e
  rcases List.mem_cons.mp hm with h1 | h1
  · exact hc h1
  · rcases h with h | h
    · exact ho z h1 h
    · rw [nm_nmB (hg.2.2.2 z h1)] at h; cases h
theorem notS {gs : List Str} {a : D} (s : Sz 400 2 a) (h : ∀ z, a ≠ .str z) : NoT gs a := ⟨s, fun g _ e => h g e⟩
theorem long_no {g t : Str} (h : 12 < g.length + t.length) : nmB (g ++ t) = false := by
  unfold nmB
  rw [str_len, show decide (g.length + t.length ≤ 12) = false from decide_eq_false (by omega), Bool.and_false]
  rfl
theorem sp_no {g : Str} : nmB (g ++ " ") = false := by
  unfold nmB low
  have : ((g ++ " " : Str).cps.toList.all fun c => decide (c ∈ (Str.ofString "abcdefghijklmnopqrstuvwxyz").cps.toList)) = false := by
    rw [str_cps, List.all_append, show ((Str.ofString " ").cps.toList.all fun c => decide (c ∈ (Str.ofString "abcdefghijklmnopqrstuvwxyz").cps.toList)) = false by decide +kernel, Bool.and_false]
  rw [this, Bool.and_false]
theorem small_no : nmB "" = false ∧ nmB "Cash" = false ∧ nmB "cash " = false := by decide +kernel
theorem ne_cash : ("" : Str) ≠ cash ∧ ("Cash" : Str) ≠ cash ∧ ("cash " : Str) ≠ cash ∧ ("other" : Str) ≠ cash := by decide +kernel
section
variable {P : Program} {w : World} {K : PySem.W.Frag} {mg : Str → Option Value} {base : Heap} {C BG BP BR NA ME : Addr}
def sdThings (C : Addr) : SpD := fun as Q _ => ∃ (ys : List D) (gs : List Str) (js : List Int), as = [.own (.lst ys), .d (posD C gs js), .d (.lst (gs.map .str)), .d (.lst (js.map .int))] ∧ Bg ys ∧ Po gs js ∧ (∀ g ∈ gs, g ≠ "other") ∧ Wid js ∧ ∀ ys : List D, Bg ys → Q (.d (.bl true)) [.lst ys]
abbrev s_law_things_hold : Stmt := top 37
theorem sc_law_things_hold : FnScope ["_law_bag_here", "_law_position", "_law_goods", "_law_counts_here", "_law_wrong", "_law_thing", "_law_prices", "_law_turn", "_law_bad", "_law_due", "_law_k"] ["_law_bag_here", "_law_position", "_law_goods", "_law_counts_here"] (defScope s_law_things_hold) := ⟨rfl, rfl, rfl, by decide +kernel, rfl, by decide +kernel, by decide +kernel⟩
theorem ok_things (D_law_no_asset : DefDG P w K mg base "_law_no_asset" 5 ["_law_position", "_law_thing"] (sdNoAsset C)) (D_law_counts : DefD P w K mg base "_law_counts" 7 ["_law_bag_here", "_law_many", "_law_most"] sdCounts) (D_law_bad_counts : DefD P w K mg base "_law_bad_counts" 5 ["_law_bag_here", "_law_counts_here"] sdBadC) (D_law_no_prices : DefD P w K mg base "_law_no_prices" 11 ["_law_position", "_law_prices", "_law_is_loss"] (sdNoPrices C))
    (D_Position_worth : DefM P w K mg base C "worth" 7 ["self", "prices"] (sdWorth C BR)) (D_Position_loss : DefM P w K mg base C "loss" 9 ["self", "move"] (sdLoss C BR)) {f : Addr} {fd : FuncData} (G : Fun K "_law_things_hold" "_law_things_hold" s_law_things_hold f fd) (T : TxtE K mg C BR NA ME BG BP) : FnOkG P w K mg base (L2.CX P w) 13 f fd ["_law_bag_here", "_law_position", "_law_goods", "_law_counts_here"] (spOf K (sdThings C)) := by
  refine okDG G sc_law_things_hold [0] (fun as Q E ⟨ys, gs, js, e, _⟩ => by subst e; exact ⟨rfl, rfl⟩) ⟨_, fun cdv A hgs outer s H E ad F0 H0 hr => (pds_cons (psd_set (i := 4) (pd_lst (fun h => pe_lst h) (pda_cons (pd_const pe_non (fun _ => .non)) (pda_cons (pd_const pe_bl (fun _ => .bl _)) (pda_cons (pd_const pe_int (fun _ => .int _)) (pda_cons (pd_neg (pd_const pe_int (fun _ => .int _))) (pda_cons (pd_const pe_str (fun _ => .str (by decide +kernel))) (pda_cons (pd_const pe_str (fun _ => .str (by decide +kernel))) (pda_cons (pd_const pe_str (fun _ => .str (by decide +kernel))) (pda_cons (pd_op op_add_str op2_addS (pd_ix ix_list op2_ixL (pd_var (pv 2)) (pd_const pe_int (fun _ => .int _)) (fun _ _ => rfl)) (pd_const pe_str (fun _ => .str (by decide +kernel)))) (pda_cons (pd_op op_add_str op2_addS (pd_ix ix_list op2_ixL (pd_var (pv 2)) (pd_const pe_int (fun _ => .int _)) (fun _ _ => rfl)) (pd_op op_mulT op2_mulT (pd_const pe_str (fun _ => .str (by decide +kernel))) (pd_const pe_int (fun _ => .int _)))) (pda_cons (pd_const pe_str (fun _ => .str (by decide +kernel))) (pda_cons (pd_tup (fun h => pe_tup h) (pda_cons (pd_ix ix_list op2_ixL (pd_var (pv 2)) (pd_const pe_int (fun _ => .int _)) (fun _ _ => rfl)) pda_nil)) (pda_cons (pd_lst (fun h => pe_lst h) (pda_cons (pd_ix ix_list op2_ixL (pd_var (pv 2)) (pd_const pe_int (fun _ => .int _)) (fun _ _ => rfl)) pda_nil)) pda_nil))))))))))))) (by show ¬ (4 ∈ ([0] : List Nat)); decide) sc_law_things_hold.nd rfl (.inl rfl))
      (pds_cons (psd_for (passes_of rfl) rfl (pid_list (pd_op op_cat op2_cat (pd_var (pv 4)) (pd_lst (fun h => pe_lst h) (pda_cons (pd_tup (fun h => pe_tup h) (pda_cons (pd_const pe_int (fun _ => .int _)) (pda_cons (pd_const pe_int (fun _ => .int _)) pda_nil))) pda_nil)))) (pgd_name (i := 5) (vs := [5]) (pg_name (i := 5) sc_law_things_hold.nd rfl (.inl rfl)) (by show ¬ (5 ∈ ([0] : List Nat)); decide) (by decide))
      (pds_one (psd_if (ptd_not (ptd_val (pd_callG D_law_no_asset.ok hgs (hr.mono (by decide)) (by rfl) D_law_no_asset.mg D_law_no_asset.kp D_law_no_asset.b (takes_of rfl rfl rfl rfl) (pda_cons (pd_var (pv 1)) (pda_cons (pd_var (pv 5)) pda_nil))) (fun h => pt_val h))) (pds_one (psd_ret (pd_const pe_bl (fun _ => .bl _)))) pds_nil)))
      (pds_cons (psd_set (i := 6) (pd_call D_law_counts.ok (hr.mono (by decide)) (by rfl) D_law_counts.mg D_law_counts.kp D_law_counts.b (takes_of rfl rfl rfl rfl) (pda_own (i := 0) (pv 0) (pda_cons (pd_builtB (fun h => pe_callB call_len_seq (by rfl) T.b_len (by decide +kernel) h) cn_len.op (pda_cons (pd_var (pv 2)) pda_nil)) (pda_cons (pd_op op_pow (op2_I fun _ _ _ => .int _) (pd_const pe_int (fun _ => .int _)) (pd_const pe_int (fun _ => .int _))) pda_nil)))) (by show ¬ (6 ∈ ([0] : List Nat)); decide) sc_law_things_hold.nd rfl (.inr rfl))
      (pds_cons (psd_for (passes_of rfl) rfl (pid_range1 (by rfl) T.b_range (pda_cons (pd_const pe_int (fun _ => .int _)) pda_nil)) (pgd_name (i := 7) (vs := [7]) (pg_name (i := 7) sc_law_things_hold.nd rfl (.inl rfl)) (by show ¬ (7 ∈ ([0] : List Nat)); decide) (by decide))
      (pds_cons (psd_set (i := 8) (pd_ix ix_list op2_ixL (pd_call D_law_bad_counts.ok (hr.mono (by decide)) (by rfl) D_law_bad_counts.mg D_law_bad_counts.kp D_law_bad_counts.b (takes_of rfl rfl rfl rfl) (pda_own (i := 0) (pv 0) (pda_cons (pd_var (pv 6)) pda_nil))) (pd_const pe_int (fun _ => .int _)) (fun _ _ => rfl)) (by show ¬ (8 ∈ ([0] : List Nat)); decide) sc_law_things_hold.nd rfl (.inl rfl))
      (pds_one (psd_if (ptd_not (ptd_val (pd_call D_law_no_prices.ok (hr.mono (by decide)) (by rfl) D_law_no_prices.mg D_law_no_prices.kp D_law_no_prices.b (takes_of rfl rfl rfl rfl) (pda_cons (pd_var (pv 1)) (pda_cons (pd_var (pv 8)) (pda_cons (pd_cmp op_gt (op2_I0 fun _ _ _ => .bl _) (pd_var (pv 7)) (pd_const pe_int (fun _ => .int _)) (nomark _)) pda_nil)))) (fun h => pt_val h))) (pds_one (psd_ret (pd_const pe_bl (fun _ => .bl _)))) pds_nil))))
      (pds_cons (psd_set (i := 9) (pd_builtB (fun h => pe_callB (cr_sum rfl) (by rfl) T.b_sum (by decide +kernel) h) cn_sum.op (pda_cons (pd_lc (own := [("_law_k", 10)]) (by rfl) sc_law_things_hold.nd (pid_range1 (by rfl) T.b_range (pda_cons (pd_builtB (fun h => pe_callB call_len_seq (by rfl) T.b_len (by decide +kernel) h) cn_len.op (pda_cons (pd_var (pv 2)) pda_nil)) pda_nil)) (blkOk_by (own := [("_law_k", 10)]) (N := ["_law_bag_here", "_law_position", "_law_goods", "_law_counts_here", "_law_wrong", "_law_thing", "_law_prices", "_law_turn", "_law_bad", "_law_due", "_law_k"]) (sc := defScope s_law_things_hold) (by decide +kernel)) (fun _ _ _ _ _ => (pgd_name (i := 10) (vs := [10]) (pg_name (i := 10) sc_law_things_hold.nd rfl (.inl rfl)) (by show ¬ (10 ∈ ([0] : List Nat)); decide) (by decide))) (fun _ _ _ _ _ => ptsd_nil) (fun _ _ _ _ _ => (pd_op op_mul (op2_I fun _ _ _ => .int _) (pd_ix ix_list op2_ixL (pd_var (pv 3)) (pd_var (pv 10)) (fun _ _ => rfl)) (pd_ix ix_list op2_ixL (pd_var (pv 6)) (pd_var (pv 10)) (fun _ _ => rfl)))) (by show ∀ i ∈ ([10] : List Nat), ¬ (i ∈ ([0] : List Nat)); decide)) pda_nil)) (by show ¬ (9 ∈ ([0] : List Nat)); decide) sc_law_things_hold.nd rfl (.inl rfl))
      (pds_one (psd_ret (pd_and (pd_cmp op_eq op2_eq.op (pd_meth (pd_var (pv 1)) T.cl_Position D_Position_worth.me D_Position_worth.ok (hr.mono (by decide)) D_Position_worth.b (takes_of rfl rfl rfl rfl) (pda_cons (pd_var (pv 6)) pda_nil)) (pd_var (pv 9)) (nomark _)) (pd_one (pd_cmp op_eq op2_eq.op (pd_meth (pd_var (pv 1)) T.cl_Position D_Position_loss.me D_Position_loss.ok (hr.mono (by decide)) D_Position_loss.b (takes_of rfl rfl rfl rfl) (pda_cons (pd_var (pv 6)) pda_nil)) (pd_op op_sub (op2_I0 fun _ _ _ => .int _) (pd_const pe_int (fun _ => .int _)) (pd_var (pv 9))) (nomark _))))))))))), ?_⟩
  rintro as Qd Ed ⟨ys, gs, js, rfl, hb, hp, ho, hw, k⟩
  refine DR.start (δ' := [some (.own (.lst ys)), some (.d (posD C gs js)), some (.d (.lst (gs.map .str))), some (.d (.lst (js.map .int))), none, none, none, none, none, none, none]) rfl ?_
  have hg := hp.1
  have g5 := hg.2.2.1
  obtain ⟨g0, g', rfl⟩ : ∃ g0 g', gs = g0 :: g' := by
    cases gs with
    | nil => exact absurd hg.2.1 (by decide)
    | cons a l => exact ⟨a, l, rfl⟩
  have n0 := hg.2.2.2 g0 List.mem_cons_self
  have a0 : atI ((g0 :: g').map D.str) 0 = some (.str g0) := atI_map (i := 0) rfl
  have one : ([.str g0] : List D).length ≤ 1 := Nat.le_refl 1
  have n12 := n0.2.2.1
  have s0 : ∀ d ∈ ([.str g0] : List D), Sz 122 1 d := fun d hd => by rw [List.mem_singleton.mp hd]; exact sz_str n0.2.2.1
  have i1 : ∀ i : Int, i.natAbs < 10 ^ 19 → Sz 20 1 (.int i) := fun i h => sz_int h
  with_reducible refine DR.cut (fun δ => ∃ l : List D, (∀ a ∈ l, NoT (g0 :: g') a) ∧ l.length = 12 ∧ δ = [some (.own (.lst ys)), some (.d (posD C (g0 :: g') js)), some (.d (.lst ((g0 :: g').map .str))), some (.d (.lst (js.map .int))), some (.d (.lst l)), none, none, none, none, none, none]) (fun N kN => ?_) ?_
  · walk_at "dd"
    refine ⟨_, _, .inl rfl, a0, ?_⟩
    walk_at "dd"
    refine ⟨Nat.le_trans (show g0.length + 1 ≤ 20 by omega) (by decide), ?_⟩
    walk_at "dd"
    refine ⟨_, _, .inl rfl, a0, ?_⟩
    walk_at "dd"
    refine ⟨by decide, by decide, by decide, fun u hu => ?_⟩
    have hu : u.length = 13 := hu
    walk_at "dd"
    refine ⟨Nat.le_trans (show g0.length + u.length ≤ 40 by omega) (by decide), ?_⟩
    walk_at "dd"
    refine ⟨_, _, .inl rfl, a0, ?_⟩
    walk_at "dd"
    refine ⟨_, _, .inl rfl, a0, ?_⟩
    walk_at "dd"
    refine ⟨[_, _, _, _, _, _, _, _, _, _, _, _], rfl, Nat.le_trans (show 12 ≤ 20 by decide) (by decide), ?_⟩
    walk_at "dd"
    refine kN _ ⟨[.non, .bl true, .int 0, .int (-1), .str "", .str "Cash", .str "cash ", .str (g0 ++ " "), .str (g0 ++ u), .str "other", .tup [.str g0], .lst [.str g0]], fun a ha => ?_, rfl, rfl⟩
    simp only [List.mem_cons, List.not_mem_nil, or_false] at ha
    rcases ha with rfl | rfl | rfl | rfl | rfl | rfl | rfl | rfl | rfl | rfl | rfl | rfl
    · exact notS (sz_non.le (by decide) (by decide)) fun z e => nomatch e
    · exact notS (sz_bl.le (by decide) (by decide)) fun z e => nomatch e
    · exact notS ((i1 0 (by decide)).le (by decide) (by decide)) fun z e => nomatch e
    · exact notS ((i1 (-1) (by decide)).le (by decide) (by decide)) fun z e => nomatch e
    · exact not_txt hg ho (by decide) ne_cash.1 (.inr small_no.1)
    · exact not_txt hg ho (by decide) ne_cash.2.1 (.inr small_no.2.1)
    · exact not_txt hg ho (by decide) ne_cash.2.2.1 (.inr small_no.2.2)
    · refine not_txt hg ho (by rw [str_len]; show g0.length + 1 ≤ 30; omega) (fun e => ?_) (.inr sp_no)
      have := sp_no (g := g0)
      rw [e, cash_nm] at this
      cases this
    · refine not_txt hg ho (by rw [str_len]; omega) (fun e => ?_) (.inr (long_no (by omega)))
      have := long_no (g := g0) (t := u) (by omega)
      rw [e, cash_nm] at this
      cases this
    · exact not_txt hg ho (by decide) ne_cash.2.2.2 (.inl rfl)
    · exact notS ((sz_tup s0 one).le (by decide) (by decide)) fun z e => nomatch e
    · exact notS ((sz_lst s0 one).le (by decide) (by decide)) fun z e => nomatch e
  rintro δ ⟨l, hl, ll, rfl⟩
  with_reducible refine DR.cut (fun δ => ∃ p5 : Option DV, δ = [some (.own (.lst ys)), some (.d (posD C (g0 :: g') js)), some (.d (.lst ((g0 :: g').map .str))), some (.d (.lst (js.map .int))), some (.d (.lst l)), p5, none, none, none, none, none]) (fun N kN => ?_) ?_
  · walk_at "dd"
    refine ⟨Nat.le_trans (show l.length + 1 ≤ 13 by omega) (by decide), ?_⟩
    walk_at "dd"
    refine DR.for_inv (fun _ δ => ∃ p5 : Option DV, δ = [some (.own (.lst ys)), some (.d (posD C (g0 :: g') js)), some (.d (.lst ((g0 :: g').map .str))), some (.d (.lst (js.map .int))), some (.d (.lst l)), p5, none, none, none, none, none]) ⟨_, rfl⟩ ?_ ?_
    · rintro i x δ N2 hx ⟨p5, rfl⟩ kN2
      have hx : NoT (g0 :: g') x := by
        rcases List.mem_append.mp (List.mem_of_getElem? hx) with h | h
        · exact hl x h
        · rw [List.mem_singleton.mp h]
          exact notS ((sz_tup (m := 2) (ds := [.int 0, .int 1]) (n := 20) (k := 1) (fun d hd => by
            simp only [List.mem_cons, List.not_mem_nil, or_false] at hd
            rcases hd with rfl | rfl <;> exact sz_int (by decide)) (by decide)).le (by decide) (by decide)) fun z e => nomatch e
      walk_at "dd"
      refine ⟨_, _, _, rfl, hp, hx.sz.show, hx.no, ?_⟩
      walk_at "dd"
      exact kN2 _ ⟨_, rfl⟩
    · rintro δ ⟨p5, rfl⟩
      exact kN _ ⟨p5, rfl⟩
  rintro δ ⟨p5, rfl⟩
  with_reducible refine DR.cut (fun δ => ∃ (ys : List D) (ks : List Int), ks.length = (g0 :: g').length ∧ (∀ j ∈ ks, -(10 ^ 12) ≤ j ∧ j ≤ 10 ^ 12) ∧ Bg ys ∧ δ = [some (.own (.lst ys)), some (.d (posD C (g0 :: g') js)), some (.d (.lst ((g0 :: g').map .str))), some (.d (.lst (js.map .int))), some (.d (.lst l)), p5, some (.d (.lst (ks.map .int))), none, none, none, none]) (fun N kN => ?_) ?_
  · walk_at "dd"
    refine ⟨ys, (g0 :: g').length, 10 ^ 12, by rw [List.length_map]; rfl, hb, g5, by decide, by decide, fun ks ys hk1 hk2 hb => ?_⟩
    walk_at "dd"
    exact kN _ ⟨ys, ks, hk1, hk2, hb, rfl⟩
  rintro δ ⟨ys, ks, hk1, hk2, hb, rfl⟩
  have wk : Wid ks := wid18 hk2 (by decide)
  with_reducible refine DR.cut (fun δ => ∃ (ys : List D) (p7 p8 : Option DV), Bg ys ∧ δ = [some (.own (.lst ys)), some (.d (posD C (g0 :: g') js)), some (.d (.lst ((g0 :: g').map .str))), some (.d (.lst (js.map .int))), some (.d (.lst l)), p5, some (.d (.lst (ks.map .int))), p7, p8, none, none]) (fun N kN => ?_) ?_
  · walk_at "dd"
    refine ⟨by decide, by decide, ?_⟩
    refine DR.for_inv (fun _ δ => ∃ (ys : List D) (p7 p8 : Option DV), Bg ys ∧ δ = [some (.own (.lst ys)), some (.d (posD C (g0 :: g') js)), some (.d (.lst ((g0 :: g').map .str))), some (.d (.lst (js.map .int))), some (.d (.lst l)), p5, some (.d (.lst (ks.map .int))), p7, p8, none, none]) ⟨_, _, _, hb, rfl⟩ ?_ ?_
    · rintro i x δ N2 hx ⟨ys, p7, p8, hb, rfl⟩ kN2
      obtain ⟨rfl, hi⟩ := upto_at hx
      walk_at "dd"
      refine ⟨ys, ks, rfl, hb, by rw [hk1]; exact hg.2.1, by rw [hk1]; exact g5, wk, fun y v ys hy hb => ?_⟩
      walk_at "dd"
      refine ⟨_, _, .inl rfl, rfl, ?_⟩
      walk_at "dd"
      have hn : isN (g0 :: g').length y = false := by
        have hw := hy.w
        rw [hk1] at hw
        unfold cntW at hw
        cases q : isR (g0 :: g').length y with
        | false => unfold isN; rw [q]; rfl
        | true =>
          cases q2 : isN (g0 :: g').length y with
          | false => rfl
          | true => rw [q, q2] at hw; cases hw
      refine ⟨_, _, _, _, rfl, hp, hy.ca, hn, ?_⟩
      walk_at "dd"
      exact kN2 _ ⟨ys, _, _, hb, rfl⟩
    · rintro δ ⟨ys, p7, p8, hb, rfl⟩
      exact kN _ ⟨ys, p7, p8, hb, rfl⟩
  rintro δ ⟨ys, p7, p8, hb, rfl⟩
  have hc : ∀ x y : Int, y ∈ ks → CMul x y := fun x y hy => by have := hk2 y hy; exact RD9.mulr (by omega) (by omega)
  with_reducible refine DR.cut (fun δ => δ = [some (.own (.lst ys)), some (.d (posD C (g0 :: g') js)), some (.d (.lst ((g0 :: g').map .str))), some (.d (.lst (js.map .int))), some (.d (.lst l)), p5, some (.d (.lst (ks.map .int))), p7, p8, some (.d (.int (dot js ks))), none]) (fun N kN => ?_) ?_
  · have hl1 : js.length = ks.length := by rw [hp.2, hk1]
    have zl : (js.zipWith (fun x y => x * y) ks).length = ks.length := by rw [List.length_zipWith, hl1, Nat.min_self]
    walk_at "dd"
    refine ⟨by rw [List.length_map]; omega, by rw [List.length_map]; omega, ?_⟩
    refine DR.lc_inv (fun i acc δ => acc = ((js.zipWith (fun x y => x * y) ks).take i).map D.int ∧ δ = [some (.own (.lst ys)), some (.d (posD C (g0 :: g') js)), some (.d (.lst ((g0 :: g').map .str))), some (.d (.lst (js.map .int))), some (.d (.lst l)), p5, some (.d (.lst (ks.map .int))), p7, p8, none, none]) ⟨rfl, rfl⟩ ?_ ?_
    · rintro i x acc δ N2 hx ⟨rfl, rfl⟩ kN2
      obtain ⟨rfl, hi⟩ := upto_at hx
      have hi : i < ks.length := by rw [hk1]; simpa using hi
      have hj : i < js.length := by omega
      walk_at "dd"
      refine ⟨_, _, .inl rfl, atI_map (List.getElem?_eq_getElem hj), ?_⟩
      walk_at "dd"
      refine ⟨_, _, .inl rfl, atI_map (List.getElem?_eq_getElem hi), ?_⟩
      walk_at "dd"
      refine ⟨hc _ _ (List.getElem_mem hi), ?_⟩
      walk_at "dd"
      have hz : i < (js.zipWith (fun x y => x * y) ks).length := by omega
      refine ⟨Nat.lt_of_le_of_lt (show (((js.zipWith (fun x y => x * y) ks).take i).map D.int).length ≤ 5 by rw [List.length_map, List.length_take]; omega) (by decide), kN2 _ _ ⟨?_, rfl⟩⟩
      rw [List.take_succ_eq_append_getElem hz, List.map_append, List.getElem_zipWith]
      rfl
    rintro acc δ ⟨rfl, rfl⟩
    rw [upto_len, show (((g0 :: g').map D.str).length : Int).toNat = (js.zipWith (fun x y => x * y) ks).length by rw [zl, hk1, List.length_map]; rfl, List.take_length]
    walk_at "dd"
    exact kN _ rfl
  rintro δ rfl
  have ck : ∀ p ∈ js.zip ks, CMul p.1 p.2 := fun p hm => hc _ _ (List.of_mem_zip hm).2
  have cak : CA (.lst (ks.map .int)) := ca_row (.inl rfl) (by rw [hk1]; exact Nat.le_trans g5 (by decide))
  walk_at "dd"
  refine ⟨_, _, _, rfl, hp, cak, .inl ⟨ks, .inl rfl, hk1, ck, ?_⟩⟩
  walk_at "dd"
  rw [decide_eq_true (show dot js ks = dot js ks from rfl)]
  walk_at "dd"
  refine ⟨_, _, _, rfl, hp, cak, .inl ⟨ks, .inl rfl, hk1, ck, ?_⟩⟩
  walk_at "dd"
  rw [if_neg Bool.false_ne_true, Int.zero_sub, show decide (V.int (-dot js ks) = V.int (-dot js ks)) = true from decide_eq_true rfl]
  exact k ys hb
end
end KT

set_option Elab.async false
set_option linter.all false
set_option maxRecDepth 100000
set_option maxHeartbeats 0
set_option pp.deepTerms false
set_option pp.deepTerms.threshold 8


namespace KT
open PySem PySem.Spec PyProof.Rows L2 DL
mutual
theorem eqv_self : ∀ d : PyData, d.hasDict = false → PyData.eqv d d = true
  | .none, _ => by simp [PyData.eqv]
  | .bool b, _ => by simp [PyData.eqv]
  | .int i, _ => by simp [PyData.eqv]
  | .str x, _ => by simp [PyData.eqv]
  | .list xs, h => by
    simp only [PyData.eqv]
    exact eqv_selfs xs (by simpa [PyData.hasDict] using h)
  | .tuple xs, h => by
    simp only [PyData.eqv]
    exact eqv_selfs xs (by simpa [PyData.hasDict] using h)
  | .dict _, h => by simp [PyData.hasDict] at h
theorem eqv_selfs : ∀ ds : List PyData, PyData.hasDictAll ds = false → PyData.eqvAll ds ds = true
  | [], _ => by simp [PyData.eqvAll]
  | d :: ds, h => by
    simp only [PyData.hasDictAll, Bool.or_eq_false_iff] at h
    simp only [PyData.eqvAll, eqv_self d h.1, eqv_selfs ds h.2, Bool.and_self]
end
/-- the same on both sides -/
theorem ne_self {d : D} {Q : D → Prop} (c : Cmp d) (k : Q (.bl false)) : eqP true d d Q := eqd_f (b := true) c c (eqv_self _ (noDict c.1)) k
theorem cmp2 {w : Str} {x : D} (h : Dp_ 3 x) : Cmp (.lst [.str w, x]) := (dp_lst (n := 3) (ds := [.str w, x]) (fun d hd => by
  simp only [List.mem_cons, List.not_mem_nil, or_false] at hd
  rcases hd with rfl | rfl
  · exact dp_str.le (by decide)
  · exact h)).cmp
theorem dpi {js : List Int} : Dp_ 3 (.tup (js.map .int)) := (dp_ints js).le (by decide)
theorem dps {z : Str} : Dp_ 3 (.str z) := dp_str.le (by decide)
theorem goodsW_len {x : D} {v : Str} (h : goodsW x = some v) : v.length ≤ 10 := by
  unfold goodsW at h
  split at h
  · cases h; decide
  · split at h
    · cases h; decide
    · split at h
      · cases h; decide
      · split at h
        · cases h
        · cases h; decide
theorem cntW_len {n : Nat} {x : D} {v : Str} (h : cntW n x = some v) : v.length ≤ 10 := by
  unfold cntW at h
  split at h
  · cases h; decide
  · split at h
    · cases h; decide
    · cases h
theorem sz2 {x : D} {v : Str} (h : Sz 2000 3 x) (hv : v.length ≤ 10) : Sz 4100 4 (.lst [x, .str v]) := (sz_lst (m := 2) (ds := [x, .str v]) (n := 2000) (k := 3) (fun d hd => by
  simp only [List.mem_cons, List.not_mem_nil, or_false] at hd
  rcases hd with rfl | rfl
  · exact h
  · exact (sz_str hv).le (by decide) (by decide)) (Nat.le_refl 2)).le (by decide) (by decide)
theorem sz4 {a b c d : D} (h1 : Sz 4100 4 a) (h2 : Sz 4100 4 b) (h3 : Sz 4100 4 c) (h4 : Sz 4100 4 d) : Show (.lst [a, b, c, d]) := ((sz_lst (m := 4) (ds := [a, b, c, d]) (n := 4100) (k := 4) (fun e he => by
  simp only [List.mem_cons, List.not_mem_nil, or_false] at he
  rcases he with rfl | rfl | rfl | rfl <;> assumption) (Nat.le_refl 4)).le (m := 20000) (j := 5) (by decide) (by decide)).show
theorem cmp_e : Cmp (.ro []) ∧ Cmp (.lst []) := ⟨⟨rfl, by simp [D.py, pyL, PyData.depth, PyData.depthAll]⟩, ⟨rfl, by simp [D.py, pyL, PyData.depth, PyData.depthAll]⟩⟩
abbrev oddT (g : Str) : List D := [.str "cash", .str "", .non, .int 0, .bl true, .tup [.str g], .lst [.str g], .str (g ++ "A"), .str "other", .str "other"]
theorem thing_no {gs : List Str} (hg : Goods gs) (ho : ∀ g ∈ gs, g ≠ "other") {g : Str} (hm : g ∈ gs) : ∀ a ∈ oddT g, Show a ∧ ∀ h ∈ gs, a ≠ .str h := by
  have n := hg.2.2.2 g hm
  have n12 := n.2.2.1
  have tx : ∀ {z : Str}, z.length ≤ 30 → (∀ h ∈ gs, z ≠ h) → Show (.str z) ∧ ∀ h ∈ gs, (D.str z) ≠ .str h := fun {z} hl hn => ⟨(sz_str hl).show (by decide) (by decide), fun h hh e => hn h hh (by injection e)⟩
  have nt : ∀ {a : D}, Sz 400 2 a → (∀ z, a ≠ .str z) → Show a ∧ ∀ h ∈ gs, a ≠ .str h := fun {a} s hn => ⟨s.show, fun h _ => hn h⟩
  have s1 : ∀ d ∈ ([.str g] : List D), Sz 122 1 d := fun d hd => by rw [List.mem_singleton.mp hd]; exact sz_str n12
  intro a ha
  simp only [oddT, List.mem_cons, List.not_mem_nil, or_false] at ha
  rcases ha with rfl | rfl | rfl | rfl | rfl | rfl | rfl | rfl | rfl | rfl
  · exact tx (by decide) fun h hh e => (hg.2.2.2 h hh).1 e.symm
  · exact tx (by decide) fun h hh e => by have := (hg.2.2.2 h hh).2.1; rw [← e] at this; exact absurd this (by decide)
  · exact nt (sz_non.le (by decide) (by decide)) fun z e => nomatch e
  · exact nt ((sz_int (by decide)).le (by decide) (by decide)) fun z e => nomatch e
  · exact nt (sz_bl.le (by decide) (by decide)) fun z e => nomatch e
  · exact nt ((sz_tup s1 (Nat.le_refl 1)).le (by decide) (by decide)) fun z e => nomatch e
  · exact nt ((sz_lst s1 (Nat.le_refl 1)).le (by decide) (by decide)) fun z e => nomatch e
  · refine tx (by rw [str_len]; show g.length + 1 ≤ 30; omega) fun h hh e => ?_
    have := (hg.2.2.2 h hh).2.2.2 65 (by rw [← e, str_cps]; exact List.mem_append_right _ (by decide +kernel))
    omega
  · exact tx (by decide) fun h hh e => ho h hh e.symm
  · exact tx (by decide) fun h hh e => ho h hh e.symm
section
variable {P : Program} {w : World} {K : PySem.W.Frag} {mg : Str → Option Value} {base : Heap} {C BG BP BR NA ME : Addr}
abbrev stL (zs : List Int) (i : Nat) (ys : List D) (p3 p4 p5 p6 p7 p8 p9 p10 p11 p12 p13 : Option DV) : DSt := [some (.d (.ro (zs.map .int))), some (.d (.int i)), some (.own (.lst ys)), p3, p4, p5, p6, p7, p8, p9, p10, p11, p12, p13, none]
abbrev gsV (gs : List Str) : Option DV := some (.d (.lst (gs.map .str)))
abbrev jsV (js : List Int) : Option DV := some (.d (.lst (js.map .int)))
abbrev nV (i : Int) : Option DV := some (.d (.int i))
def sdLaw : SpD := fun as Q _ => ∃ zs : List Int, as = [.d (.ro (zs.map .int))] ∧ Q (.d (.bl true)) []
abbrev s_law : Stmt := top 38
theorem sc_law : FnScope ["_law_script", "_law_at", "_law_bag_here", "_law_turn", "_law_goods", "_law_counts_here", "_law_bad", "_law_wrong", "_law_kept", "_law_good", "_law_count", "_law_thing", "_law_odd", "_law_number", "_law_one"] ["_law_script"] (defScope s_law) := ⟨rfl, rfl, rfl, by decide +kernel, rfl, by decide +kernel, by decide +kernel⟩
theorem ok_law (D_law_bag : DefD P w K mg base "_law_bag" 1 ["_law_script", "_law_at"] sdBag) (D_law_take : DefD P w K mg base "_law_take" 1 ["_law_bag_here", "_law_many"] sdTake) (D_law_names : DefD P w K mg base "_law_names" 5 ["_law_bag_here", "_law_many"] sdNames) (D_law_of : DefD P w K mg base "_law_of" 3 ["_law_bag_here", "_law_some"] sdOf)
    (D_law_whole : DefD P w K mg base "_law_whole" 5 ["_law_bag_here", "_law_most"] sdWhl) (D_law_counts : DefD P w K mg base "_law_counts" 7 ["_law_bag_here", "_law_many", "_law_most"] sdCounts) (D_law_bad_goods : DefD P w K mg base "_law_bad_goods" 5 ["_law_bag_here", "_law_goods"] sdBadG) (D_law_bad_counts : DefD P w K mg base "_law_bad_counts" 5 ["_law_bag_here", "_law_counts_here"] sdBadC)
    (D_law_told : DefD P w K mg base "_law_told" 9 ["_law_goods", "_law_counts_here"] sdTold) (D_law_flat_told : DefD P w K mg base "_law_flat_told" 11 ["_law_goods"] sdFlatTold) (D_law_single_told : DefDG P w K mg base "_law_single_told" 11 ["_law_goods", "_law_good", "_law_count"] sdSingleTold) (D_law_things_hold : DefDG P w K mg base "_law_things_hold" 13 ["_law_bag_here", "_law_position", "_law_goods", "_law_counts_here"] (sdThings C))
    (K_Position : DefK P w K mg base C 7 3 ["self", "goods", "counts"] [] [] (sdPInit C BG BP)) {f : Addr} {fd : FuncData} (G : Fun K "law" "law" s_law f fd) (T : TxtE K mg C BR NA ME BG BP) : FnOkG P w K mg base (L2.CX P w) 15 f fd ["_law_script"] (spOf K sdLaw) := by
  refine okDG G sc_law [] (fun as Q E ⟨zs, e, _⟩ => by subst e; exact ⟨rfl, rfl⟩) ⟨_, fun cdv A hgs outer s H E ad F0 H0 hr => (pds_cons (psd_for (passes_of rfl) rfl (pid_range1 (by rfl) T.b_range (pda_cons (pd_builtB (fun h => pe_callB (call_max2 rfl) (by rfl) T.b_max (by decide +kernel) h) cn_two.op (pda_cons (pd_const pe_int (fun _ => .int _)) (pda_cons (pd_builtB (fun h => pe_callB (call_min2 rfl) (by rfl) T.b_min (by decide +kernel) h) cn_two.op (pda_cons (pd_const pe_int (fun _ => .int _)) (pda_cons (pd_builtB (fun h => pe_callB call_len_seq (by rfl) T.b_len (by decide +kernel) h) cn_len.op (pda_cons (pd_var (pv 0)) pda_nil)) pda_nil))) pda_nil))) pda_nil)) (pgd_name (i := 1) (vs := [1]) (pg_name (i := 1) sc_law.nd rfl (.inl rfl)) (by show ¬ (1 ∈ ([] : List Nat)); decide) (by decide))
      (pds_cons (psd_setO (i := 2) (pd_call D_law_bag.ok (hr.mono (by decide)) (by rfl) D_law_bag.mg D_law_bag.kp D_law_bag.b (takes_of rfl rfl rfl rfl) (pda_cons (pd_var (pv 0)) (pda_cons (pd_var (pv 1)) pda_nil))) (by show ¬ (2 ∈ ([] : List Nat)); decide) sc_law.nd rfl (.inl rfl))
      (pds_one (psd_for (passes_of rfl) rfl (pid_range1 (by rfl) T.b_range (pda_cons (pd_ifExp (ptd_cmp (op_neX hr.units) op2_neX.op (pd_var (pv 0)) (pd_lst (fun h => pe_lst h) pda_nil) (nomark _)) (pd_const pe_int (fun _ => .int _)) (pd_const pe_int (fun _ => .int _))) pda_nil)) (pgd_name (i := 3) (vs := [3]) (pg_name (i := 3) sc_law.nd rfl (.inl rfl)) (by show ¬ (3 ∈ ([] : List Nat)); decide) (by decide))
      (pds_cons (psd_set (i := 4) (pd_call D_law_names.ok (hr.mono (by decide)) (by rfl) D_law_names.mg D_law_names.kp D_law_names.b (takes_of rfl rfl rfl rfl) (pda_own (i := 2) (pv 2) (pda_cons (pd_op op_add (op2_I0 fun _ _ _ => .int _) (pd_const pe_int (fun _ => .int _)) (pd_call D_law_take.ok (hr.mono (by decide)) (by rfl) D_law_take.mg D_law_take.kp D_law_take.b (takes_of rfl rfl rfl rfl) (pda_own (i := 2) (pv 2) (pda_cons (pd_const pe_int (fun _ => .int _)) pda_nil)))) pda_nil))) (by show ¬ (4 ∈ ([] : List Nat)); decide) sc_law.nd rfl (.inl rfl))
      (pds_cons (psd_set (i := 5) (pd_call D_law_counts.ok (hr.mono (by decide)) (by rfl) D_law_counts.mg D_law_counts.kp D_law_counts.b (takes_of rfl rfl rfl rfl) (pda_own (i := 2) (pv 2) (pda_cons (pd_builtB (fun h => pe_callB call_len_seq (by rfl) T.b_len (by decide +kernel) h) cn_len.op (pda_cons (pd_var (pv 4)) pda_nil)) (pda_cons (pd_op op_pow (op2_I fun _ _ _ => .int _) (pd_const pe_int (fun _ => .int _)) (pd_const pe_int (fun _ => .int _))) pda_nil)))) (by show ¬ (5 ∈ ([] : List Nat)); decide) sc_law.nd rfl (.inl rfl))
      (pds_cons (psd_par (i := 6) (j := 7) (oi := false) (oj := false) (pka_cons (pd_call D_law_bad_goods.ok (hr.mono (by decide)) (by rfl) D_law_bad_goods.mg D_law_bad_goods.kp D_law_bad_goods.b (takes_of rfl rfl rfl rfl) (pda_own (i := 2) (pv 2) (pda_cons (pd_var (pv 4)) pda_nil))) (pka_cons (pd_call D_law_bad_counts.ok (hr.mono (by decide)) (by rfl) D_law_bad_counts.mg D_law_bad_counts.kp D_law_bad_counts.b (takes_of rfl rfl rfl rfl) (pda_own (i := 2) (pv 2) (pda_cons (pd_var (pv 5)) pda_nil))) pka_nil)) (by show ¬ (6 ∈ ([] : List Nat)); decide) (by show ¬ (7 ∈ ([] : List Nat)); decide) (fun h => ps_par (i := 6) (j := 7) (by rfl) sc_law.nd rfl rfl (by decide) rfl rfl h (by rfl)) (by decide))
      (pds_cons (psd_set (i := 8) (pd_repr hgs (units65 hr :) (by rfl) T.b_repr (by decide +kernel) (pda_cons (pd_lst (fun h => pe_lst h) (pda_cons (pd_var (pv 4)) (pda_cons (pd_var (pv 5)) (pda_cons (pd_var (pv 6)) (pda_cons (pd_var (pv 7)) pda_nil))))) pda_nil)) (by show ¬ (8 ∈ ([] : List Nat)); decide) sc_law.nd rfl (.inl rfl))
      (pds_cons (psd_if (ptd_cmp (op_neD hr.units) op2_neD.op (pd_call D_law_told.ok (hr.mono (by decide)) (by rfl) D_law_told.mg D_law_told.kp D_law_told.b (takes_of rfl rfl rfl rfl) (pda_cons (pd_var (pv 4)) (pda_cons (pd_var (pv 5)) pda_nil))) (pd_lst (fun h => pe_lst h) (pda_cons (pd_const pe_str (fun _ => .str (by decide +kernel))) (pda_cons (pd_builtB (fun h => pe_callTy call_tuple_of (by rfl) T.b_tuple (by decide +kernel) h) cn_tuple (pda_cons (pd_var (pv 5)) pda_nil)) pda_nil))) (nomark _)) (pds_one (psd_ret (pd_const pe_bl (fun _ => .bl _)))) pds_nil)
      (pds_cons (psd_if (ptd_cmp (op_neD hr.units) op2_neD.op (pd_call D_law_told.ok (hr.mono (by decide)) (by rfl) D_law_told.mg D_law_told.kp D_law_told.b (takes_of rfl rfl rfl rfl) (pda_cons (pd_var (pv 4)) (pda_cons (pd_ix ix_list op2_ixL (pd_var (pv 7)) (pd_const pe_int (fun _ => .int _)) (fun _ _ => rfl)) pda_nil))) (pd_lst (fun h => pe_lst h) (pda_cons (pd_const pe_str (fun _ => .str (by decide +kernel))) (pda_cons (pd_ix ix_list op2_ixL (pd_var (pv 7)) (pd_const pe_int (fun _ => .int _)) (fun _ _ => rfl)) pda_nil))) (nomark _)) (pds_one (psd_ret (pd_const pe_bl (fun _ => .bl _)))) pds_nil)
      (pds_cons (psd_if (PW.pt (pwd_or (ptd_cmp (op_neD hr.units) op2_neD.op (pd_call D_law_told.ok (hr.mono (by decide)) (by rfl) D_law_told.mg D_law_told.kp D_law_told.b (takes_of rfl rfl rfl rfl) (pda_cons (pd_ix ix_list op2_ixL (pd_var (pv 6)) (pd_const pe_int (fun _ => .int _)) (fun _ _ => rfl)) (pda_cons (pd_ix ix_list op2_ixL (pd_var (pv 7)) (pd_const pe_int (fun _ => .int _)) (fun _ _ => rfl)) pda_nil))) (pd_lst (fun h => pe_lst h) (pda_cons (pd_const pe_str (fun _ => .str (by decide +kernel))) (pda_cons (pd_ix ix_list op2_ixL (pd_var (pv 6)) (pd_const pe_int (fun _ => .int _)) (fun _ _ => rfl)) pda_nil))) (nomark _)) (pwd_or1 (ptd_cmp (op_neD hr.units) op2_neD.op (pd_call D_law_told.ok (hr.mono (by decide)) (by rfl) D_law_told.mg D_law_told.kp D_law_told.b (takes_of rfl rfl rfl rfl) (pda_cons (pd_ix ix_list op2_ixL (pd_var (pv 6)) (pd_const pe_int (fun _ => .int _)) (fun _ _ => rfl)) (pda_cons (pd_var (pv 5)) pda_nil))) (pd_lst (fun h => pe_lst h) (pda_cons (pd_const pe_str (fun _ => .str (by decide +kernel))) (pda_cons (pd_ix ix_list op2_ixL (pd_var (pv 6)) (pd_const pe_int (fun _ => .int _)) (fun _ _ => rfl)) pda_nil))) (nomark _))))) (pds_one (psd_ret (pd_const pe_bl (fun _ => .bl _)))) pds_nil)
      (pds_cons (psd_if (PW.pt (pwd_or (ptd_cmp (op_neD hr.units) op2_neD.op (pd_call D_law_flat_told.ok (hr.mono (by decide)) (by rfl) D_law_flat_told.mg D_law_flat_told.kp D_law_flat_told.b (takes_of rfl rfl rfl rfl) (pda_cons (pd_ix ix_list op2_ixL (pd_var (pv 6)) (pd_const pe_int (fun _ => .int _)) (fun _ _ => rfl)) pda_nil)) (pd_lst (fun h => pe_lst h) (pda_cons (pd_const pe_str (fun _ => .str (by decide +kernel))) (pda_cons (pd_ix ix_list op2_ixL (pd_var (pv 6)) (pd_const pe_int (fun _ => .int _)) (fun _ _ => rfl)) pda_nil))) (nomark _)) (pwd_or1 (ptd_cmp (op_neD hr.units) op2_neD.op (pd_call D_law_flat_told.ok (hr.mono (by decide)) (by rfl) D_law_flat_told.mg D_law_flat_told.kp D_law_flat_told.b (takes_of rfl rfl rfl rfl) (pda_cons (pd_var (pv 4)) pda_nil)) (pd_lst (fun h => pe_lst h) (pda_cons (pd_const pe_str (fun _ => .str (by decide +kernel))) (pda_cons (pd_op op_repA op2_repA (pd_tup (fun h => pe_tup h) (pda_cons (pd_const pe_int (fun _ => .int _)) pda_nil)) (pd_builtB (fun h => pe_callB call_len_seq (by rfl) T.b_len (by decide +kernel) h) cn_len.op (pda_cons (pd_var (pv 4)) pda_nil))) pda_nil))) (nomark _))))) (pds_one (psd_ret (pd_const pe_bl (fun _ => .bl _)))) pds_nil)
      (pds_cons (psd_parC (i := 9) (j := 10) (oi := false) (oj := false) (pka_cons (pd_call D_law_of.ok (hr.mono (by decide)) (by rfl) D_law_of.mg D_law_of.kp D_law_of.b (takes_of rfl rfl rfl rfl) (pda_own (i := 2) (pv 2) (pda_cons (pd_var (pv 4)) pda_nil))) (pka_cons (pd_call D_law_whole.ok (hr.mono (by decide)) (by rfl) D_law_whole.mg D_law_whole.kp D_law_whole.b (takes_of rfl rfl rfl rfl) (pda_own (i := 2) (pv 2) (pda_cons (pd_op op_pow (op2_I fun _ _ _ => .int _) (pd_const pe_int (fun _ => .int _)) (pd_const pe_int (fun _ => .int _))) pda_nil))) pka_nil)) (by show ¬ (9 ∈ ([] : List Nat)); decide) (by show ¬ (10 ∈ ([] : List Nat)); decide) (fun h => ps_asg (pe_tup h) (pg_tup rfl (pgs_cons (pg_name (i := 9) sc_law.nd rfl (.inr rfl)) (pgs_cons (pg_name (i := 10) sc_law.nd rfl (.inr rfl)) pgs_nil)))) (by decide))
      (pds_cons (psd_set (i := 11) (pd_call D_law_of.ok (hr.mono (by decide)) (by rfl) D_law_of.mg D_law_of.kp D_law_of.b (takes_of rfl rfl rfl rfl) (pda_own (i := 2) (pv 2) (pda_cons (pd_lst (fun h => pe_lst h) (pda_cons (pd_const pe_str (fun _ => .str (by decide +kernel))) (pda_cons (pd_const pe_str (fun _ => .str (by decide +kernel))) (pda_cons (pd_const pe_non (fun _ => .non)) (pda_cons (pd_const pe_int (fun _ => .int _)) (pda_cons (pd_const pe_bl (fun _ => .bl _)) (pda_cons (pd_tup (fun h => pe_tup h) (pda_cons (pd_var (pv 9)) pda_nil)) (pda_cons (pd_lst (fun h => pe_lst h) (pda_cons (pd_var (pv 9)) pda_nil)) (pda_cons (pd_op op_add_str op2_addS (pd_var (pv 9)) (pd_const pe_str (fun _ => .str (by decide +kernel)))) (pda_cons (pd_const pe_str (fun _ => .str (by decide +kernel))) (pda_cons (pd_const pe_str (fun _ => .str (by decide +kernel))) pda_nil))))))))))) pda_nil))) (by show ¬ (11 ∈ ([] : List Nat)); decide) sc_law.nd rfl (.inl rfl))
      (pds_cons (psd_set (i := 12) (pd_call D_law_of.ok (hr.mono (by decide)) (by rfl) D_law_of.mg D_law_of.kp D_law_of.b (takes_of rfl rfl rfl rfl) (pda_own (i := 2) (pv 2) (pda_cons (pd_lst (fun h => pe_lst h) (pda_cons (pd_const pe_non (fun _ => .non)) (pda_cons (pd_const pe_bl (fun _ => .bl _)) (pda_cons (pd_const pe_str (fun _ => .str (by decide +kernel))) (pda_cons (pd_tup (fun h => pe_tup h) (pda_cons (pd_const pe_int (fun _ => .int _)) pda_nil)) (pda_cons (pd_lst (fun h => pe_lst h) (pda_cons (pd_const pe_int (fun _ => .int _)) pda_nil)) pda_nil)))))) pda_nil))) (by show ¬ (12 ∈ ([] : List Nat)); decide) sc_law.nd rfl (.inl rfl))
      (pds_cons (psd_if (ptd_cmp (op_neD hr.units) op2_neD.op (pd_callG D_law_single_told.ok hgs (hr.mono (by decide)) (by rfl) D_law_single_told.mg D_law_single_told.kp D_law_single_told.b (takes_of rfl rfl rfl rfl) (pda_cons (pd_ix ix_list op2_ixL (pd_var (pv 6)) (pd_const pe_int (fun _ => .int _)) (fun _ _ => rfl)) (pda_cons (pd_var (pv 11)) (pda_cons (pd_var (pv 12)) pda_nil)))) (pd_lst (fun h => pe_lst h) (pda_cons (pd_const pe_str (fun _ => .str (by decide +kernel))) (pda_cons (pd_ix ix_list op2_ixL (pd_var (pv 6)) (pd_const pe_int (fun _ => .int _)) (fun _ _ => rfl)) pda_nil))) (nomark _)) (pds_one (psd_ret (pd_const pe_bl (fun _ => .bl _)))) pds_nil)
      (pds_cons (psd_for (passes_of rfl) rfl (pid_list (pd_lst (fun h => pe_lst h) (pda_cons (pd_var (pv 10)) (pda_cons (pd_var (pv 12)) pda_nil)))) (pgd_name (i := 13) (vs := [13]) (pg_name (i := 13) sc_law.nd rfl (.inl rfl)) (by show ¬ (13 ∈ ([] : List Nat)); decide) (by decide))
      (pds_one (psd_if (ptd_cmp (op_neD hr.units) op2_neD.op (pd_callG D_law_single_told.ok hgs (hr.mono (by decide)) (by rfl) D_law_single_told.mg D_law_single_told.kp D_law_single_told.b (takes_of rfl rfl rfl rfl) (pda_cons (pd_var (pv 4)) (pda_cons (pd_var (pv 11)) (pda_cons (pd_var (pv 13)) pda_nil)))) (pd_lst (fun h => pe_lst h) (pda_cons (pd_const pe_str (fun _ => .str (by decide +kernel))) (pda_cons (pd_repr hgs (units65 hr :) (by rfl) T.b_repr (by decide +kernel) (pda_cons (pd_var (pv 11)) pda_nil)) pda_nil))) (nomark _)) (pds_one (psd_ret (pd_const pe_bl (fun _ => .bl _)))) pds_nil)))
      (pds_cons (psd_if (ptd_cmp (op_neD hr.units) op2_neD.op (pd_callG D_law_single_told.ok hgs (hr.mono (by decide)) (by rfl) D_law_single_told.mg D_law_single_told.kp D_law_single_told.b (takes_of rfl rfl rfl rfl) (pda_cons (pd_var (pv 4)) (pda_cons (pd_var (pv 9)) (pda_cons (pd_var (pv 12)) pda_nil)))) (pd_lst (fun h => pe_lst h) (pda_cons (pd_const pe_str (fun _ => .str (by decide +kernel))) (pda_cons (pd_const pe_str (fun _ => .str (by decide +kernel))) pda_nil))) (nomark _)) (pds_one (psd_ret (pd_const pe_bl (fun _ => .bl _)))) pds_nil)
      (pds_cons (psd_if (ptd_cmp (op_neD hr.units) op2_neD.op (pd_callG D_law_single_told.ok hgs (hr.mono (by decide)) (by rfl) D_law_single_told.mg D_law_single_told.kp D_law_single_told.b (takes_of rfl rfl rfl rfl) (pda_cons (pd_var (pv 4)) (pda_cons (pd_var (pv 9)) (pda_cons (pd_var (pv 10)) pda_nil)))) (pd_lst (fun h => pe_lst h) (pda_cons (pd_const pe_str (fun _ => .str (by decide +kernel))) (pda_cons (pd_builtB (fun h => pe_callTy call_tuple_of (by rfl) T.b_tuple (by decide +kernel) h) cn_tuple (pda_cons (pd_lc (own := [("_law_one", 14)]) (by rfl) sc_law.nd (pid_list (pd_var (pv 4))) (blkOk_by (own := [("_law_one", 14)]) (N := ["_law_script", "_law_at", "_law_bag_here", "_law_turn", "_law_goods", "_law_counts_here", "_law_bad", "_law_wrong", "_law_kept", "_law_good", "_law_count", "_law_thing", "_law_odd", "_law_number", "_law_one"]) (sc := defScope s_law) (by decide +kernel)) (fun _ _ _ _ _ => (pgd_name (i := 14) (vs := [14]) (pg_name (i := 14) sc_law.nd rfl (.inl rfl)) (by show ¬ (14 ∈ ([] : List Nat)); decide) (by decide))) (fun _ _ _ _ _ => ptsd_nil) (fun _ _ _ _ _ => (pd_op op_mul (op2_I fun _ _ _ => .int _) (pd_var (pv 10)) (pd_builtB (fun h => pe_callTy call_int1 (by rfl) T.b_int (by decide +kernel) h) cn_intB.op (pda_cons (pd_cmp op_eq op2_eq.op (pd_var (pv 14)) (pd_var (pv 9)) (nomark _)) pda_nil)))) (by show ∀ i ∈ ([14] : List Nat), ¬ (i ∈ ([] : List Nat)); decide)) pda_nil)) pda_nil))) (nomark _)) (pds_one (psd_ret (pd_const pe_bl (fun _ => .bl _)))) pds_nil)
      (pds_cons (psd_if (ptd_not (ptd_val (pd_callG D_law_things_hold.ok hgs (hr.mono (by decide)) (by rfl) D_law_things_hold.mg D_law_things_hold.kp D_law_things_hold.b (takes_of rfl rfl rfl rfl) (pda_own (i := 2) (pv 2) (pda_cons (pd_newK (n := 2) K_Position.mkc K_Position.ok (hr.mono (by decide)) (by rfl) T.c_Position K_Position.kb0 (fun _ => .nil) (fun _ _ _ => rfl) (takes_of rfl rfl rfl rfl) (pda_cons (pd_var (pv 4)) (pda_cons (pd_var (pv 5)) pda_nil)) pkd_nil) (pda_cons (pd_var (pv 4)) (pda_cons (pd_var (pv 5)) pda_nil))))) (fun h => pt_val h))) (pds_one (psd_ret (pd_const pe_bl (fun _ => .bl _)))) pds_nil)
      (pds_one (psd_if (ptd_cmp op_ne op2_ne.op (pd_repr hgs (units65 hr :) (by rfl) T.b_repr (by decide +kernel) (pda_cons (pd_lst (fun h => pe_lst h) (pda_cons (pd_var (pv 4)) (pda_cons (pd_var (pv 5)) (pda_cons (pd_var (pv 6)) (pda_cons (pd_var (pv 7)) pda_nil))))) pda_nil)) (pd_var (pv 8)) (nomark _)) (pds_one (psd_ret (pd_const pe_bl (fun _ => .bl _)))) pds_nil))))))))))))))))))))))
      (pds_one (psd_ret (pd_const pe_bl (fun _ => .bl _))))), ?_⟩
  rintro as Qd Ed ⟨zs, rfl, k⟩
  refine DR.start (δ' := [some (.d (.ro (zs.map .int))), none, none, none, none, none, none, none, none, none, none, none, none, none, none]) rfl ?_
  walk_at "dd"
  refine ⟨by dsimp only; split <;> (try split) <;> omega, by dsimp only; split <;> (try split) <;> omega, ?_⟩
  refine DR.for_inv (fun i δ => ∃ p1 p2 p3 p4 p5 p6 p7 p8 p9 p10 p11 p12 p13 : Option DV, δ = [some (.d (.ro (zs.map .int))), p1, p2, p3, p4, p5, p6, p7, p8, p9, p10, p11, p12, p13, none]) ⟨_, _, _, _, _, _, _, _, _, _, _, _, _, rfl⟩ ?_ ?_
  · rintro i x δ N hx ⟨p1, p2, p3, p4, p5, p6, p7, p8, p9, p10, p11, p12, p13, rfl⟩ kN
    obtain ⟨rfl, hi⟩ := upto_at hx
    have hi4 : i < 4 := by
      refine Nat.lt_of_lt_of_le hi ?_
      dsimp only
      split <;> (try split) <;> omega
    refine DR.nameg ?_
    with_reducible refine DR.cut (fun δ => ∃ ys, Bg ys ∧ δ = stL zs i ys p3 p4 p5 p6 p7 p8 p9 p10 p11 p12 p13) (fun N kN => ?_) ?_
    · walk_at "dd"
      refine ⟨zs, i, rfl, by omega, fun ys hb => ?_⟩
      walk_at "dd"
      exact kN _ ⟨ys, hb, rfl⟩
    rintro δ ⟨ys, hb, rfl⟩
    unfold stL
    with_reducible refine DR.for_ ?_
    with_reducible refine DR.icut (fun xs δ => ∃ m : Nat, xs = upto 0 m ∧ δ = stL zs i ys p3 p4 p5 p6 p7 p8 p9 p10 p11 p12 p13) (fun N kN => ?_) ?_
    · walk_at "dd"
      rcases zs with _ | ⟨z0, zs⟩
      · refine .inl (eqd_f (b := true) cmp_e.1 cmp_e.2 rfl ?_)
        walk_at "dd"
        exact ⟨by decide, by decide, kN _ _ ⟨_, rfl, rfl⟩⟩
      · refine .inr ⟨_, _, .inr rfl, .inl rfl, (by simp), ?_⟩
        walk_at "dd"
        exact ⟨by decide, by decide, kN _ _ ⟨_, rfl, rfl⟩⟩
    rintro xs δ ⟨m, rfl, rfl⟩
    refine DR.for_inv (fun _ δ => ∃ (ys : List D) (p3 p4 p5 p6 p7 p8 p9 p10 p11 p12 p13 : Option DV), Bg ys ∧ δ = stL zs i ys p3 p4 p5 p6 p7 p8 p9 p10 p11 p12 p13) ⟨ys, p3, p4, p5, p6, p7, p8, p9, p10, p11, p12, p13, hb, rfl⟩ ?_ ?_
    · rintro t x δ N0 hx ⟨ys, p3, p4, p5, p6, p7, p8, p9, p10, p11, p12, p13, hb, rfl⟩ kN0
      obtain ⟨rfl, ht⟩ := upto_at hx
      unfold stL
      refine DR.nameg ?_
      with_reducible refine DR.cut (fun δ => ∃ ys gs, Bg ys ∧ Goods gs ∧ (∀ g ∈ gs, g ≠ "other") ∧ δ = stL zs i ys (nV t) (gsV gs) p5 p6 p7 p8 p9 p10 p11 p12 p13) (fun N kN => ?_) ?_
      · walk_at "dd"
        refine take hb (by decide) (by decide) fun r ys r0 r1 hb => ?_
        obtain ⟨n, rfl⟩ := Int.eq_ofNat_of_zero_le r0
        walk_at "dd"
        rw [show (1 : Int) + (n : Int) = ((n + 1 : Nat) : Int) by omega]
        refine names hb (by omega) (by omega) fun gs ys hg ho hb => ?_
        refine ⟨?_, ?_⟩
        · walk_at "dd"
          exact kN _ ⟨ys, gs, hb, hg, ho, rfl⟩
        · walk_at "dd"
          exact kN _ ⟨ys, gs, hb, hg, ho, rfl⟩
      rintro δ ⟨ys, gs, hb, hg, ho, rfl⟩
      unfold stL
      have g5 := hg.2.2.1
      have g1 := hg.2.1
      with_reducible refine DR.cut (fun δ => ∃ ys js, Bg ys ∧ js.length = gs.length ∧ Wid js ∧ δ = stL zs i ys (nV t) (gsV gs) (jsV js) p6 p7 p8 p9 p10 p11 p12 p13) (fun N kN => ?_) ?_
      · walk_at "dd"
        refine ⟨ys, gs.length, 10 ^ 18, by rw [List.length_map]; rfl, hb, g5, by decide, by decide, fun js ys hl hw hb => ?_⟩
        walk_at "dd"
        exact kN _ ⟨ys, js, hb, hl, wid18 hw (by decide), rfl⟩
      rintro δ ⟨ys, js, hb, hl, hw, rfl⟩
      unfold stL
      with_reducible refine DR.cut (fun δ => ∃ ys x v y u, Bg ys ∧ BadG x v ∧ BadC gs.length y u ∧ δ = stL zs i ys (nV t) (gsV gs) (jsV js) (some (.d (.lst [x, .str v]))) (some (.d (.lst [y, .str u]))) p8 p9 p10 p11 p12 p13) (fun N kN => ?_) ?_
      · walk_at "dd"
        refine ⟨ys, gs, rfl, hb, hg, fun x v ys hx hb => ?_⟩
        walk_at "dd"
        refine ⟨ys, js, rfl, hb, by omega, by omega, hw, fun y u ys hy hb => ?_⟩
        walk_at "dd"
        exact kN _ ⟨ys, x, v, y, u, hb, hx, hl ▸ hy, rfl⟩
      rintro δ ⟨ys, x, v, y, u, hb, hx, hy, rfl⟩
      unfold stL
      have gag : GA (.lst (gs.map .str)) := ga_row (.inl rfl) hg
      have caj : CA (.lst (js.map .int)) := ca_row (.inl rfl) (by omega)
      have po : Po gs js := ⟨hg, hl⟩
      have sall : Show (.lst [.lst (gs.map .str), .lst (js.map .int), .lst [x, .str v], .lst [y, .str u]]) := sz4
        ((sz_txs (.inl rfl) (gl20 hg) (by omega)).le (by decide) (by decide)) (((sz_lst (szi hw) (m := 5) (by rw [List.length_map]; omega))).le (by decide) (by decide)) (sz2 hx.sz (goodsW_len hx.w)) (sz2 hy.sz (cntW_len hy.w))
      have nog : ∀ hs, RowOf x (hs.map .str) → Goods hs → False := fun hs h1 h2 => by have := hx.w; rw [goodsW_ok h1 h2] at this; cases this
      have nov : ∀ w, goodsW (.lst (gs.map .str)) = some w → False := fun w h => by rw [goodsW_ok (.inl rfl) hg] at h; cases h
      have eqv : ∀ w, goodsW x = some w → w = v := fun w h => by have := hx.w; rw [h] at this; exact Option.some.inj this
      have equ : ∀ w, cntW gs.length y = some w → w = u := fun w h => by have := hy.w; rw [h] at this; exact Option.some.inj this
      have samg : ∀ hs, RowOf (.lst (gs.map .str)) (hs.map .str) → hs = gs := fun hs h => (row_same (x := .lst (gs.map .str)) (.inl rfl) h).symm
      have samj : ∀ ks, RowOf (.lst (js.map .int)) (ks.map .int) → ks = js := fun ks h => (ints_same (y := .lst (js.map .int)) (.inl rfl) h).symm
      with_reducible refine DR.cut (fun δ => δ = stL zs i ys (nV t) (gsV gs) (jsV js) (some (.d (.lst [x, .str v]))) (some (.d (.lst [y, .str u]))) (some (.d (.str (D.lst [.lst (gs.map .str), .lst (js.map .int), .lst [x, .str v], .lst [y, .str u]]).py.shown))) p9 p10 p11 p12 p13) (fun N kN => ?_) ?_
      · walk_at "dd"
        refine ⟨sall, ?_⟩
        walk_at "dd"
        exact kN _ rfl
      rintro δ rfl
      unfold stL
      with_reducible refine DR.cut (fun δ => δ = stL zs i ys (nV t) (gsV gs) (jsV js) (some (.d (.lst [x, .str v]))) (some (.d (.lst [y, .str u]))) (some (.d (.str (D.lst [.lst (gs.map .str), .lst (js.map .int), .lst [x, .str v], .lst [y, .str u]]).py.shown))) p9 p10 p11 p12 p13) (fun N kN => ?_) ?_
      · walk_at "dd"
        refine ⟨_, _, rfl, gag, caj, fun hs ks h1 h2 _ => ?_, fun w h => (nov w h).elim, fun hs h1 _ w h => ?_⟩
        · obtain rfl := samg hs h1
          obtain rfl := samj ks h2
          walk_at "dd"
          refine ⟨_, _, rfl, .inl rfl, ?_⟩
          walk_at "dd"
          refine ne_self (cmp2 dpi) ?_
          walk_at "dd"
          exact kN _ rfl
        · have h : cntW hs.length (.lst (js.map .int)) = some w := h
          rw [samg hs h1, ← hl, cntW_ok (js := js) (y := .lst (js.map .int)) (.inl rfl)] at h
          cases h
      rintro δ rfl
      unfold stL
      with_reducible refine DR.cut (fun δ => δ = stL zs i ys (nV t) (gsV gs) (jsV js) (some (.d (.lst [x, .str v]))) (some (.d (.lst [y, .str u]))) (some (.d (.str (D.lst [.lst (gs.map .str), .lst (js.map .int), .lst [x, .str v], .lst [y, .str u]]).py.shown))) p9 p10 p11 p12 p13) (fun N kN => ?_) ?_
      · walk_at "dd"
        refine ⟨_, _, .inl rfl, rfl, ?_⟩
        walk_at "dd"
        refine ⟨_, _, rfl, gag, hy.ca, fun hs ks h1 h2 hp => ?_, fun w h => (nov w h).elim, fun hs h1 _ w h => ?_⟩
        · have := hy.w
          rw [← samg hs h1, ← hp.2] at this
          rw [cntW_ok (js := ks) (y := y) h2] at this
          cases this
        · rw [samg hs h1] at h
          obtain rfl := equ w h
          walk_at "dd"
          refine ⟨_, _, .inl rfl, rfl, ?_⟩
          walk_at "dd"
          refine ne_self (cmp2 dps) ?_
          walk_at "dd"
          exact kN _ rfl
      rintro δ rfl
      unfold stL
      with_reducible refine DR.cut (fun δ => δ = stL zs i ys (nV t) (gsV gs) (jsV js) (some (.d (.lst [x, .str v]))) (some (.d (.lst [y, .str u]))) (some (.d (.str (D.lst [.lst (gs.map .str), .lst (js.map .int), .lst [x, .str v], .lst [y, .str u]]).py.shown))) p9 p10 p11 p12 p13) (fun N kN => ?_) ?_
      · walk_at "dd"
        refine ⟨_, _, .inl rfl, rfl, ?_⟩
        walk_at "dd"
        refine ⟨_, _, .inl rfl, rfl, ?_⟩
        walk_at "dd"
        refine ⟨_, _, rfl, hx.ga, hy.ca, fun hs _ h1 _ hp => (nog hs h1 hp.1).elim, fun w h => ?_, fun hs h1 h2 => (nog hs h1 h2).elim⟩
        obtain rfl := eqv w h
        walk_at "dd"
        refine ⟨_, _, .inl rfl, rfl, ?_⟩
        walk_at "dd"
        refine ne_self (cmp2 dps) ?_
        walk_at "dd"
        refine ⟨_, _, .inl rfl, rfl, ?_⟩
        walk_at "dd"
        refine ⟨_, _, rfl, hx.ga, caj, fun hs _ h1 _ hp => (nog hs h1 hp.1).elim, fun w' h' => ?_, fun hs h1 h2 => (nog hs h1 h2).elim⟩
        obtain rfl := eqv w' h'
        walk_at "dd"
        refine ⟨_, _, .inl rfl, rfl, ?_⟩
        walk_at "dd"
        refine ne_self (cmp2 dps) ?_
        walk_at "dd"
        exact kN _ rfl
      rintro δ rfl
      unfold stL
      with_reducible refine DR.cut (fun δ => δ = stL zs i ys (nV t) (gsV gs) (jsV js) (some (.d (.lst [x, .str v]))) (some (.d (.lst [y, .str u]))) (some (.d (.str (D.lst [.lst (gs.map .str), .lst (js.map .int), .lst [x, .str v], .lst [y, .str u]]).py.shown))) p9 p10 p11 p12 p13) (fun N kN => ?_) ?_
      · walk_at "dd"
        refine ⟨_, _, .inl rfl, rfl, ?_⟩
        walk_at "dd"
        refine ⟨_, rfl, hx.ga, fun hs h1 h2 => (nog hs h1 h2).elim, fun w h => ?_⟩
        obtain rfl := eqv w h
        walk_at "dd"
        refine ⟨_, _, .inl rfl, rfl, ?_⟩
        walk_at "dd"
        refine ne_self (cmp2 dps) ?_
        walk_at "dd"
        refine ⟨_, rfl, gag, fun hs h1 _ => ?_, fun w h => (nov w h).elim⟩
        obtain rfl := samg hs h1
        walk_at "dd"
        refine ⟨(fun z => nomatch z), by rw [List.length_map]; omega, by rw [List.length_map]; omega, by show 1 ≤ 1000; decide, ?_⟩
        walk_at "dd"
        rw [show (((hs.map D.str).length : Nat) : Int).toNat = hs.length by rw [List.length_map]; rfl, show (DV.d (D.int 0)).toD = D.int 0 from rfl, rep0]
        refine ne_self (cmp2 dpi) ?_
        walk_at "dd"
        exact kN _ rfl
      rintro δ rfl
      unfold stL
      with_reducible refine DR.cut (fun δ => ∃ ys g n, g ∈ gs ∧ -(10 ^ 18) ≤ n ∧ n ≤ 10 ^ 18 ∧ Bg ys ∧ δ = stL zs i ys (nV t) (gsV gs) (jsV js) (some (.d (.lst [x, .str v]))) (some (.d (.lst [y, .str u]))) (some (.d (.str (D.lst [.lst (gs.map .str), .lst (js.map .int), .lst [x, .str v], .lst [y, .str u]]).py.shown))) (some (.d (.str g))) (nV n) p11 p12 p13) (fun N kN => ?_) ?_
      · walk_at "dd"
        refine ofs rfl hb (fun e => by rw [e] at g1; exact absurd g1 (by decide)) (by omega) fun g ys hgm hb => ?_
        walk_at "dd"
        refine whl hb (by decide) (by decide) fun n ys n0 n1 hb => ?_
        walk_at "dd"
        exact kN _ ⟨ys, g, n, hgm, n0, n1, hb, rfl⟩
      rintro δ ⟨ys, g, n, hgm, n0, n1, hb, rfl⟩
      unfold stL
      with_reducible refine DR.cut (fun δ => ∃ ys a, a ∈ oddT g ∧ Bg ys ∧ δ = stL zs i ys (nV t) (gsV gs) (jsV js) (some (.d (.lst [x, .str v]))) (some (.d (.lst [y, .str u]))) (some (.d (.str (D.lst [.lst (gs.map .str), .lst (js.map .int), .lst [x, .str v], .lst [y, .str u]]).py.shown))) (some (.d (.str g))) (nV n) (some (.d a)) p12 p13) (fun N kN => ?_) ?_
      · walk_at "dd"
        refine ⟨Nat.le_trans (show g.length + 1 ≤ 20 by have := (hg.2.2.2 g hgm).2.2.1; omega) (by decide), ?_⟩
        walk_at "dd"
        refine ⟨[_, _, _, _, _, _, _, _, _, _], rfl, Nat.le_trans (show 10 ≤ 20 by decide) (by decide), ?_⟩
        walk_at "dd"
        refine of (xs := oddT g) rfl hb (show 0 < 10 by decide) (show 10 < 1000 by decide) fun a ys ha hb => ?_
        walk_at "dd"
        exact kN _ ⟨ys, a, ha, hb, rfl⟩
      rintro δ ⟨ys, a, ha, hb, rfl⟩
      unfold stL
      obtain ⟨sa, na⟩ := thing_no hg ho hgm a ha
      with_reducible refine DR.cut (fun δ => ∃ ys o, Odd o ∧ Bg ys ∧ δ = stL zs i ys (nV t) (gsV gs) (jsV js) (some (.d (.lst [x, .str v]))) (some (.d (.lst [y, .str u]))) (some (.d (.str (D.lst [.lst (gs.map .str), .lst (js.map .int), .lst [x, .str v], .lst [y, .str u]]).py.shown))) (some (.d (.str g))) (nV n) (some (.d a)) (some (.d o)) p13) (fun N kN => ?_) ?_
      · walk_at "dd"
        refine ⟨by show 5 ≤ sizeLine; decide, ?_⟩
        walk_at "dd"
        refine of (xs := [.non, .bl true, .str "1", .tup [.int 1], .lst [.int 1]]) rfl hb (by decide) (by decide) fun o ys hom hb => ?_
        walk_at "dd"
        refine kN _ ⟨ys, o, ?_, hb, rfl⟩
        have i1 : ∀ e ∈ ([.int 1] : List D), Sz 20 1 e := fun e he => by rw [List.mem_singleton.mp he]; exact sz_int (by decide)
        simp only [List.mem_cons, List.not_mem_nil, or_false] at hom
        rcases hom with rfl | rfl | rfl | rfl | rfl
        · exact odd_all _ (by simp [odds])
        · exact odd_all _ (by simp [odds])
        · exact odd_all _ (by simp [odds])
        · exact ⟨⟨_, .tup _⟩, rfl, (sz_tup i1 (m := 1) (Nat.le_refl 1)).le (by decide) (by decide)⟩
        · exact ⟨⟨_, .lst _⟩, rfl, (sz_lst i1 (m := 1) (Nat.le_refl 1)).le (by decide) (by decide)⟩
      rintro δ ⟨ys, o, oo, hb, rfl⟩
      unfold stL
      with_reducible refine DR.cut (fun δ => δ = stL zs i ys (nV t) (gsV gs) (jsV js) (some (.d (.lst [x, .str v]))) (some (.d (.lst [y, .str u]))) (some (.d (.str (D.lst [.lst (gs.map .str), .lst (js.map .int), .lst [x, .str v], .lst [y, .str u]]).py.shown))) (some (.d (.str g))) (nV n) (some (.d a)) (some (.d o)) p13) (fun N kN => ?_) ?_
      · walk_at "dd"
        refine ⟨_, _, .inl rfl, rfl, ?_⟩
        walk_at "dd"
        refine ⟨_, _, _, rfl, hx.ga, sa.1, sa, oo.pl, fun w h => ?_, fun hs h1 h2 => (nog hs h1 h2).elim⟩
        obtain rfl := eqv w h
        walk_at "dd"
        refine ⟨_, _, .inl rfl, rfl, ?_⟩
        walk_at "dd"
        refine ne_self (cmp2 dps) ?_
        walk_at "dd"
        exact kN _ rfl
      rintro δ rfl
      unfold stL
      with_reducible refine DR.cut (fun δ => ∃ p13 : Option DV, δ = stL zs i ys (nV t) (gsV gs) (jsV js) (some (.d (.lst [x, .str v]))) (some (.d (.lst [y, .str u]))) (some (.d (.str (D.lst [.lst (gs.map .str), .lst (js.map .int), .lst [x, .str v], .lst [y, .str u]]).py.shown))) (some (.d (.str g))) (nV n) (some (.d a)) (some (.d o)) p13) (fun N kN => ?_) ?_
      · walk_at "dd"
        refine DR.for_inv (fun _ δ => ∃ p13 : Option DV, δ = stL zs i ys (nV t) (gsV gs) (jsV js) (some (.d (.lst [x, .str v]))) (some (.d (.lst [y, .str u]))) (some (.d (.str (D.lst [.lst (gs.map .str), .lst (js.map .int), .lst [x, .str v], .lst [y, .str u]]).py.shown))) (some (.d (.str g))) (nV n) (some (.d a)) (some (.d o)) p13) ⟨_, rfl⟩ ?_ ?_
        · rintro q b δ N2 hxq ⟨p13, rfl⟩ kN2
          unfold stL
          have hbp : ∃ tt, Pl b tt := by
            have hm := List.mem_of_getElem? hxq
            simp only [List.mem_cons, List.not_mem_nil, or_false] at hm
            rcases hm with rfl | rfl
            · exact ⟨_, .int _⟩
            · exact oo.pl
          walk_at "dd"
          refine ⟨_, _, _, rfl, gag, sa.1, sa, hbp, fun w h => (nov w h).elim, fun hs h1 h2 => ⟨fun _ => ?_, fun g' hg' e => ?_⟩⟩
          · walk_at "dd"
            refine ⟨sa, ?_⟩
            walk_at "dd"
            refine ne_self (cmp2 dps) ?_
            walk_at "dd"
            exact kN2 _ ⟨_, rfl⟩
          · rw [samg hs h1] at hg'
            exact absurd e (na g' hg')
        · rintro δ ⟨p13, rfl⟩
          exact kN _ ⟨p13, rfl⟩
      rintro δ ⟨p13, rfl⟩
      unfold stL
      with_reducible refine DR.cut (fun δ => δ = stL zs i ys (nV t) (gsV gs) (jsV js) (some (.d (.lst [x, .str v]))) (some (.d (.lst [y, .str u]))) (some (.d (.str (D.lst [.lst (gs.map .str), .lst (js.map .int), .lst [x, .str v], .lst [y, .str u]]).py.shown))) (some (.d (.str g))) (nV n) (some (.d a)) (some (.d o)) p13) (fun N kN => ?_) ?_
      · walk_at "dd"
        refine ⟨_, _, _, rfl, gag, dp_str.cmp, (sz_str (m := 12) (hg.2.2.2 g hgm).2.2.1).show, oo.pl, fun w h => (nov w h).elim, fun hs h1 h2 => ⟨fun no => absurd rfl (no g (samg hs h1 ▸ hgm)), fun g' hg' e => ⟨fun j hj => ?_, fun _ => ?_⟩⟩⟩
        · have := oo.no
          rw [show o = .int j from hj] at this
          cases this
        · walk_at "dd"
          refine ne_self (cmp2 dps) ?_
          walk_at "dd"
          exact kN _ rfl
      rintro δ rfl
      unfold stL
      with_reducible refine DR.cut (fun δ => δ = stL zs i ys (nV t) (gsV gs) (jsV js) (some (.d (.lst [x, .str v]))) (some (.d (.lst [y, .str u]))) (some (.d (.str (D.lst [.lst (gs.map .str), .lst (js.map .int), .lst [x, .str v], .lst [y, .str u]]).py.shown))) (some (.d (.str g))) (nV n) (some (.d a)) (some (.d o)) p13) (fun N kN => ?_) ?_
      · walk_at "dd"
        refine ⟨_, _, _, rfl, gag, dp_str.cmp, (sz_str (m := 12) (hg.2.2.2 g hgm).2.2.1).show, ⟨_, .int n⟩, fun w h => (nov w h).elim, fun hs h1 h2 => ⟨fun no => absurd rfl (no g (samg hs h1 ▸ hgm)), fun g' hg' e => ⟨fun j hj => ?_, fun q => nomatch q⟩⟩⟩
        obtain rfl := samg hs h1
        injection e with e
        injection hj with hj
        subst e hj
        walk_at "dd"
        refine DR.lc_mapM (l := hs) (r := D.str) (fun b => D.int (if b = g then n else 0)) (fun b acc N3 hbm hl3 kN3 => ?_) ?_
        · walk_at "dd"
          have al : acc.length < sizeLine := Nat.lt_of_lt_of_le hl3 (Nat.le_trans g5 (show 5 ≤ sizeLine by decide))
          have e : n * (if (if false = true then !decide (V.str b = V.str g) else decide (V.str b = V.str g)) = true then (1 : Int) else 0) = if b = g then n else 0 := by by_cases c : b = g <;> simp [c]
          rw [← e] at kN3
          exact ⟨al, kN3⟩
        rw [show (hs.map fun b => D.int (if b = g then n else 0)) = (hs.map fun b => if b = g then n else 0).map D.int by rw [List.map_map]; rfl]
        walk_at "dd"
        refine ⟨_, _, rfl, .inl rfl, ?_⟩
        walk_at "dd"
        refine ne_self (cmp2 dpi) ?_
        walk_at "dd"
        exact kN _ rfl
      rintro δ rfl
      unfold stL
      with_reducible refine DR.cut (fun δ => ∃ ys, Bg ys ∧ δ = stL zs i ys (nV t) (gsV gs) (jsV js) (some (.d (.lst [x, .str v]))) (some (.d (.lst [y, .str u]))) (some (.d (.str (D.lst [.lst (gs.map .str), .lst (js.map .int), .lst [x, .str v], .lst [y, .str u]]).py.shown))) (some (.d (.str g))) (nV n) (some (.d a)) (some (.d o)) p13) (fun N kN => ?_) ?_
      · walk_at "dd"
        refine ⟨rfl, ?_⟩
        walk_at "dd"
        refine ⟨rfl, ?_⟩
        refine init_ok (.inl rfl) (.inl rfl) po ?_
        refine ⟨rfl, _, _, rfl, ?_⟩
        walk_at "dd"
        refine ⟨ys, gs, js, rfl, hb, po, ho, hw, fun ys hb => ?_⟩
        walk_at "dd"
        exact kN _ ⟨ys, hb, rfl⟩
      rintro δ ⟨ys, hb, rfl⟩
      unfold stL
      walk_at "dd"
      refine ⟨sall, ?_⟩
      walk_at "dd"
      refine DR.splitN (fun c => ?_) (fun c => absurd rfl c)
      walk_at "dd"
      exact kN0 _ ⟨ys, _, _, _, _, _, _, _, _, _, _, _, hb, rfl⟩
    · rintro δ ⟨ys, p3, p4, p5, p6, p7, p8, p9, p10, p11, p12, p13, hb, rfl⟩
      exact kN _ ⟨_, _, _, _, _, _, _, _, _, _, _, _, _, rfl⟩
  · rintro δ ⟨p1, p2, p3, p4, p5, p6, p7, p8, p9, p10, p11, p12, p13, rfl⟩
    walk_at "dd"
    exact k
end
end KT

set_option Elab.async false
set_option linter.all false
set_option maxRecDepth 100000
set_option maxHeartbeats 0
set_option pp.deepTerms false
set_option pp.deepTerms.threshold 8

namespace KT
open PySem PySem.Spec PyProof.Rows L2 DL
theorem reps_ints {K : PySem.W.Frag} {F : Hp} : ∀ {ns : List Int}, RepL K F (ns.map V.int) (ns.map D.int)
  | [] => .nil
  | _ :: _ => .cons (.int _) reps_ints
theorem law_in {K : PySem.W.Frag} {H : Hp} {a : Addr} {ns : List Int} (h : SqL K H a (ns.map V.int)) : spOf K sdLaw [.ref a] H (fun v _ => v = .bl true) fun _ _ _ => False := by
  refine ⟨H, [.d (.ro (ns.map .int))], [], fun x _ => x = .d (.bl true), fun _ _ => False, fun p u e => e, .d (.ro h reps_ints) .nil, ⟨ns, rfl, rfl⟩, fun v x os F' H' q P r => ?_, fun _ _ _ _ _ _ z => z.elim⟩
  subst q
  replace r : Rep K F' v (.bl true) := r
  cases r
  rfl
theorem cx_none {P : Program} {w : World} {H : Hp} {s s' : Shared} {e : Value} (h : L2.CX P w [] H s (fun _ _ _ => False) e s') : False := by
  obtain ⟨_, _, _, _, _, _, _, _, _, _, _, _, z⟩ := h
  exact z
theorem kit_own {K : PySem.W.Frag} {C : Addr} : PySem.W.kitOne K (.ref C) (.ref C) = some true := by
  unfold PySem.W.kitOne
  exact if_pos (beq_iff_eq.mpr rfl)
theorem kit_ref2 {K : PySem.W.Frag} {B M : Addr} {r : Bool} (ne : B ≠ M) (ic : PySem.W.isClsIn K M = true) (ty : PySem.W.typeIn K (.ref M) = some (.type "type")) (s : PySem.W.subIn K (.ref B) (.ref M) = some r) : PySem.W.kitOne K (.ref B) (.ref M) = some r := by
  have ic' : (PySem.W.clsIn K M).isSome = true := ic
  unfold PySem.W.kitOne
  rw [if_neg (by simp [ne])]
  show (if ((PySem.W.clsIn K M).isSome && PySem.W.typeIn K (.ref M) == some (.type "type")) = true then PySem.W.subIn K (.ref B) (.ref M) else none) = _
  rw [if_pos (by rw [ic', ty]; simp)]
  exact s
theorem kit_ref3 {K : PySem.W.Frag} {B M : Addr} (ic : PySem.W.isClsIn K M = true) (ty : PySem.W.typeIn K (.ref M) = some (.type "type")) (s : PySem.W.subIn K (.ref B) (.ref M) = some true) : PySem.W.kitOne K (.ref B) (.ref M) = some true := by
  by_cases ne : B = M
  · subst ne
    unfold PySem.W.kitOne
    simp
  · exact kit_ref2 ne ic ty s
theorem exm_ref {K : PySem.W.Frag} {B M : Addr} {r : Bool} (ex : PySem.W.subIn K (.ref M) (.type "BaseException") = some true) (ic : PySem.W.isClsIn K M = true) (ty : PySem.W.typeIn K (.ref M) = some (.type "type")) (s : PySem.W.subIn K (.ref B) (.ref M) = some r) : PySem.W.exmOne K (.ref B) (.ref M) = some r := by
  have ic' : (PySem.W.clsIn K M).isSome = true := ic
  unfold PySem.W.exmOne
  rw [if_pos (by rw [ex]; rfl)]
  show (if ((PySem.W.clsIn K M).isSome && PySem.W.typeIn K (.ref M) == some (.type "type")) = true then PySem.W.subIn K (.ref B) (.ref M) else none) = _
  rw [if_pos (by rw [ic', ty]; simp)]
  exact s
theorem fundI {K : PySem.W.Frag} {x qual : Str} {st : Stmt} {f T : Addr} {oc c2 : Value} {od an d2 : Option Addr} {osl s2 : Array (Option Value)} {kV doc pm cdv ct : Value} {i : Int} {t : Tok} {n : Nat} (l : K.lookup f = some ⟨oc, od, .func (PySem.W.fnOf x qual (defArgs st) (defBody st) (defScope st) (.ref T) kV doc pm an cdv ct), osl⟩)
    (c : PySem.W.codeIn K cdv qual = true) (k : PySem.W.keepIn K (.ref f) = true) (d : K.lookup T = some ⟨c2, d2, .seq #[.int i t] n, s2⟩) : FunD K x qual (defArgs st) (defBody st) (defScope st) [.int i] [] f (PySem.W.fnOf x qual (defArgs st) (defBody st) (defScope st) (.ref T) kV doc pm an cdv ct) :=
  ⟨⟨oc, od, _, _, doc, pm, an, cdv, ct, osl, rfl, l, c, .inr ⟨by simp, T, _, [.int i t], n, rfl, d, rfl, .cons ⟨_, rfl⟩ .nil⟩, .inl rfl⟩, k⟩
theorem kit_ty {K : PySem.W.Frag} {B : Addr} {n : String} {r : Bool} (km : PySem.W.kitMeta n = true) (s : PySem.W.subIn K (.ref B) (.type n) = some r) : PySem.W.kitOne K (.ref B) (.type n) = some r := by
  unfold PySem.W.kitOne
  rw [if_neg (by simp)]
  show (if PySem.W.kitMeta n = true then PySem.W.subIn K (.ref B) (.type n) else none) = _
  rw [if_pos km]
  exact s
theorem vals_app {vs ws : List V} {us xs : List Value} (h : Vals vs us) (g : Vals ws xs) : Vals (vs ++ ws) (us ++ xs) := by
  induction h with
  | nil => exact g
  | cons r _ ih => exact .cons r ih
theorem kb_of {K : PySem.W.Frag} {fd : FuncData} {ps : List Str} {n : Nat} (b : Binds K fd ps []) (hn : n = ps.length) : KBn K fd ps n [] (fun us ws => us ++ ws ++ []) (fun vs zs => vs ++ zs ++ []) where
  to := fun s us ws X l1 l2 => by
    cases ws with
    | cons w ws => cases l2
    | nil =>
      have := b s us X (by rw [List.append_nil, l1, hn])
      simpa using this
  rel := fun r1 r2 => vals_app (vals_app r1 r2) .nil
theorem bindsS0 {K : PySem.W.Frag} {f : Addr} {fd : FuncData} (F : FunD K "single" "Position.single" (defArgs s_Position_single) (defBody s_Position_single) (defScope s_Position_single) [.int 1] [] f fd) : Binds K fd ["cls", "goods", "good", "count"] [] := by
  obtain ⟨ds, h, b⟩ := F.binds1 (ps := ["cls", "goods", "good", "count"]) 4 1 (by simp) rfl (fun T kV doc pm an cdv ct us its l1 l2 => match us, its, l1, l2 with
    | [_, _, _, _], [_], _, _ => ⟨_, rfl, rfl⟩)
  cases h
  exact b
theorem bindsS1 {K : PySem.W.Frag} {f : Addr} {fd : FuncData} (F : FunD K "single" "Position.single" (defArgs s_Position_single) (defBody s_Position_single) (defScope s_Position_single) [.int 1] [] f fd) : ∃ ds, Vals [.int 1] ds ∧ Binds K fd ["cls", "goods", "good", "count"] ds :=
  F.binds1 (ps := ["cls", "goods", "good", "count"]) 3 0 (by simp) rfl (fun T kV doc pm an cdv ct us its l1 l2 => match us, its, l1, l2 with
    | [_, _, _], [_], _, _ => ⟨_, rfl, rfl⟩)
theorem kbS {K : PySem.W.Frag} {f : Addr} {fd : FuncData} (F : FunD K "single" "Position.single" (defArgs s_Position_single) (defBody s_Position_single) (defScope s_Position_single) [.int 1] [] f fd) : ∃ its : List Value, KBn K fd ["cls", "goods", "good", "count"] 3 ["count"] (fun us ws => us ++ ws ++ []) (fun vs zs => vs ++ zs ++ []) :=
  F.kbindsD 3 ["count"] (fun a d z => a ++ z ++ []) (by simp) (fun r1 r2 r3 => vals_app (vals_app r1 r3) .nil) (fun T kV doc pm an cdv ct us its ws l1 l2 l3 => match us, its, ws, l1, l2, l3 with
    | [_, _, _], [_], [_], _, _, _ => ⟨_, rfl, rfl⟩)
theorem kit_cl {K : PySem.W.Frag} {n : String} {M : Addr} {r : Bool} (ic : PySem.W.isClsIn K M = true) (ty : PySem.W.typeIn K (.ref M) = some (.type "type")) (s : PySem.W.subIn K (.type n) (.ref M) = some r) : PySem.W.kitOne K (.type n) (.ref M) = some r := by
  have ic' : (PySem.W.clsIn K M).isSome = true := ic
  unfold PySem.W.kitOne
  rw [if_neg (by simp)]
  show (if ((PySem.W.clsIn K M).isSome && PySem.W.typeIn K (.ref M) == some (.type "type")) = true then PySem.W.subIn K (.type n) (.ref M) else none) = _
  rw [if_pos (by rw [ic', ty]; simp)]
  exact s
theorem nf_ty {K : PySem.W.Frag} {n : String} {C : Addr} (s : PySem.W.subIn K (.type n) (.ref C) = some false) : PySem.W.notFirst K C (.type n) = true := by
  unfold PySem.W.notFirst
  rw [s]
  simp
end KT

set_option Elab.async false
set_option linter.all false
set_option maxRecDepth 100000
set_option maxHeartbeats 0
set_option pp.deepTerms false
set_option pp.deepTerms.threshold 8

namespace KT
open PySem PySem.Spec PyProof.Rows L2 DL
theorem ns_ok {K : PySem.W.Frag} {N : Addr} {c : Value} {d : Option Addr} {es : Array DictEntry} {n : Nat} {sl : Array (Option Value)} (l : K.lookup N = some ⟨c, d, .dict es n, sl⟩) (q : (es.toList.all fun e => match e.key with | .str _ _ => true | _ => false) = true) : PySem.W.nsOkIn K N = true := by
  unfold PySem.W.nsOkIn
  rw [l]
  show (es.all fun e => match e.key with | .str _ _ => true | _ => false) = true
  rw [← Array.all_toList]
  exact q
theorem fn_of_ty {K : PySem.W.Frag} {f : Addr} (t : PySem.W.typeIn K (.ref f) = some (.type "function")) : ∃ of, K.lookup f = some of ∧ of.cls = .type "function" := by
  obtain ⟨o, ho, e⟩ := Option.map_eq_some_iff.mp (show (K.lookup f).map (·.cls) = some (.type "function") from t)
  exact ⟨o, ho, e⟩
theorem all_mk {l : PySem.W.OpenLaw} {w : World} {K : PySem.W.Frag} {h : Heap} {mg : Str → Option Value} {fa : Addr} (X : K.In h) (G : h.Ns mainGlobals mg) (hfa : mg "law" = some (.ref fa))
    {C f_init p_flat f_flat p_single f_single dT_single f_worth f_loss f_getitem ME BR BG NBG BP NBP NA NNA f_xiBG f_xiBP f_xiNA f_is_name f_is_sequence f_is_integer f_is_row f_is_number_row f_checked_goods f_law_bag f_law_take f_law_of f_law_names f_law_far f_law_whole f_law_counts f_law_told f_law_single_told f_law_flat_told f_law_no_asset f_law_no_prices f_law_bad_goods f_law_bad_counts f_law_things_hold f_law : Addr} {r_flat : List Value} {r_single : List Value} {oc_init : Value} {od_init : Option Addr} {an_init : Option Addr} {sl_init : Array (Option Value)} {kV_init : Value} {dc_init : Value} {pm_init : Value} {cd_init : Value} {ct_init : Value} {oc_flat : Value} {od_flat : Option Addr} {an_flat : Option Addr} {sl_flat : Array (Option Value)} {kV_flat : Value} {dc_flat : Value} {pm_flat : Value} {cd_flat : Value} {ct_flat : Value} {oc_single : Value} {od_single : Option Addr} {an_single : Option Addr} {sl_single : Array (Option Value)} {kV_single : Value} {dc_single : Value} {pm_single : Value} {cd_single : Value} {ct_single : Value} {c2_single : Value} {d2_single : Option Addr} {s2_single : Array (Option Value)} {tk_single : Tok} {n2_single : Nat} {oc_worth : Value} {od_worth : Option Addr} {an_worth : Option Addr} {sl_worth : Array (Option Value)} {kV_worth : Value} {dc_worth : Value} {pm_worth : Value} {cd_worth : Value} {ct_worth : Value} {oc_loss : Value} {od_loss : Option Addr} {an_loss : Option Addr} {sl_loss : Array (Option Value)} {kV_loss : Value} {dc_loss : Value} {pm_loss : Value} {cd_loss : Value} {ct_loss : Value} {oc_getitem : Value} {od_getitem : Option Addr} {an_getitem : Option Addr} {sl_getitem : Array (Option Value)} {kV_getitem : Value} {dc_getitem : Value} {pm_getitem : Value} {cd_getitem : Value} {ct_getitem : Value} {nmBG : Str} {qnBG : Str} {bsBG : List Value} {bmBG : List Value} {snBG : List Str} {subBG : List Value} {abBG : Bool} {colBG : Option Bool} {ddBG : Option Addr} {i0BG : Option Value} {i1BG : Option Value} {i2BG : Option Value} {i3BG : Option Value} {i5BG : Option Value} {nmBP : Str} {qnBP : Str} {bsBP : List Value} {bmBP : List Value} {snBP : List Str} {subBP : List Value} {abBP : Bool} {colBP : Option Bool} {ddBP : Option Addr} {i0BP : Option Value} {i1BP : Option Value} {i2BP : Option Value} {i3BP : Option Value} {i5BP : Option Value} {nmNA : Str} {qnNA : Str} {bsNA : List Value} {bmNA : List Value} {snNA : List Str} {subNA : List Value} {abNA : Bool} {colNA : Option Bool} {ddNA : Option Addr} {i0NA : Option Value} {i1NA : Option Value} {i2NA : Option Value} {i3NA : Option Value} {i5NA : Option Value} {oc_xiBG : Value} {od_xiBG : Option Addr} {an_xiBG : Option Addr} {sl_xiBG : Array (Option Value)} {kV_xiBG : Value} {dc_xiBG : Value} {pm_xiBG : Value} {cd_xiBG : Value} {ct_xiBG : Value} {oc_xiBP : Value} {od_xiBP : Option Addr} {an_xiBP : Option Addr} {sl_xiBP : Array (Option Value)} {kV_xiBP : Value} {dc_xiBP : Value} {pm_xiBP : Value} {cd_xiBP : Value} {ct_xiBP : Value} {oc_xiNA : Value} {od_xiNA : Option Addr} {an_xiNA : Option Addr} {sl_xiNA : Array (Option Value)} {kV_xiNA : Value} {dc_xiNA : Value} {pm_xiNA : Value} {cd_xiNA : Value} {ct_xiNA : Value} {oc_is_name : Value} {od_is_name : Option Addr} {an_is_name : Option Addr} {sl_is_name : Array (Option Value)} {kV_is_name : Value} {dc_is_name : Value} {pm_is_name : Value} {cd_is_name : Value} {ct_is_name : Value} {oc_is_sequence : Value} {od_is_sequence : Option Addr} {an_is_sequence : Option Addr} {sl_is_sequence : Array (Option Value)} {kV_is_sequence : Value} {dc_is_sequence : Value} {pm_is_sequence : Value} {cd_is_sequence : Value} {ct_is_sequence : Value} {oc_is_integer : Value} {od_is_integer : Option Addr} {an_is_integer : Option Addr} {sl_is_integer : Array (Option Value)} {kV_is_integer : Value} {dc_is_integer : Value} {pm_is_integer : Value} {cd_is_integer : Value} {ct_is_integer : Value} {oc_is_row : Value} {od_is_row : Option Addr} {an_is_row : Option Addr} {sl_is_row : Array (Option Value)} {kV_is_row : Value} {dc_is_row : Value} {pm_is_row : Value} {cd_is_row : Value} {ct_is_row : Value} {oc_is_number_row : Value} {od_is_number_row : Option Addr} {an_is_number_row : Option Addr} {sl_is_number_row : Array (Option Value)} {kV_is_number_row : Value} {dc_is_number_row : Value} {pm_is_number_row : Value} {cd_is_number_row : Value} {ct_is_number_row : Value} {oc_checked_goods : Value} {od_checked_goods : Option Addr} {an_checked_goods : Option Addr} {sl_checked_goods : Array (Option Value)} {kV_checked_goods : Value} {dc_checked_goods : Value} {pm_checked_goods : Value} {cd_checked_goods : Value} {ct_checked_goods : Value} {oc_law_bag : Value} {od_law_bag : Option Addr} {an_law_bag : Option Addr} {sl_law_bag : Array (Option Value)} {kV_law_bag : Value} {dc_law_bag : Value} {pm_law_bag : Value} {cd_law_bag : Value} {ct_law_bag : Value} {oc_law_take : Value} {od_law_take : Option Addr} {an_law_take : Option Addr} {sl_law_take : Array (Option Value)} {kV_law_take : Value} {dc_law_take : Value} {pm_law_take : Value} {cd_law_take : Value} {ct_law_take : Value} {oc_law_of : Value} {od_law_of : Option Addr} {an_law_of : Option Addr} {sl_law_of : Array (Option Value)} {kV_law_of : Value} {dc_law_of : Value} {pm_law_of : Value} {cd_law_of : Value} {ct_law_of : Value} {oc_law_names : Value} {od_law_names : Option Addr} {an_law_names : Option Addr} {sl_law_names : Array (Option Value)} {kV_law_names : Value} {dc_law_names : Value} {pm_law_names : Value} {cd_law_names : Value} {ct_law_names : Value} {oc_law_far : Value} {od_law_far : Option Addr} {an_law_far : Option Addr} {sl_law_far : Array (Option Value)} {kV_law_far : Value} {dc_law_far : Value} {pm_law_far : Value} {cd_law_far : Value} {ct_law_far : Value} {oc_law_whole : Value} {od_law_whole : Option Addr} {an_law_whole : Option Addr} {sl_law_whole : Array (Option Value)} {kV_law_whole : Value} {dc_law_whole : Value} {pm_law_whole : Value} {cd_law_whole : Value} {ct_law_whole : Value} {oc_law_counts : Value} {od_law_counts : Option Addr} {an_law_counts : Option Addr} {sl_law_counts : Array (Option Value)} {kV_law_counts : Value} {dc_law_counts : Value} {pm_law_counts : Value} {cd_law_counts : Value} {ct_law_counts : Value} {oc_law_told : Value} {od_law_told : Option Addr} {an_law_told : Option Addr} {sl_law_told : Array (Option Value)} {kV_law_told : Value} {dc_law_told : Value} {pm_law_told : Value} {cd_law_told : Value} {ct_law_told : Value} {oc_law_single_told : Value} {od_law_single_told : Option Addr} {an_law_single_told : Option Addr} {sl_law_single_told : Array (Option Value)} {kV_law_single_told : Value} {dc_law_single_told : Value} {pm_law_single_told : Value} {cd_law_single_told : Value} {ct_law_single_told : Value} {oc_law_flat_told : Value} {od_law_flat_told : Option Addr} {an_law_flat_told : Option Addr} {sl_law_flat_told : Array (Option Value)} {kV_law_flat_told : Value} {dc_law_flat_told : Value} {pm_law_flat_told : Value} {cd_law_flat_told : Value} {ct_law_flat_told : Value} {oc_law_no_asset : Value} {od_law_no_asset : Option Addr} {an_law_no_asset : Option Addr} {sl_law_no_asset : Array (Option Value)} {kV_law_no_asset : Value} {dc_law_no_asset : Value} {pm_law_no_asset : Value} {cd_law_no_asset : Value} {ct_law_no_asset : Value} {oc_law_no_prices : Value} {od_law_no_prices : Option Addr} {an_law_no_prices : Option Addr} {sl_law_no_prices : Array (Option Value)} {kV_law_no_prices : Value} {dc_law_no_prices : Value} {pm_law_no_prices : Value} {cd_law_no_prices : Value} {ct_law_no_prices : Value} {oc_law_bad_goods : Value} {od_law_bad_goods : Option Addr} {an_law_bad_goods : Option Addr} {sl_law_bad_goods : Array (Option Value)} {kV_law_bad_goods : Value} {dc_law_bad_goods : Value} {pm_law_bad_goods : Value} {cd_law_bad_goods : Value} {ct_law_bad_goods : Value} {oc_law_bad_counts : Value} {od_law_bad_counts : Option Addr} {an_law_bad_counts : Option Addr} {sl_law_bad_counts : Array (Option Value)} {kV_law_bad_counts : Value} {dc_law_bad_counts : Value} {pm_law_bad_counts : Value} {cd_law_bad_counts : Value} {ct_law_bad_counts : Value} {oc_law_things_hold : Value} {od_law_things_hold : Option Addr} {an_law_things_hold : Option Addr} {sl_law_things_hold : Array (Option Value)} {kV_law_things_hold : Value} {dc_law_things_hold : Value} {pm_law_things_hold : Value} {cd_law_things_hold : Value} {ct_law_things_hold : Value} {oc_law : Value} {od_law : Option Addr} {an_law : Option Addr} {sl_law : Array (Option Value)} {kV_law : Value} {dc_law : Value} {pm_law : Value} {cd_law : Value} {ct_law : Value} {t__CASH : Nat} {t__LETTERS : Nat} {t__LONGEST_NAME : Nat} {t__MOST_GOODS : Nat}
    (c_Position : PySem.W.nsIn K mainGlobals "Position" = some (some (.ref C)))
    (pg_Position : PySem.W.plainGet K C Str.empty = true)
    (hd_Position : PySem.W.hasDictIn K C = true)
    (po_Position : PySem.W.plainOver K C = true)
    (sa_Position : PySem.W.findIn K (.ref C) "__setattr__" = some (some (.builtin "object.__setattr__")))
    (mk_Position : PySem.W.makesIn K C = true)
    (kp_Position : PySem.W.keepIn K (.ref C) = true)
    (n_Position_goods : PySem.W.findIn K (.ref C) "goods" = some none)
    (n_Position_counts : PySem.W.findIn K (.ref C) "counts" = some none)
    (n_Position__rows : PySem.W.findIn K (.ref C) "_rows" = some none)
    (a_init : PySem.W.findIn K (.ref C) "__init__" = some (some (.ref f_init)))
    (l_init : K.lookup f_init = some ⟨oc_init, od_init, .func (PySem.W.fnOf "__init__" "Position.__init__" (defArgs s_Position___init) (defBody s_Position___init) (defScope s_Position___init) .none kV_init dc_init pm_init an_init cd_init ct_init), sl_init⟩)
    (c_init : PySem.W.codeIn K cd_init "Position.__init__" = true)
    (k_init : PySem.W.keepIn K (.ref f_init) = true)
    (i_init : PySem.W.isFn K (.ref f_init) = true)
    (at_flat : PySem.W.findCls K (.ref C) (.type "type") "flat" = some (.get (.builtin "classmethod.__get__") (.ref p_flat) .none (.ref C)))
    (a_flat : PySem.W.recIn K p_flat "classmethod" = some (.ref f_flat :: r_flat))
    (l_flat : K.lookup f_flat = some ⟨oc_flat, od_flat, .func (PySem.W.fnOf "flat" "Position.flat" (defArgs s_Position_flat) (defBody s_Position_flat) (defScope s_Position_flat) .none kV_flat dc_flat pm_flat an_flat cd_flat ct_flat), sl_flat⟩)
    (c_flat : PySem.W.codeIn K cd_flat "Position.flat" = true)
    (k_flat : PySem.W.keepIn K (.ref f_flat) = true)
    (at_single : PySem.W.findCls K (.ref C) (.type "type") "single" = some (.get (.builtin "classmethod.__get__") (.ref p_single) .none (.ref C)))
    (a_single : PySem.W.recIn K p_single "classmethod" = some (.ref f_single :: r_single))
    (l_single : K.lookup f_single = some ⟨oc_single, od_single, .func (PySem.W.fnOf "single" "Position.single" (defArgs s_Position_single) (defBody s_Position_single) (defScope s_Position_single) (.ref dT_single) kV_single dc_single pm_single an_single cd_single ct_single), sl_single⟩)
    (q_single : K.lookup dT_single = some ⟨c2_single, d2_single, .seq #[.int 1 tk_single] n2_single, s2_single⟩)
    (c_single : PySem.W.codeIn K cd_single "Position.single" = true)
    (k_single : PySem.W.keepIn K (.ref f_single) = true)
    (a_worth : PySem.W.findIn K (.ref C) "worth" = some (some (.ref f_worth)))
    (l_worth : K.lookup f_worth = some ⟨oc_worth, od_worth, .func (PySem.W.fnOf "worth" "Position.worth" (defArgs s_Position_worth) (defBody s_Position_worth) (defScope s_Position_worth) .none kV_worth dc_worth pm_worth an_worth cd_worth ct_worth), sl_worth⟩)
    (c_worth : PySem.W.codeIn K cd_worth "Position.worth" = true)
    (k_worth : PySem.W.keepIn K (.ref f_worth) = true)
    (i_worth : PySem.W.isFn K (.ref f_worth) = true)
    (a_loss : PySem.W.findIn K (.ref C) "loss" = some (some (.ref f_loss)))
    (l_loss : K.lookup f_loss = some ⟨oc_loss, od_loss, .func (PySem.W.fnOf "loss" "Position.loss" (defArgs s_Position_loss) (defBody s_Position_loss) (defScope s_Position_loss) .none kV_loss dc_loss pm_loss an_loss cd_loss ct_loss), sl_loss⟩)
    (c_loss : PySem.W.codeIn K cd_loss "Position.loss" = true)
    (k_loss : PySem.W.keepIn K (.ref f_loss) = true)
    (i_loss : PySem.W.isFn K (.ref f_loss) = true)
    (a_getitem : PySem.W.findIn K (.ref C) "__getitem__" = some (some (.ref f_getitem)))
    (l_getitem : K.lookup f_getitem = some ⟨oc_getitem, od_getitem, .func (PySem.W.fnOf "__getitem__" "Position.__getitem__" (defArgs s_Position___getitem) (defBody s_Position___getitem) (defScope s_Position___getitem) .none kV_getitem dc_getitem pm_getitem an_getitem cd_getitem ct_getitem), sl_getitem⟩)
    (c_getitem : PySem.W.codeIn K cd_getitem "Position.__getitem__" = true)
    (k_getitem : PySem.W.keepIn K (.ref f_getitem) = true)
    (i_getitem : PySem.W.isFn K (.ref f_getitem) = true)
    (rd_C : PySem.W.readsIn K C (.type "type") = true)
    (gb_C : PySem.W.specialIn K (.ref C) "__getattribute__" = some (some (.builtin "type.__getattribute__")))
    (cn_C : PySem.W.specialIn K (.builtin "object.__class__") "__get__" = some (some (.builtin "getset_descriptor.__get__")))
    (ct_C : PySem.W.takesIn K (.builtin "object.__class__") = some true)
    (fi_get : PySem.W.fnIn K f_getitem = true)
    (c_MarketError : PySem.W.nsIn K mainGlobals "MarketError" = some (some (.ref ME)))
    (fi_flat : PySem.W.fnIn K f_flat = true)
    (fi_single : PySem.W.fnIn K f_single = true)
    (c_BadPrices : PySem.W.nsIn K mainGlobals "BadPrices" = some (some (.ref BR)))
    (xn_B : PySem.W.excIn K BR [.type "ValueError", .type "Exception", .type "BaseException", .type "object"] "ValueError.__new__" = true)
    (ex_B : PySem.W.subIn K (.ref BR) (.type "BaseException") = some true)
    (ty_B : PySem.W.typeIn K (.ref BR) = some (.type "type"))
    (kp_B : PySem.W.keepIn K (.ref BR) = true)
    (ga_B : PySem.W.findIn K (.ref BR) "__getattribute__" = some (some (.builtin "BaseException.__getattribute__")))
    (gg_B : PySem.W.findIn K (.ref BR) "__getattr__" = some none)
    (hd_B : PySem.W.hasDictIn K BR = true)
    (ca_B : PySem.W.findIn K (.ref BR) "__class__" = some (some (.builtin "object.__class__")))
    (cm_B : PySem.W.mroIn K BR (.type "object") = some true)
    (sm_B : PySem.W.subIn K (.ref BR) (.ref ME) = some true)
    (sv_B : PySem.W.subIn K (.ref BR) (.type "ValueError") = some true)
    (ex_ME : PySem.W.subIn K (.ref ME) (.type "BaseException") = some true)
    (ic_ME : PySem.W.isClsIn K ME = true)
    (ty_ME : PySem.W.typeIn K (.ref ME) = some (.type "type"))
    (c_BadGoods : PySem.W.nsIn K mainGlobals "BadGoods" = some (some (.ref BG)))
    (l_BG : K.lookup BG = some (excClassObj nmBG qnBG BG NBG bsBG bmBG true snBG subBG abBG colBG ddBG i0BG i1BG i2BG i3BG i5BG "ValueError.__new__"))
    (h_BG : PySem.HandSPX.refsVE bmBG = true)
    (sa_BG : PySem.W.findIn K (.ref BG) "__setattr__" = some (some (.builtin "object.__setattr__")))
    (ex_BG : PySem.W.subIn K (.ref BG) (.type "BaseException") = some true)
    (ty_BG : PySem.W.typeIn K (.ref BG) = some (.type "type"))
    (kp_BG : PySem.W.keepIn K (.ref BG) = true)
    (ga_BG : PySem.W.findIn K (.ref BG) "__getattribute__" = some (some (.builtin "BaseException.__getattribute__")))
    (gg_BG : PySem.W.findIn K (.ref BG) "__getattr__" = some none)
    (hd_BG : PySem.W.hasDictIn K BG = true)
    (ic_BG : PySem.W.isClsIn K BG = true)
    (sb_BG : PySem.W.subIn K (.ref BG) (.ref BG) = some true)
    (nw_BG_what : PySem.W.findIn K (.ref BG) "what" = some none)
    (a_xiBG : PySem.W.findIn K (.ref BG) "__init__" = some (some (.ref f_xiBG)))
    (l_xiBG : K.lookup f_xiBG = some ⟨oc_xiBG, od_xiBG, .func (PySem.W.fnOf "__init__" "BadGoods.__init__" (defArgs s_BadGoods___init) (defBody s_BadGoods___init) (defScope s_BadGoods___init) .none kV_xiBG dc_xiBG pm_xiBG an_xiBG cd_xiBG ct_xiBG), sl_xiBG⟩)
    (c_xiBG : PySem.W.codeIn K cd_xiBG "BadGoods.__init__" = true)
    (k_xiBG : PySem.W.keepIn K (.ref f_xiBG) = true)
    (ty_xiBG : PySem.W.typeIn K (.ref f_xiBG) = some (.type "function"))
    (c_BadPosition : PySem.W.nsIn K mainGlobals "BadPosition" = some (some (.ref BP)))
    (l_BP : K.lookup BP = some (excClassObj nmBP qnBP BP NBP bsBP bmBP true snBP subBP abBP colBP ddBP i0BP i1BP i2BP i3BP i5BP "ValueError.__new__"))
    (h_BP : PySem.HandSPX.refsVE bmBP = true)
    (sa_BP : PySem.W.findIn K (.ref BP) "__setattr__" = some (some (.builtin "object.__setattr__")))
    (ex_BP : PySem.W.subIn K (.ref BP) (.type "BaseException") = some true)
    (ty_BP : PySem.W.typeIn K (.ref BP) = some (.type "type"))
    (kp_BP : PySem.W.keepIn K (.ref BP) = true)
    (ga_BP : PySem.W.findIn K (.ref BP) "__getattribute__" = some (some (.builtin "BaseException.__getattribute__")))
    (gg_BP : PySem.W.findIn K (.ref BP) "__getattr__" = some none)
    (hd_BP : PySem.W.hasDictIn K BP = true)
    (ic_BP : PySem.W.isClsIn K BP = true)
    (sb_BP : PySem.W.subIn K (.ref BP) (.ref BP) = some true)
    (nw_BP_what : PySem.W.findIn K (.ref BP) "what" = some none)
    (a_xiBP : PySem.W.findIn K (.ref BP) "__init__" = some (some (.ref f_xiBP)))
    (l_xiBP : K.lookup f_xiBP = some ⟨oc_xiBP, od_xiBP, .func (PySem.W.fnOf "__init__" "BadPosition.__init__" (defArgs s_BadPosition___init) (defBody s_BadPosition___init) (defScope s_BadPosition___init) .none kV_xiBP dc_xiBP pm_xiBP an_xiBP cd_xiBP ct_xiBP), sl_xiBP⟩)
    (c_xiBP : PySem.W.codeIn K cd_xiBP "BadPosition.__init__" = true)
    (k_xiBP : PySem.W.keepIn K (.ref f_xiBP) = true)
    (ty_xiBP : PySem.W.typeIn K (.ref f_xiBP) = some (.type "function"))
    (c_NoAsset : PySem.W.nsIn K mainGlobals "NoAsset" = some (some (.ref NA)))
    (l_NA : K.lookup NA = some (excClassObj nmNA qnNA NA NNA bsNA bmNA true snNA subNA abNA colNA ddNA i0NA i1NA i2NA i3NA i5NA "ValueError.__new__"))
    (h_NA : PySem.HandSPX.refsVE bmNA = true)
    (sa_NA : PySem.W.findIn K (.ref NA) "__setattr__" = some (some (.builtin "object.__setattr__")))
    (ex_NA : PySem.W.subIn K (.ref NA) (.type "BaseException") = some true)
    (ty_NA : PySem.W.typeIn K (.ref NA) = some (.type "type"))
    (kp_NA : PySem.W.keepIn K (.ref NA) = true)
    (ga_NA : PySem.W.findIn K (.ref NA) "__getattribute__" = some (some (.builtin "BaseException.__getattribute__")))
    (gg_NA : PySem.W.findIn K (.ref NA) "__getattr__" = some none)
    (hd_NA : PySem.W.hasDictIn K NA = true)
    (ic_NA : PySem.W.isClsIn K NA = true)
    (sb_NA : PySem.W.subIn K (.ref NA) (.ref NA) = some true)
    (nw_NA_name : PySem.W.findIn K (.ref NA) "name" = some none)
    (a_xiNA : PySem.W.findIn K (.ref NA) "__init__" = some (some (.ref f_xiNA)))
    (l_xiNA : K.lookup f_xiNA = some ⟨oc_xiNA, od_xiNA, .func (PySem.W.fnOf "__init__" "NoAsset.__init__" (defArgs s_NoAsset___init) (defBody s_NoAsset___init) (defScope s_NoAsset___init) .none kV_xiNA dc_xiNA pm_xiNA an_xiNA cd_xiNA ct_xiNA), sl_xiNA⟩)
    (c_xiNA : PySem.W.codeIn K cd_xiNA "NoAsset.__init__" = true)
    (k_xiNA : PySem.W.keepIn K (.ref f_xiNA) = true)
    (ty_xiNA : PySem.W.typeIn K (.ref f_xiNA) = some (.type "function"))
    (su_BG_ME : PySem.W.subIn K (.ref BG) (.ref ME) = some true)
    (su_BP_ME : PySem.W.subIn K (.ref BP) (.ref ME) = some true)
    (su_BP_BG : PySem.W.subIn K (.ref BP) (.ref BG) = some false)
    (su_BP_NA : PySem.W.subIn K (.ref BP) (.ref NA) = some false)
    (su_NA_ME : PySem.W.subIn K (.ref NA) (.ref ME) = some true)
    (su_NA_BG : PySem.W.subIn K (.ref NA) (.ref BG) = some false)
    (ca_BG : PySem.W.findIn K (.ref BG) "__class__" = some (some (.builtin "object.__class__")))
    (cm_BG : PySem.W.mroIn K BG (.type "object") = some true)
    (ca_BP : PySem.W.findIn K (.ref BP) "__class__" = some (some (.builtin "object.__class__")))
    (cm_BP : PySem.W.mroIn K BP (.type "object") = some true)
    (ca_NA : PySem.W.findIn K (.ref NA) "__class__" = some (some (.builtin "object.__class__")))
    (cm_NA : PySem.W.mroIn K NA (.type "object") = some true)
    (sv_NA : PySem.W.subIn K (.ref NA) (.type "ValueError") = some true)
    (a_is_name : PySem.W.nsIn K mainGlobals "is_name" = some (some (.ref f_is_name)))
    (l_is_name : K.lookup f_is_name = some ⟨oc_is_name, od_is_name, .func (PySem.W.fnOf "is_name" "is_name" (defArgs s_is_name) (defBody s_is_name) (defScope s_is_name) .none kV_is_name dc_is_name pm_is_name an_is_name cd_is_name ct_is_name), sl_is_name⟩)
    (c_is_name : PySem.W.codeIn K cd_is_name "is_name" = true)
    (k_is_name : PySem.W.keepIn K (.ref f_is_name) = true)
    (a_is_sequence : PySem.W.nsIn K mainGlobals "is_sequence" = some (some (.ref f_is_sequence)))
    (l_is_sequence : K.lookup f_is_sequence = some ⟨oc_is_sequence, od_is_sequence, .func (PySem.W.fnOf "is_sequence" "is_sequence" (defArgs s_is_sequence) (defBody s_is_sequence) (defScope s_is_sequence) .none kV_is_sequence dc_is_sequence pm_is_sequence an_is_sequence cd_is_sequence ct_is_sequence), sl_is_sequence⟩)
    (c_is_sequence : PySem.W.codeIn K cd_is_sequence "is_sequence" = true)
    (k_is_sequence : PySem.W.keepIn K (.ref f_is_sequence) = true)
    (a_is_integer : PySem.W.nsIn K mainGlobals "is_integer" = some (some (.ref f_is_integer)))
    (l_is_integer : K.lookup f_is_integer = some ⟨oc_is_integer, od_is_integer, .func (PySem.W.fnOf "is_integer" "is_integer" (defArgs s_is_integer) (defBody s_is_integer) (defScope s_is_integer) .none kV_is_integer dc_is_integer pm_is_integer an_is_integer cd_is_integer ct_is_integer), sl_is_integer⟩)
    (c_is_integer : PySem.W.codeIn K cd_is_integer "is_integer" = true)
    (k_is_integer : PySem.W.keepIn K (.ref f_is_integer) = true)
    (a_is_row : PySem.W.nsIn K mainGlobals "is_row" = some (some (.ref f_is_row)))
    (l_is_row : K.lookup f_is_row = some ⟨oc_is_row, od_is_row, .func (PySem.W.fnOf "is_row" "is_row" (defArgs s_is_row) (defBody s_is_row) (defScope s_is_row) .none kV_is_row dc_is_row pm_is_row an_is_row cd_is_row ct_is_row), sl_is_row⟩)
    (c_is_row : PySem.W.codeIn K cd_is_row "is_row" = true)
    (k_is_row : PySem.W.keepIn K (.ref f_is_row) = true)
    (a_is_number_row : PySem.W.nsIn K mainGlobals "is_number_row" = some (some (.ref f_is_number_row)))
    (l_is_number_row : K.lookup f_is_number_row = some ⟨oc_is_number_row, od_is_number_row, .func (PySem.W.fnOf "is_number_row" "is_number_row" (defArgs s_is_number_row) (defBody s_is_number_row) (defScope s_is_number_row) .none kV_is_number_row dc_is_number_row pm_is_number_row an_is_number_row cd_is_number_row ct_is_number_row), sl_is_number_row⟩)
    (c_is_number_row : PySem.W.codeIn K cd_is_number_row "is_number_row" = true)
    (k_is_number_row : PySem.W.keepIn K (.ref f_is_number_row) = true)
    (a_checked_goods : PySem.W.nsIn K mainGlobals "checked_goods" = some (some (.ref f_checked_goods)))
    (l_checked_goods : K.lookup f_checked_goods = some ⟨oc_checked_goods, od_checked_goods, .func (PySem.W.fnOf "checked_goods" "checked_goods" (defArgs s_checked_goods) (defBody s_checked_goods) (defScope s_checked_goods) .none kV_checked_goods dc_checked_goods pm_checked_goods an_checked_goods cd_checked_goods ct_checked_goods), sl_checked_goods⟩)
    (c_checked_goods : PySem.W.codeIn K cd_checked_goods "checked_goods" = true)
    (k_checked_goods : PySem.W.keepIn K (.ref f_checked_goods) = true)
    (a_law_bag : PySem.W.nsIn K mainGlobals "_law_bag" = some (some (.ref f_law_bag)))
    (l_law_bag : K.lookup f_law_bag = some ⟨oc_law_bag, od_law_bag, .func (PySem.W.fnOf "_law_bag" "_law_bag" (defArgs s_law_bag) (defBody s_law_bag) (defScope s_law_bag) .none kV_law_bag dc_law_bag pm_law_bag an_law_bag cd_law_bag ct_law_bag), sl_law_bag⟩)
    (c_law_bag : PySem.W.codeIn K cd_law_bag "_law_bag" = true)
    (k_law_bag : PySem.W.keepIn K (.ref f_law_bag) = true)
    (a_law_take : PySem.W.nsIn K mainGlobals "_law_take" = some (some (.ref f_law_take)))
    (l_law_take : K.lookup f_law_take = some ⟨oc_law_take, od_law_take, .func (PySem.W.fnOf "_law_take" "_law_take" (defArgs s_law_take) (defBody s_law_take) (defScope s_law_take) .none kV_law_take dc_law_take pm_law_take an_law_take cd_law_take ct_law_take), sl_law_take⟩)
    (c_law_take : PySem.W.codeIn K cd_law_take "_law_take" = true)
    (k_law_take : PySem.W.keepIn K (.ref f_law_take) = true)
    (a_law_of : PySem.W.nsIn K mainGlobals "_law_of" = some (some (.ref f_law_of)))
    (l_law_of : K.lookup f_law_of = some ⟨oc_law_of, od_law_of, .func (PySem.W.fnOf "_law_of" "_law_of" (defArgs s_law_of) (defBody s_law_of) (defScope s_law_of) .none kV_law_of dc_law_of pm_law_of an_law_of cd_law_of ct_law_of), sl_law_of⟩)
    (c_law_of : PySem.W.codeIn K cd_law_of "_law_of" = true)
    (k_law_of : PySem.W.keepIn K (.ref f_law_of) = true)
    (a_law_names : PySem.W.nsIn K mainGlobals "_law_names" = some (some (.ref f_law_names)))
    (l_law_names : K.lookup f_law_names = some ⟨oc_law_names, od_law_names, .func (PySem.W.fnOf "_law_names" "_law_names" (defArgs s_law_names) (defBody s_law_names) (defScope s_law_names) .none kV_law_names dc_law_names pm_law_names an_law_names cd_law_names ct_law_names), sl_law_names⟩)
    (c_law_names : PySem.W.codeIn K cd_law_names "_law_names" = true)
    (k_law_names : PySem.W.keepIn K (.ref f_law_names) = true)
    (a_law_far : PySem.W.nsIn K mainGlobals "_law_far" = some (some (.ref f_law_far)))
    (l_law_far : K.lookup f_law_far = some ⟨oc_law_far, od_law_far, .func (PySem.W.fnOf "_law_far" "_law_far" (defArgs s_law_far) (defBody s_law_far) (defScope s_law_far) .none kV_law_far dc_law_far pm_law_far an_law_far cd_law_far ct_law_far), sl_law_far⟩)
    (c_law_far : PySem.W.codeIn K cd_law_far "_law_far" = true)
    (k_law_far : PySem.W.keepIn K (.ref f_law_far) = true)
    (a_law_whole : PySem.W.nsIn K mainGlobals "_law_whole" = some (some (.ref f_law_whole)))
    (l_law_whole : K.lookup f_law_whole = some ⟨oc_law_whole, od_law_whole, .func (PySem.W.fnOf "_law_whole" "_law_whole" (defArgs s_law_whole) (defBody s_law_whole) (defScope s_law_whole) .none kV_law_whole dc_law_whole pm_law_whole an_law_whole cd_law_whole ct_law_whole), sl_law_whole⟩)
    (c_law_whole : PySem.W.codeIn K cd_law_whole "_law_whole" = true)
    (k_law_whole : PySem.W.keepIn K (.ref f_law_whole) = true)
    (a_law_counts : PySem.W.nsIn K mainGlobals "_law_counts" = some (some (.ref f_law_counts)))
    (l_law_counts : K.lookup f_law_counts = some ⟨oc_law_counts, od_law_counts, .func (PySem.W.fnOf "_law_counts" "_law_counts" (defArgs s_law_counts) (defBody s_law_counts) (defScope s_law_counts) .none kV_law_counts dc_law_counts pm_law_counts an_law_counts cd_law_counts ct_law_counts), sl_law_counts⟩)
    (c_law_counts : PySem.W.codeIn K cd_law_counts "_law_counts" = true)
    (k_law_counts : PySem.W.keepIn K (.ref f_law_counts) = true)
    (a_law_told : PySem.W.nsIn K mainGlobals "_law_told" = some (some (.ref f_law_told)))
    (l_law_told : K.lookup f_law_told = some ⟨oc_law_told, od_law_told, .func (PySem.W.fnOf "_law_told" "_law_told" (defArgs s_law_told) (defBody s_law_told) (defScope s_law_told) .none kV_law_told dc_law_told pm_law_told an_law_told cd_law_told ct_law_told), sl_law_told⟩)
    (c_law_told : PySem.W.codeIn K cd_law_told "_law_told" = true)
    (k_law_told : PySem.W.keepIn K (.ref f_law_told) = true)
    (a_law_single_told : PySem.W.nsIn K mainGlobals "_law_single_told" = some (some (.ref f_law_single_told)))
    (l_law_single_told : K.lookup f_law_single_told = some ⟨oc_law_single_told, od_law_single_told, .func (PySem.W.fnOf "_law_single_told" "_law_single_told" (defArgs s_law_single_told) (defBody s_law_single_told) (defScope s_law_single_told) .none kV_law_single_told dc_law_single_told pm_law_single_told an_law_single_told cd_law_single_told ct_law_single_told), sl_law_single_told⟩)
    (c_law_single_told : PySem.W.codeIn K cd_law_single_told "_law_single_told" = true)
    (k_law_single_told : PySem.W.keepIn K (.ref f_law_single_told) = true)
    (a_law_flat_told : PySem.W.nsIn K mainGlobals "_law_flat_told" = some (some (.ref f_law_flat_told)))
    (l_law_flat_told : K.lookup f_law_flat_told = some ⟨oc_law_flat_told, od_law_flat_told, .func (PySem.W.fnOf "_law_flat_told" "_law_flat_told" (defArgs s_law_flat_told) (defBody s_law_flat_told) (defScope s_law_flat_told) .none kV_law_flat_told dc_law_flat_told pm_law_flat_told an_law_flat_told cd_law_flat_told ct_law_flat_told), sl_law_flat_told⟩)
    (c_law_flat_told : PySem.W.codeIn K cd_law_flat_told "_law_flat_told" = true)
    (k_law_flat_told : PySem.W.keepIn K (.ref f_law_flat_told) = true)
    (a_law_no_asset : PySem.W.nsIn K mainGlobals "_law_no_asset" = some (some (.ref f_law_no_asset)))
    (l_law_no_asset : K.lookup f_law_no_asset = some ⟨oc_law_no_asset, od_law_no_asset, .func (PySem.W.fnOf "_law_no_asset" "_law_no_asset" (defArgs s_law_no_asset) (defBody s_law_no_asset) (defScope s_law_no_asset) .none kV_law_no_asset dc_law_no_asset pm_law_no_asset an_law_no_asset cd_law_no_asset ct_law_no_asset), sl_law_no_asset⟩)
    (c_law_no_asset : PySem.W.codeIn K cd_law_no_asset "_law_no_asset" = true)
    (k_law_no_asset : PySem.W.keepIn K (.ref f_law_no_asset) = true)
    (a_law_no_prices : PySem.W.nsIn K mainGlobals "_law_no_prices" = some (some (.ref f_law_no_prices)))
    (l_law_no_prices : K.lookup f_law_no_prices = some ⟨oc_law_no_prices, od_law_no_prices, .func (PySem.W.fnOf "_law_no_prices" "_law_no_prices" (defArgs s_law_no_prices) (defBody s_law_no_prices) (defScope s_law_no_prices) .none kV_law_no_prices dc_law_no_prices pm_law_no_prices an_law_no_prices cd_law_no_prices ct_law_no_prices), sl_law_no_prices⟩)
    (c_law_no_prices : PySem.W.codeIn K cd_law_no_prices "_law_no_prices" = true)
    (k_law_no_prices : PySem.W.keepIn K (.ref f_law_no_prices) = true)
    (a_law_bad_goods : PySem.W.nsIn K mainGlobals "_law_bad_goods" = some (some (.ref f_law_bad_goods)))
    (l_law_bad_goods : K.lookup f_law_bad_goods = some ⟨oc_law_bad_goods, od_law_bad_goods, .func (PySem.W.fnOf "_law_bad_goods" "_law_bad_goods" (defArgs s_law_bad_goods) (defBody s_law_bad_goods) (defScope s_law_bad_goods) .none kV_law_bad_goods dc_law_bad_goods pm_law_bad_goods an_law_bad_goods cd_law_bad_goods ct_law_bad_goods), sl_law_bad_goods⟩)
    (c_law_bad_goods : PySem.W.codeIn K cd_law_bad_goods "_law_bad_goods" = true)
    (k_law_bad_goods : PySem.W.keepIn K (.ref f_law_bad_goods) = true)
    (a_law_bad_counts : PySem.W.nsIn K mainGlobals "_law_bad_counts" = some (some (.ref f_law_bad_counts)))
    (l_law_bad_counts : K.lookup f_law_bad_counts = some ⟨oc_law_bad_counts, od_law_bad_counts, .func (PySem.W.fnOf "_law_bad_counts" "_law_bad_counts" (defArgs s_law_bad_counts) (defBody s_law_bad_counts) (defScope s_law_bad_counts) .none kV_law_bad_counts dc_law_bad_counts pm_law_bad_counts an_law_bad_counts cd_law_bad_counts ct_law_bad_counts), sl_law_bad_counts⟩)
    (c_law_bad_counts : PySem.W.codeIn K cd_law_bad_counts "_law_bad_counts" = true)
    (k_law_bad_counts : PySem.W.keepIn K (.ref f_law_bad_counts) = true)
    (a_law_things_hold : PySem.W.nsIn K mainGlobals "_law_things_hold" = some (some (.ref f_law_things_hold)))
    (l_law_things_hold : K.lookup f_law_things_hold = some ⟨oc_law_things_hold, od_law_things_hold, .func (PySem.W.fnOf "_law_things_hold" "_law_things_hold" (defArgs s_law_things_hold) (defBody s_law_things_hold) (defScope s_law_things_hold) .none kV_law_things_hold dc_law_things_hold pm_law_things_hold an_law_things_hold cd_law_things_hold ct_law_things_hold), sl_law_things_hold⟩)
    (c_law_things_hold : PySem.W.codeIn K cd_law_things_hold "_law_things_hold" = true)
    (k_law_things_hold : PySem.W.keepIn K (.ref f_law_things_hold) = true)
    (a_law : PySem.W.nsIn K mainGlobals "law" = some (some (.ref f_law)))
    (l_law : K.lookup f_law = some ⟨oc_law, od_law, .func (PySem.W.fnOf "law" "law" (defArgs s_law) (defBody s_law) (defScope s_law) .none kV_law dc_law pm_law an_law cd_law ct_law), sl_law⟩)
    (c_law : PySem.W.codeIn K cd_law "law" = true)
    (k_law : PySem.W.keepIn K (.ref f_law) = true)
    (g__CASH : PySem.W.nsIn K mainGlobals "_CASH" = some (some (.str "cash" t__CASH)))
    (g__LETTERS : PySem.W.nsIn K mainGlobals "_LETTERS" = some (some (.str "abcdefghijklmnopqrstuvwxyz" t__LETTERS)))
    (g__LONGEST_NAME : PySem.W.nsIn K mainGlobals "_LONGEST_NAME" = some (some (.int 12 t__LONGEST_NAME)))
    (g__MOST_GOODS : PySem.W.nsIn K mainGlobals "_MOST_GOODS" = some (some (.int 5 t__MOST_GOODS)))
    (z_int : PySem.W.nsIn K mainGlobals "int" = some none)
    (z_abs : PySem.W.nsIn K mainGlobals "abs" = some none)
    (z_len : PySem.W.nsIn K mainGlobals "len" = some none)
    (z_range : PySem.W.nsIn K mainGlobals "range" = some none)
    (z_min : PySem.W.nsIn K mainGlobals "min" = some none)
    (z_isinstance : PySem.W.nsIn K mainGlobals "isinstance" = some none)
    (z_all : PySem.W.nsIn K mainGlobals "all" = some none)
    (z_str : PySem.W.nsIn K mainGlobals "str" = some none)
    (z_bool : PySem.W.nsIn K mainGlobals "bool" = some none)
    (z_list : PySem.W.nsIn K mainGlobals "list" = some none)
    (z_tuple : PySem.W.nsIn K mainGlobals "tuple" = some none)
    (z_set : PySem.W.nsIn K mainGlobals "set" = some none)
    (z_enumerate : PySem.W.nsIn K mainGlobals "enumerate" = some none)
    (z_iter : PySem.W.nsIn K mainGlobals "iter" = some none)
    (z_zip : PySem.W.nsIn K mainGlobals "zip" = some none)
    (z_max : PySem.W.nsIn K mainGlobals "max" = some none)
    (z_sum : PySem.W.nsIn K mainGlobals "sum" = some none)
    (z_any : PySem.W.nsIn K mainGlobals "any" = some none)
    (z_ValueError : PySem.W.nsIn K mainGlobals "ValueError" = some none)
    (z_repr : PySem.W.nsIn K mainGlobals "repr" = some none)
    : ∃ fd : FuncData, (∀ (s : Shared) (v : Value), BindsTo s fd ⟨[v], []⟩ [("_law_script", v)]) ∧ ∀ base : Heap, K.In base → base.Ns mainGlobals mg → FnOkG l.prog w K mg base (L2.CX l.prog w) 15 fa fd ["_law_script"] (spOf K sdLaw) := by
  have e := hfa.symm.trans (PySem.W.mg_of X G a_law)
  cases e
  have F_init := fun_mk (st := s_Position___init) l_init c_init k_init
  have F_flat := fun_mk (st := s_Position_flat) l_flat c_flat k_flat
  have F_single := fundI (st := s_Position_single) l_single c_single k_single q_single
  have F_worth := fun_mk (st := s_Position_worth) l_worth c_worth k_worth
  have F_loss := fun_mk (st := s_Position_loss) l_loss c_loss k_loss
  have F_getitem := fun_mk (st := s_Position___getitem) l_getitem c_getitem k_getitem
  have F_xiBG := fun_mk (st := s_BadGoods___init) l_xiBG c_xiBG k_xiBG
  have F_xiBP := fun_mk (st := s_BadPosition___init) l_xiBP c_xiBP k_xiBP
  have F_xiNA := fun_mk (st := s_NoAsset___init) l_xiNA c_xiNA k_xiNA
  have F_is_name := fun_mk (st := s_is_name) l_is_name c_is_name k_is_name
  have F_is_sequence := fun_mk (st := s_is_sequence) l_is_sequence c_is_sequence k_is_sequence
  have F_is_integer := fun_mk (st := s_is_integer) l_is_integer c_is_integer k_is_integer
  have F_is_row := fun_mk (st := s_is_row) l_is_row c_is_row k_is_row
  have F_is_number_row := fun_mk (st := s_is_number_row) l_is_number_row c_is_number_row k_is_number_row
  have F_checked_goods := fun_mk (st := s_checked_goods) l_checked_goods c_checked_goods k_checked_goods
  have F_law_bag := fun_mk (st := s_law_bag) l_law_bag c_law_bag k_law_bag
  have F_law_take := fun_mk (st := s_law_take) l_law_take c_law_take k_law_take
  have F_law_of := fun_mk (st := s_law_of) l_law_of c_law_of k_law_of
  have F_law_names := fun_mk (st := s_law_names) l_law_names c_law_names k_law_names
  have F_law_far := fun_mk (st := s_law_far) l_law_far c_law_far k_law_far
  have F_law_whole := fun_mk (st := s_law_whole) l_law_whole c_law_whole k_law_whole
  have F_law_counts := fun_mk (st := s_law_counts) l_law_counts c_law_counts k_law_counts
  have F_law_told := fun_mk (st := s_law_told) l_law_told c_law_told k_law_told
  have F_law_single_told := fun_mk (st := s_law_single_told) l_law_single_told c_law_single_told k_law_single_told
  have F_law_flat_told := fun_mk (st := s_law_flat_told) l_law_flat_told c_law_flat_told k_law_flat_told
  have F_law_no_asset := fun_mk (st := s_law_no_asset) l_law_no_asset c_law_no_asset k_law_no_asset
  have F_law_no_prices := fun_mk (st := s_law_no_prices) l_law_no_prices c_law_no_prices k_law_no_prices
  have F_law_bad_goods := fun_mk (st := s_law_bad_goods) l_law_bad_goods c_law_bad_goods k_law_bad_goods
  have F_law_bad_counts := fun_mk (st := s_law_bad_counts) l_law_bad_counts c_law_bad_counts k_law_bad_counts
  have F_law_things_hold := fun_mk (st := s_law_things_hold) l_law_things_hold c_law_things_hold k_law_things_hold
  have F_law := fun_mk (st := s_law) l_law c_law k_law
  have b_is_name := F_is_name.binds (ps := ["thing"]) fun _ _ _ _ _ _ us hl => match us, hl with | [_], _ => rfl
  have b_is_sequence := F_is_sequence.binds (ps := ["thing"]) fun _ _ _ _ _ _ us hl => match us, hl with | [_], _ => rfl
  have b_is_integer := F_is_integer.binds (ps := ["thing"]) fun _ _ _ _ _ _ us hl => match us, hl with | [_], _ => rfl
  have b_is_row := F_is_row.binds (ps := ["thing", "length"]) fun _ _ _ _ _ _ us hl => match us, hl with | [_, _], _ => rfl
  have b_is_number_row := F_is_number_row.binds (ps := ["thing", "length"]) fun _ _ _ _ _ _ us hl => match us, hl with | [_, _], _ => rfl
  have b_checked_goods := F_checked_goods.binds (ps := ["goods"]) fun _ _ _ _ _ _ us hl => match us, hl with | [_], _ => rfl
  have b_init := F_init.binds (ps := ["self", "goods", "counts"]) fun _ _ _ _ _ _ us hl => match us, hl with | [_, _, _], _ => rfl
  have b_flat := F_flat.binds (ps := ["cls", "goods"]) fun _ _ _ _ _ _ us hl => match us, hl with | [_, _], _ => rfl
  have b_worth := F_worth.binds (ps := ["self", "prices"]) fun _ _ _ _ _ _ us hl => match us, hl with | [_, _], _ => rfl
  have b_loss := F_loss.binds (ps := ["self", "move"]) fun _ _ _ _ _ _ us hl => match us, hl with | [_, _], _ => rfl
  have b_getitem := F_getitem.binds (ps := ["self", "at"]) fun _ _ _ _ _ _ us hl => match us, hl with | [_, _], _ => rfl
  have b_law_bag := F_law_bag.binds (ps := ["_law_script", "_law_at"]) fun _ _ _ _ _ _ us hl => match us, hl with | [_, _], _ => rfl
  have b_law_take := F_law_take.binds (ps := ["_law_bag_here", "_law_many"]) fun _ _ _ _ _ _ us hl => match us, hl with | [_, _], _ => rfl
  have b_law_of := F_law_of.binds (ps := ["_law_bag_here", "_law_some"]) fun _ _ _ _ _ _ us hl => match us, hl with | [_, _], _ => rfl
  have b_law_names := F_law_names.binds (ps := ["_law_bag_here", "_law_many"]) fun _ _ _ _ _ _ us hl => match us, hl with | [_, _], _ => rfl
  have b_law_far := F_law_far.binds (ps := ["_law_bag_here", "_law_most"]) fun _ _ _ _ _ _ us hl => match us, hl with | [_, _], _ => rfl
  have b_law_whole := F_law_whole.binds (ps := ["_law_bag_here", "_law_most"]) fun _ _ _ _ _ _ us hl => match us, hl with | [_, _], _ => rfl
  have b_law_counts := F_law_counts.binds (ps := ["_law_bag_here", "_law_many", "_law_most"]) fun _ _ _ _ _ _ us hl => match us, hl with | [_, _, _], _ => rfl
  have b_law_told := F_law_told.binds (ps := ["_law_goods", "_law_counts_here"]) fun _ _ _ _ _ _ us hl => match us, hl with | [_, _], _ => rfl
  have b_law_single_told := F_law_single_told.binds (ps := ["_law_goods", "_law_good", "_law_count"]) fun _ _ _ _ _ _ us hl => match us, hl with | [_, _, _], _ => rfl
  have b_law_flat_told := F_law_flat_told.binds (ps := ["_law_goods"]) fun _ _ _ _ _ _ us hl => match us, hl with | [_], _ => rfl
  have b_law_no_asset := F_law_no_asset.binds (ps := ["_law_position", "_law_thing"]) fun _ _ _ _ _ _ us hl => match us, hl with | [_, _], _ => rfl
  have b_law_no_prices := F_law_no_prices.binds (ps := ["_law_position", "_law_prices", "_law_is_loss"]) fun _ _ _ _ _ _ us hl => match us, hl with | [_, _, _], _ => rfl
  have b_law_bad_goods := F_law_bad_goods.binds (ps := ["_law_bag_here", "_law_goods"]) fun _ _ _ _ _ _ us hl => match us, hl with | [_, _], _ => rfl
  have b_law_bad_counts := F_law_bad_counts.binds (ps := ["_law_bag_here", "_law_counts_here"]) fun _ _ _ _ _ _ us hl => match us, hl with | [_, _], _ => rfl
  have b_law_things_hold := F_law_things_hold.binds (ps := ["_law_bag_here", "_law_position", "_law_goods", "_law_counts_here"]) fun _ _ _ _ _ _ us hl => match us, hl with | [_, _, _, _], _ => rfl
  have b_law := F_law.binds (ps := ["_law_script"]) fun _ _ _ _ _ _ us hl => match us, hl with | [_], _ => rfl
  have b_xiBG := F_xiBG.binds (ps := ["self", "what"]) fun _ _ _ _ _ _ us hl => match us, hl with | [_, _], _ => rfl
  have b_xiBP := F_xiBP.binds (ps := ["self", "what"]) fun _ _ _ _ _ _ us hl => match us, hl with | [_, _], _ => rfl
  have b_xiNA := F_xiNA.binds (ps := ["self", "name"]) fun _ _ _ _ _ _ us hl => match us, hl with | [_, _], _ => rfl
  have g : ∀ {x : Str} {v : Value}, PySem.W.nsIn K mainGlobals x = some (some v) → mg x = some v := fun a => PySem.W.mg_of X G a
  have z : ∀ {x : Str}, PySem.W.nsIn K mainGlobals x = some none → mg x = none := fun a => PySem.W.mg_none_of X G a
  have TB : TxtB mg := ⟨z z_int, z z_abs, z z_len, z z_range, z z_min⟩
  have TN : TxtN mg := { TB with b_isinstance := z z_isinstance, b_all := z z_all, b_str := z z_str, b_bool := z z_bool, b_list := z z_list, b_tuple := z z_tuple, b_set := z z_set, b_enumerate := z z_enumerate, b_iter := z z_iter, b_zip := z z_zip, b_max := z z_max, b_repr := z z_repr, k__CASH := ⟨_, g g__CASH⟩, k__LETTERS := ⟨_, g g__LETTERS⟩, k__LONGEST_NAME := ⟨_, g g__LONGEST_NAME⟩, k__MOST_GOODS := ⟨_, g g__MOST_GOODS⟩ }
  have na : ∀ n : Str, (["goods", "counts", "_rows"] : List Str).contains n = true → NoAttr K C n := fun n hn => by
    have hn' : n ∈ (["goods", "counts", "_rows"] : List Str) := List.contains_iff_mem.mp hn
    simp only [List.mem_cons, List.not_mem_nil, or_false] at hn'
    rcases hn' with rfl | rfl | rfl
    · exact n_Position_goods
    · exact n_Position_counts
    · exact n_Position__rows
  have cl : Cls K C := ⟨pg_Position, hd_Position, po_Position, sa_Position⟩
  have TP : TxtP K mg C BR := { TN with cl_Position := cl, na_Position := na, c_Position := g c_Position, b_sum := z z_sum, c_BadPrices := g c_BadPrices, oe_BadPrices := ⟨xn_B, kp_B, ex_B, ty_B⟩ }
  have TPE : TxtPE K mg C BR NA := { TP with cr_Position := ⟨rd_C, gb_C⟩ }
  have oex_BG : OexC K BG := ⟨⟨_, _, _, _, _, _, _, _, _, _, _, _, _, _, _, l_BG, h_BG⟩, sa_BG, ex_BG, ty_BG, kp_BG⟩
  have xf_BG : XfC K BG := ⟨ga_BG, gg_BG, ex_BG, hd_BG⟩
  have exm_BG := exm_ref ex_BG ic_BG ty_BG sb_BG
  have oex_BP : OexC K BP := ⟨⟨_, _, _, _, _, _, _, _, _, _, _, _, _, _, _, l_BP, h_BP⟩, sa_BP, ex_BP, ty_BP, kp_BP⟩
  have xf_BP : XfC K BP := ⟨ga_BP, gg_BP, ex_BP, hd_BP⟩
  have exm_BP := exm_ref ex_BP ic_BP ty_BP sb_BP
  have oex_NA : OexC K NA := ⟨⟨_, _, _, _, _, _, _, _, _, _, _, _, _, _, _, l_NA, h_NA⟩, sa_NA, ex_NA, ty_NA, kp_NA⟩
  have xf_NA : XfC K NA := ⟨ga_NA, gg_NA, ex_NA, hd_NA⟩
  have exm_NA := exm_ref ex_NA ic_NA ty_NA sb_NA
  have exm_BG_ME := exm_ref ex_ME ic_ME ty_ME su_BG_ME
  have exm_BP_ME := exm_ref ex_ME ic_ME ty_ME su_BP_ME
  have exm_BP_BG := exm_ref ex_BG ic_BG ty_BG su_BP_BG
  have exm_BP_NA := exm_ref ex_NA ic_NA ty_NA su_BP_NA
  have exm_NA_ME := exm_ref ex_ME ic_ME ty_ME su_NA_ME
  have exm_NA_BG := exm_ref ex_BG ic_BG ty_BG su_NA_BG
  have kit_ne : ∀ {A D : Addr}, PySem.W.subIn K (.ref A) (.ref A) = some true → PySem.W.subIn K (.ref A) (.ref D) = some false → A ≠ D := fun h1 h2 e => by rw [← e, h1] at h2; cases h2
  have TE : TxtE K mg C BR NA ME BG BP := { TPE with c_MarketError := g c_MarketError, c_BadGoods := g c_BadGoods, c_BadPosition := g c_BadPosition, c_NoAsset := g c_NoAsset, b_ValueError := z z_ValueError, xf_BadGoods := xf_BG, xf_BadPosition := xf_BP, xf_NoAsset := xf_NA, n_BadGoods_what := nw_BG_what, n_BadPosition_what := nw_BP_what, n_NoAsset_name := nw_NA_name, exm_G := exm_BG_ME, exm_P := exm_BP_ME, exm_N := exm_NA_ME, exm_R := exm_ref ex_ME ic_ME ty_ME sm_B, ec_G := ⟨ga_BG, gg_BG, ex_BG, hd_BG, ca_BG, cn_C, ct_C, cm_BG⟩, ec_P := ⟨ga_BP, gg_BP, ex_BP, hd_BP, ca_BP, cn_C, ct_C, cm_BP⟩, ec_N := ⟨ga_NA, gg_NA, ex_NA, hd_NA, ca_NA, cn_C, ct_C, cm_NA⟩, ec_R := ⟨ga_B, gg_B, ex_B, hd_B, ca_B, cn_C, ct_C, cm_B⟩, kv_N := kit_ty (by decide +kernel) sv_NA, kv_R := kit_ty (by decide +kernel) sv_B, kg_G := kit_own, kp_G := kit_ref2 (kit_ne sb_BP su_BP_BG) ic_BG ty_BG su_BP_BG, kp_P := kit_own, kn_G := kit_ref2 (kit_ne sb_NA su_NA_BG) ic_BG ty_BG su_NA_BG, kn_N := kit_own, kp_N := kit_ref2 (kit_ne sb_BP su_BP_NA) ic_NA ty_NA su_BP_NA, kr_R := kit_own }
  obtain ⟨ik, kbk⟩ := kbS F_single
  refine ⟨PySem.W.fnOf "law" "law" (defArgs s_law) (defBody s_law) (defScope s_law) .none kV_law dc_law pm_law an_law cd_law ct_law, fun s v => .of_eq rfl, fun base Kb Gb => ?_⟩
  let X_BadGoods : DefX l.prog w K mg base "BadGoods" BG ["what"] := ⟨_, _, _, oex_BG, a_xiBG, ty_xiBG, ok_BadGoods F_xiBG oex_BG nw_BG_what, b_xiBG, g c_BadGoods⟩
  let X_BadPosition : DefX l.prog w K mg base "BadPosition" BP ["what"] := ⟨_, _, _, oex_BP, a_xiBP, ty_xiBP, ok_BadPosition F_xiBP oex_BP nw_BP_what, b_xiBP, g c_BadPosition⟩
  let X_NoAsset : DefX l.prog w K mg base "NoAsset" NA ["name"] := ⟨_, _, _, oex_NA, a_xiNA, ty_xiNA, ok_NoAsset F_xiNA oex_NA nw_NA_name, b_xiNA, g c_NoAsset⟩
  let D_is_sequence : DefD l.prog w K mg base "is_sequence" 1 ["thing"] sdSeqX := ⟨_, _, ok_seqX F_is_sequence TN, g a_is_sequence, k_is_sequence, b_is_sequence⟩
  let D_is_integer : DefD l.prog w K mg base "is_integer" 1 ["thing"] sdIntX := ⟨_, _, ok_integerX F_is_integer TN, g a_is_integer, k_is_integer, b_is_integer⟩
  let D_is_row : DefD l.prog w K mg base "is_row" 3 ["thing", "length"] sdRowX := ⟨_, _, ok_rowX D_is_sequence F_is_row TN, g a_is_row, k_is_row, b_is_row⟩
  let D_is_number_row : DefD l.prog w K mg base "is_number_row" 5 ["thing", "length"] sdNumX := ⟨_, _, ok_numX D_is_row D_is_integer F_is_number_row TN, g a_is_number_row, k_is_number_row, b_is_number_row⟩
  let D_is_name : DefD l.prog w K mg base "is_name" 1 ["thing"] sdNameX := ⟨_, _, ok_nameX F_is_name TN, g a_is_name, k_is_name, b_is_name⟩
  let D_checked_goods : DefD l.prog w K mg base "checked_goods" 3 ["goods"] (sdGoodsX BG) := ⟨_, _, ok_goodsX X_BadGoods D_is_sequence D_is_name F_checked_goods TN, g a_checked_goods, k_checked_goods, b_checked_goods⟩
  let K_Position : DefK l.prog w K mg base C 7 3 ["self", "goods", "counts"] [] [] (sdPInit C BG BP) := ⟨_, _, _, _, ⟨mk_Position, a_init, i_init, kp_Position⟩, ok_pinit X_BadPosition D_checked_goods D_is_row D_is_number_row F_init TP, kb_of b_init rfl, kb_of b_init rfl⟩
  let D_Position___getitem : DefG l.prog w K mg base C 3 ["self", "at"] (sdPNo C NA) := ⟨_, _, ok_pno X_NoAsset F_getitem TP, b_getitem, ⟨a_getitem, fi_get, i_getitem⟩⟩
  let D_Position_worth : DefM l.prog w K mg base C "worth" 7 ["self", "prices"] (sdWorth C BR) := ⟨_, _, ok_pworth D_is_number_row F_worth TP, b_worth, ⟨a_worth, i_worth, k_worth⟩⟩
  let D_Position_loss : DefM l.prog w K mg base C "loss" 9 ["self", "move"] (sdLoss C BR) := ⟨_, _, ok_ploss D_Position_worth F_loss TP, b_loss, ⟨a_loss, i_loss, k_loss⟩⟩
  let D_Position_flat : DefC l.prog w K mg base C (.type "type") "flat" 9 (dfltD 2 [] (sdPFlat C BG)) := ⟨_, _, FnOk.dfltB (n := 2) (ok_pflat D_checked_goods K_Position F_flat TP) b_flat .nil rfl (fun _ => .nil), ⟨at_flat, ⟨_, a_flat⟩, fi_flat⟩⟩
  let D_Position_single_K : DefCK l.prog w K mg base C (.type "type") "single" 9 2 ["cls", "goods", "good", "count"] ["count"] (sdPSingle C BG BP NA) := ⟨_, _, _, _, ok_psingle X_NoAsset D_checked_goods K_Position F_single TP, kbk, ⟨at_single, ⟨_, a_single⟩, fi_single⟩⟩
  let D_law_bag : DefD l.prog w K mg base "_law_bag" 1 ["_law_script", "_law_at"] sdBag := ⟨_, _, ok_bag F_law_bag TN, g a_law_bag, k_law_bag, b_law_bag⟩
  let D_law_take : DefD l.prog w K mg base "_law_take" 1 ["_law_bag_here", "_law_many"] sdTake := ⟨_, _, ok_take F_law_take TB, g a_law_take, k_law_take, b_law_take⟩
  let D_law_of : DefD l.prog w K mg base "_law_of" 3 ["_law_bag_here", "_law_some"] sdOf := ⟨_, _, ok_of D_law_take F_law_of TB, g a_law_of, k_law_of, b_law_of⟩
  let D_law_names : DefD l.prog w K mg base "_law_names" 5 ["_law_bag_here", "_law_many"] sdNames := ⟨_, _, ok_names D_law_take D_law_of F_law_names TN, g a_law_names, k_law_names, b_law_names⟩
  let D_law_far : DefD l.prog w K mg base "_law_far" 3 ["_law_bag_here", "_law_most"] sdFar := ⟨_, _, ok_far D_law_take F_law_far TB, g a_law_far, k_law_far, b_law_far⟩
  let D_law_whole : DefD l.prog w K mg base "_law_whole" 5 ["_law_bag_here", "_law_most"] sdWhl := ⟨_, _, ok_whole D_law_take D_law_far F_law_whole TB, g a_law_whole, k_law_whole, b_law_whole⟩
  let D_law_counts : DefD l.prog w K mg base "_law_counts" 7 ["_law_bag_here", "_law_many", "_law_most"] sdCounts := ⟨_, _, ok_counts D_law_whole F_law_counts TB, g a_law_counts, k_law_counts, b_law_counts⟩
  let D_law_told : DefD l.prog w K mg base "_law_told" 9 ["_law_goods", "_law_counts_here"] sdTold := ⟨_, _, ok_told K_Position F_law_told TE, g a_law_told, k_law_told, b_law_told⟩
  let D_law_flat_told : DefD l.prog w K mg base "_law_flat_told" 11 ["_law_goods"] sdFlatTold := ⟨_, _, ok_flatTold D_Position_flat F_law_flat_told TE, g a_law_flat_told, k_law_flat_told, b_law_flat_told⟩
  let D_law_single_told : DefDG l.prog w K mg base "_law_single_told" 11 ["_law_goods", "_law_good", "_law_count"] sdSingleTold := ⟨_, _, ok_singleTold D_Position_single_K F_law_single_told TE, b_law_single_told, g a_law_single_told, k_law_single_told⟩
  let D_law_no_asset : DefDG l.prog w K mg base "_law_no_asset" 5 ["_law_position", "_law_thing"] (sdNoAsset C) := ⟨_, _, ok_noAsset D_Position___getitem F_law_no_asset TE, b_law_no_asset, g a_law_no_asset, k_law_no_asset⟩
  let D_law_no_prices : DefD l.prog w K mg base "_law_no_prices" 11 ["_law_position", "_law_prices", "_law_is_loss"] (sdNoPrices C) := ⟨_, _, ok_noPrices D_Position_worth D_Position_loss F_law_no_prices TE, g a_law_no_prices, k_law_no_prices, b_law_no_prices⟩
  let D_law_bad_goods : DefD l.prog w K mg base "_law_bad_goods" 5 ["_law_bag_here", "_law_goods"] sdBadG := ⟨_, _, ok_badG D_law_of F_law_bad_goods TN, g a_law_bad_goods, k_law_bad_goods, b_law_bad_goods⟩
  let D_law_bad_counts : DefD l.prog w K mg base "_law_bad_counts" 5 ["_law_bag_here", "_law_counts_here"] sdBadC := ⟨_, _, ok_badC D_law_take D_law_of F_law_bad_counts TN, g a_law_bad_counts, k_law_bad_counts, b_law_bad_counts⟩
  let D_law_things_hold : DefDG l.prog w K mg base "_law_things_hold" 13 ["_law_bag_here", "_law_position", "_law_goods", "_law_counts_here"] (sdThings C) := ⟨_, _, ok_things D_law_no_asset D_law_counts D_law_bad_counts D_law_no_prices D_Position_worth D_Position_loss F_law_things_hold TE, b_law_things_hold, g a_law_things_hold, k_law_things_hold⟩
  exact ok_law D_law_bag D_law_take D_law_names D_law_of D_law_whole D_law_counts D_law_bad_goods D_law_bad_counts D_law_told D_law_flat_told D_law_single_told D_law_things_hold K_Position F_law TE
theorem walk {l : PySem.W.OpenLaw} {q : Program} {loose : List Str} {XP : (Str → Option Value) → Heap → Prop} {YP : World → Heap → Prop} {d : DefRec} {K : Params → PySem.W.Frag} (hn : l.most = some 63) (hdf : d.params.defaults = [])
    (hY : ∀ (w : World) (h : Heap), YP w h → (K w.params).In h)
    (F : ∀ (w : World) (mg : Str → Option Value) (fa : Addr) (h : Heap), (K w.params).In h → h.Ns mainGlobals mg → mg d.name = some (.ref fa) →
      ∃ fd : FuncData, (∀ (s : Shared) (u : Value), BindsTo s fd ⟨[u], []⟩ [("_law_script", u)]) ∧ ∀ base : Heap, (K w.params).In base → base.Ns mainGlobals mg → FnOkG l.prog w (K w.params) mg base (L2.CX l.prog w) 15 fa fd ["_law_script"] (spOf (K w.params) sdLaw)) :
    PySem.W.WalkO q loose XP YP l.row.toRowW d [] (fun f vs => PySem.call f vs) :=
  walk_ofG (n := 63) (k := 15) (x := "_law_script") (CX := fun w => L2.CX l.prog w) (sp := fun w => spOf (K w.params) sdLaw) hn (by decide) hdf ⟨rfl, by decide, by decide⟩ hY F (fun _ _ a ns hl _ hS => law_in hS) fun _ _ _ _ _ z => cx_none z
end KT
open PySem PySem.W PyProof.Rows
set_option maxRecDepth 100000 in
set_option maxHeartbeats 0 in
theorem PySem.Challenge.cw_coveredday_k07_positions_refused_holds : PySem.Challenge.rw_coveredday_k07_positions_refused.Holds := by
  w_on; o_law; k_head; (case hw => w_witness2)
  k_fill
  refine KT.walk (l := PySem.Challenge.rw_coveredday_k07_positions_refused) rfl rfl (fun w h Y => PySem.W.kIn_of Y) ?F
  case F =>
    intro w mg fa h KX G hmg
    refine' KT.all_mk KX G hmg ?c_Position ?pg_Position ?hd_Position ?po_Position ?sa_Position ?mk_Position ?kp_Position ?n_Position_goods ?n_Position_counts ?n_Position__rows ?a_init ?l_init ?c_init ?k_init ?i_init ?at_flat ?a_flat ?l_flat ?c_flat ?k_flat ?at_single ?a_single ?l_single ?q_single ?c_single ?k_single ?a_worth ?l_worth ?c_worth ?k_worth ?i_worth ?a_loss ?l_loss ?c_loss ?k_loss ?i_loss ?a_getitem ?l_getitem ?c_getitem ?k_getitem ?i_getitem ?rd_C ?gb_C ?cn_C ?ct_C ?fi_get ?c_MarketError ?fi_flat ?fi_single ?c_BadPrices ?xn_B ?ex_B ?ty_B ?kp_B ?ga_B ?gg_B ?hd_B ?ca_B ?cm_B ?sm_B ?sv_B ?ex_ME ?ic_ME ?ty_ME ?c_BadGoods ?l_BG ?h_BG ?sa_BG ?ex_BG ?ty_BG ?kp_BG ?ga_BG ?gg_BG ?hd_BG ?ic_BG ?sb_BG ?nw_BG_what ?a_xiBG ?l_xiBG ?c_xiBG ?k_xiBG ?ty_xiBG ?c_BadPosition ?l_BP ?h_BP ?sa_BP ?ex_BP ?ty_BP ?kp_BP ?ga_BP ?gg_BP ?hd_BP ?ic_BP ?sb_BP ?nw_BP_what ?a_xiBP ?l_xiBP ?c_xiBP ?k_xiBP ?ty_xiBP ?c_NoAsset ?l_NA ?h_NA ?sa_NA ?ex_NA ?ty_NA ?kp_NA ?ga_NA ?gg_NA ?hd_NA ?ic_NA ?sb_NA ?nw_NA_name ?a_xiNA ?l_xiNA ?c_xiNA ?k_xiNA ?ty_xiNA ?su_BG_ME ?su_BP_ME ?su_BP_BG ?su_BP_NA ?su_NA_ME ?su_NA_BG ?ca_BG ?cm_BG ?ca_BP ?cm_BP ?ca_NA ?cm_NA ?sv_NA ?a_is_name ?l_is_name ?c_is_name ?k_is_name ?a_is_sequence ?l_is_sequence ?c_is_sequence ?k_is_sequence ?a_is_integer ?l_is_integer ?c_is_integer ?k_is_integer ?a_is_row ?l_is_row ?c_is_row ?k_is_row ?a_is_number_row ?l_is_number_row ?c_is_number_row ?k_is_number_row ?a_checked_goods ?l_checked_goods ?c_checked_goods ?k_checked_goods ?a_law_bag ?l_law_bag ?c_law_bag ?k_law_bag ?a_law_take ?l_law_take ?c_law_take ?k_law_take ?a_law_of ?l_law_of ?c_law_of ?k_law_of ?a_law_names ?l_law_names ?c_law_names ?k_law_names ?a_law_far ?l_law_far ?c_law_far ?k_law_far ?a_law_whole ?l_law_whole ?c_law_whole ?k_law_whole ?a_law_counts ?l_law_counts ?c_law_counts ?k_law_counts ?a_law_told ?l_law_told ?c_law_told ?k_law_told ?a_law_single_told ?l_law_single_told ?c_law_single_told ?k_law_single_told ?a_law_flat_told ?l_law_flat_told ?c_law_flat_told ?k_law_flat_told ?a_law_no_asset ?l_law_no_asset ?c_law_no_asset ?k_law_no_asset ?a_law_no_prices ?l_law_no_prices ?c_law_no_prices ?k_law_no_prices ?a_law_bad_goods ?l_law_bad_goods ?c_law_bad_goods ?k_law_bad_goods ?a_law_bad_counts ?l_law_bad_counts ?c_law_bad_counts ?k_law_bad_counts ?a_law_things_hold ?l_law_things_hold ?c_law_things_hold ?k_law_things_hold ?a_law ?l_law ?c_law ?k_law ?g__CASH ?g__LETTERS ?g__LONGEST_NAME ?g__MOST_GOODS ?z_int ?z_abs ?z_len ?z_range ?z_min ?z_isinstance ?z_all ?z_str ?z_bool ?z_list ?z_tuple ?z_set ?z_enumerate ?z_iter ?z_zip ?z_max ?z_sum ?z_any ?z_ValueError ?z_repr
    (case c_Position => k_is)
    (case pg_Position => k_is)
    (case hd_Position => k_is)
    (case po_Position => k_is)
    (case sa_Position => k_is)
    (case mk_Position => k_is)
    (case kp_Position => k_is)
    (case n_Position_goods => k_is)
    (case n_Position_counts => k_is)
    (case n_Position__rows => k_is)
    (case a_init => k_is)
    (case l_init => k_is)
    (case c_init => k_is)
    (case k_init => k_is)
    (case i_init => k_is)
    (case at_flat => k_is)
    (case a_flat => k_is)
    (case l_flat => k_is)
    (case c_flat => k_is)
    (case k_flat => k_is)
    (case at_single => k_is)
    (case a_single => k_is)
    (case l_single => k_is)
    (case q_single => k_is)
    (case c_single => k_is)
    (case k_single => k_is)
    (case a_worth => k_is)
    (case l_worth => k_is)
    (case c_worth => k_is)
    (case k_worth => k_is)
    (case i_worth => k_is)
    (case a_loss => k_is)
    (case l_loss => k_is)
    (case c_loss => k_is)
    (case k_loss => k_is)
    (case i_loss => k_is)
    (case a_getitem => k_is)
    (case l_getitem => k_is)
    (case c_getitem => k_is)
    (case k_getitem => k_is)
    (case i_getitem => k_is)
    (case rd_C => k_is)
    (case gb_C => k_is)
    (case cn_C => k_is)
    (case ct_C => k_is)
    (case fi_get => k_is)
    (case c_MarketError => k_is)
    (case fi_flat => k_is)
    (case fi_single => k_is)
    (case c_BadPrices => k_is)
    (case xn_B => k_exc)
    (case ex_B => k_is)
    (case ty_B => k_is)
    (case kp_B => k_is)
    (case ga_B => k_is)
    (case gg_B => k_is)
    (case hd_B => k_is)
    (case ca_B => k_is)
    (case cm_B => k_is)
    (case sm_B => k_is)
    (case sv_B => k_is)
    (case ex_ME => k_is)
    (case ic_ME => k_is)
    (case ty_ME => k_is)
    (case c_BadGoods => k_is)
    (case l_BG => k_is)
    (case h_BG => first | rfl | decide +kernel)
    (case sa_BG => k_is)
    (case ex_BG => k_is)
    (case ty_BG => k_is)
    (case kp_BG => k_is)
    (case ga_BG => k_is)
    (case gg_BG => k_is)
    (case hd_BG => k_is)
    (case ic_BG => k_is)
    (case sb_BG => k_is)
    (case nw_BG_what => k_is)
    (case a_xiBG => k_is)
    (case l_xiBG => k_is)
    (case c_xiBG => k_is)
    (case k_xiBG => k_is)
    (case ty_xiBG => k_is)
    (case c_BadPosition => k_is)
    (case l_BP => k_is)
    (case h_BP => first | rfl | decide +kernel)
    (case sa_BP => k_is)
    (case ex_BP => k_is)
    (case ty_BP => k_is)
    (case kp_BP => k_is)
    (case ga_BP => k_is)
    (case gg_BP => k_is)
    (case hd_BP => k_is)
    (case ic_BP => k_is)
    (case sb_BP => k_is)
    (case nw_BP_what => k_is)
    (case a_xiBP => k_is)
    (case l_xiBP => k_is)
    (case c_xiBP => k_is)
    (case k_xiBP => k_is)
    (case ty_xiBP => k_is)
    (case c_NoAsset => k_is)
    (case l_NA => k_is)
    (case h_NA => first | rfl | decide +kernel)
    (case sa_NA => k_is)
    (case ex_NA => k_is)
    (case ty_NA => k_is)
    (case kp_NA => k_is)
    (case ga_NA => k_is)
    (case gg_NA => k_is)
    (case hd_NA => k_is)
    (case ic_NA => k_is)
    (case sb_NA => k_is)
    (case nw_NA_name => k_is)
    (case a_xiNA => k_is)
    (case l_xiNA => k_is)
    (case c_xiNA => k_is)
    (case k_xiNA => k_is)
    (case ty_xiNA => k_is)
    (case su_BG_ME => k_is)
    (case su_BP_ME => k_is)
    (case su_BP_BG => k_is)
    (case su_BP_NA => k_is)
    (case su_NA_ME => k_is)
    (case su_NA_BG => k_is)
    (case ca_BG => k_is)
    (case cm_BG => k_is)
    (case ca_BP => k_is)
    (case cm_BP => k_is)
    (case ca_NA => k_is)
    (case cm_NA => k_is)
    (case sv_NA => k_is)
    (case a_is_name => k_is)
    (case l_is_name => k_is)
    (case c_is_name => k_is)
    (case k_is_name => k_is)
    (case a_is_sequence => k_is)
    (case l_is_sequence => k_is)
    (case c_is_sequence => k_is)
    (case k_is_sequence => k_is)
    (case a_is_integer => k_is)
    (case l_is_integer => k_is)
    (case c_is_integer => k_is)
    (case k_is_integer => k_is)
    (case a_is_row => k_is)
    (case l_is_row => k_is)
    (case c_is_row => k_is)
    (case k_is_row => k_is)
    (case a_is_number_row => k_is)
    (case l_is_number_row => k_is)
    (case c_is_number_row => k_is)
    (case k_is_number_row => k_is)
    (case a_checked_goods => k_is)
    (case l_checked_goods => k_is)
    (case c_checked_goods => k_is)
    (case k_checked_goods => k_is)
    (case a_law_bag => k_is)
    (case l_law_bag => k_is)
    (case c_law_bag => k_is)
    (case k_law_bag => k_is)
    (case a_law_take => k_is)
    (case l_law_take => k_is)
    (case c_law_take => k_is)
    (case k_law_take => k_is)
    (case a_law_of => k_is)
    (case l_law_of => k_is)
    (case c_law_of => k_is)
    (case k_law_of => k_is)
    (case a_law_names => k_is)
    (case l_law_names => k_is)
    (case c_law_names => k_is)
    (case k_law_names => k_is)
    (case a_law_far => k_is)
    (case l_law_far => k_is)
    (case c_law_far => k_is)
    (case k_law_far => k_is)
    (case a_law_whole => k_is)
    (case l_law_whole => k_is)
    (case c_law_whole => k_is)
    (case k_law_whole => k_is)
    (case a_law_counts => k_is)
    (case l_law_counts => k_is)
    (case c_law_counts => k_is)
    (case k_law_counts => k_is)
    (case a_law_told => k_is)
    (case l_law_told => k_is)
    (case c_law_told => k_is)
    (case k_law_told => k_is)
    (case a_law_single_told => k_is)
    (case l_law_single_told => k_is)
    (case c_law_single_told => k_is)
    (case k_law_single_told => k_is)
    (case a_law_flat_told => k_is)
    (case l_law_flat_told => k_is)
    (case c_law_flat_told => k_is)
    (case k_law_flat_told => k_is)
    (case a_law_no_asset => k_is)
    (case l_law_no_asset => k_is)
    (case c_law_no_asset => k_is)
    (case k_law_no_asset => k_is)
    (case a_law_no_prices => k_is)
    (case l_law_no_prices => k_is)
    (case c_law_no_prices => k_is)
    (case k_law_no_prices => k_is)
    (case a_law_bad_goods => k_is)
    (case l_law_bad_goods => k_is)
    (case c_law_bad_goods => k_is)
    (case k_law_bad_goods => k_is)
    (case a_law_bad_counts => k_is)
    (case l_law_bad_counts => k_is)
    (case c_law_bad_counts => k_is)
    (case k_law_bad_counts => k_is)
    (case a_law_things_hold => k_is)
    (case l_law_things_hold => k_is)
    (case c_law_things_hold => k_is)
    (case k_law_things_hold => k_is)
    (case a_law => k_is)
    (case l_law => k_is)
    (case c_law => k_is)
    (case k_law => k_is)
    (case g__CASH => k_is)
    (case g__LETTERS => k_is)
    (case g__LONGEST_NAME => k_is)
    (case g__MOST_GOODS => k_is)
    (case z_int => k_is)
    (case z_abs => k_is)
    (case z_len => k_is)
    (case z_range => k_is)
    (case z_min => k_is)
    (case z_isinstance => k_is)
    (case z_all => k_is)
    (case z_str => k_is)
    (case z_bool => k_is)
    (case z_list => k_is)
    (case z_tuple => k_is)
    (case z_set => k_is)
    (case z_enumerate => k_is)
    (case z_iter => k_is)
    (case z_zip => k_is)
    (case z_max => k_is)
    (case z_sum => k_is)
    (case z_any => k_is)
    (case z_ValueError => k_is)
    (case z_repr => k_is)
