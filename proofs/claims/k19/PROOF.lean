import PyProof.Rows.All
import Wide.All
import OpenK.AllK
import Wide.FinOn
import HandS.ForMost
import HandS.Walk
import HandS.Style
import HandS.Strs
import HandS.Conv
import HandS.Base
import HandS.Call
import HandS.Words
import HandS.List
import HandS.Exc
import HandS.ExcOwn
import HandS.WordsExc
import HandS.CallSlots
import HandS.Property
import HandS.ExcInit
import HandS.ExcField
import HandS.TryOnly
import HandS.IsInst
import HandS.TupAny
import HandS.TupMul
import HandS.Text
import HandS.SlotsOwn
import HandS.Iter
import HandS.Comp
import HandS.More
import HandS.Dict
import HandS.Zip
import HandS.ExcIs
import HandS.Deep
import HandS.MakeKwOnly
import HandS.ClsMeth
import HandS.Star
import HandS.IterVal
import HandS.CallLocal
import KE.KOwnIter
import HandS.Wide
import HandS.Zip0
import HandS.Small
import HandS.RaiseMore
import PyProof.ExcBaseAll.ValueError
import KE.KExcIs
import HandS.Defaults
import KE.KDictZip
import PyProof.NeKinds
import PyProof.EqKinds
import HandS.OwnIter
import PySem.Challenge.RW_coveredday_k19_whole_tables_are_their_mo
set_option Elab.async false
set_option linter.all false
set_option maxRecDepth 100000
set_option maxHeartbeats 0
namespace RS
open PySem PySem.Spec PyProof.Rows L2
/-! ### the unlike texts among some -/
def put (a : List Str) (x : Str) : List Str := if x ∈ a then a else a ++ [x]
def uniq (xs : List Str) : List Str := xs.foldl put []
theorem uniq_snoc (xs : List Str) (x : Str) : uniq (xs ++ [x]) = put (uniq xs) x := by
  unfold uniq
  rw [List.foldl_append]
  rfl
theorem mem_put {a : List Str} {x y : Str} : y ∈ put a x ↔ y ∈ a ∨ y = x := by
  unfold put
  by_cases h : x ∈ a
  · rw [if_pos h]
    refine ⟨.inl, fun z => ?_⟩
    rcases z with z | z
    · exact z
    · rwa [z]
  · rw [if_neg h, List.mem_append, List.mem_singleton]
theorem mem_fold {y : Str} : ∀ (xs a : List Str), y ∈ xs.foldl put a ↔ y ∈ a ∨ y ∈ xs
  | [], a => by simp
  | x :: r, a => by
    rw [List.foldl_cons, mem_fold r, mem_put, List.mem_cons]
    constructor
    · rintro ((h | h) | h)
      · exact .inl h
      · exact .inr (.inl h)
      · exact .inr (.inr h)
    · rintro (h | h | h)
      · exact .inl (.inl h)
      · exact .inl (.inr h)
      · exact .inr h
theorem mem_uniq {xs : List Str} {y : Str} : y ∈ uniq xs ↔ y ∈ xs := by
  unfold uniq
  rw [mem_fold]
  simp
theorem len_fold : ∀ (xs a : List Str), (xs.foldl put a).length ≤ a.length + xs.length ∧ (xs.Nodup → (∀ x ∈ xs, x ∉ a) → (xs.foldl put a).length = a.length + xs.length) ∧ ((xs.foldl put a).length = a.length + xs.length → xs.Nodup ∧ ∀ x ∈ xs, x ∉ a)
  | [], a => ⟨by simp, fun _ _ => by simp, fun _ => ⟨List.nodup_nil, fun _ h => (nomatch h)⟩⟩
  | x :: r, a => by
    obtain ⟨h1, h2, h3⟩ := len_fold r (put a x)
    rw [List.foldl_cons, List.length_cons]
    by_cases h : x ∈ a
    · have e : put a x = a := if_pos h
      rw [e] at h1 h2 h3 ⊢
      exact ⟨by omega, fun _ n => absurd h (n x List.mem_cons_self), fun q => by omega⟩
    · have e : put a x = a ++ [x] := if_neg h
      have l : (put a x).length = a.length + 1 := by rw [e, List.length_append]; rfl
      rw [l] at h1 h2 h3
      refine ⟨by omega, fun nd n => ?_, fun q => ?_⟩
      · obtain ⟨nx, nr⟩ := List.nodup_cons.mp nd
        have := h2 nr fun y hy => by
          rw [mem_put]
          rintro (z | z)
          · exact n y (List.mem_cons_of_mem _ hy) z
          · exact nx (z ▸ hy)
        omega
      · obtain ⟨nr, nn⟩ := h3 (by omega)
        refine ⟨List.nodup_cons.mpr ⟨fun hx => nn x hx (mem_put.mpr (.inr rfl)), nr⟩, fun y hy => ?_⟩
        rcases List.mem_cons.mp hy with rfl | hy
        · exact h
        · exact fun z => nn y hy (mem_put.mpr (.inl z))
theorem uniq_len (xs : List Str) : (uniq xs).length ≤ xs.length := by
  have := (len_fold xs []).1
  simpa [uniq] using this
theorem uniq_lt (xs : List Str) : (uniq xs).length < xs.length ↔ ¬ xs.Nodup := by
  obtain ⟨h1, h2, h3⟩ := len_fold xs []
  unfold uniq
  simp only [List.length_nil, Nat.zero_add] at h1 h2 h3
  constructor
  · intro h nd
    have := h2 nd (fun _ _ z => (nomatch z))
    omega
  · intro h
    have : (xs.foldl put []).length ≠ xs.length := fun e => h (h3 e).1
    omega
section
variable {prog : Program} {w : World} {A : Around} {R : Result → Shared → Prop} {I S : Addr} {fp wr : List Addr} {G : Array GenState → Array GenState → Prop} {n : Nat} {P : Nat → Value → Prop} {St : Nat → Shared → Prop}
/-- the set at S holds the texts ys -/
def Holds (prog : Program) (w : World) (h : Heap) (S : Addr) (ys : List Str) : Prop := h.SetOf (PySem.strKind prog w) S (fun k => decide (k ∈ ys)) ys.length
theorem Holds.keep {h h' : Heap} {ys : List Str} (q : Holds prog w h S ys) (k : ∀ o, h.get? S = some o → h'.get? S = some o) : Holds prog w h' S ys := by
  obtain ⟨o, es, ep, tb, ho, rest⟩ := q
  exact ⟨o, es, ep, tb, k o ho, rest⟩
theorem Holds.put {h : Heap} {ys : List Str} {x : Str} (q : h.SetOf (PySem.strKind prog w) S (fun k => decide (k ∈ ys) || decide (k = x)) (if decide (x ∈ ys) = true then ys.length else ys.length + 1)) : Holds prog w h S (RS.put ys x) := by
  refine SetOf_congr q (fun k => ?_) ?_
  · rw [Bool.eq_iff_iff]
    simp [mem_put]
  · unfold RS.put
    by_cases hx : x ∈ ys
    · rw [if_pos (decide_eq_true hx), if_pos hx]
    · rw [if_neg (by simpa using hx), if_neg hx, List.length_append]
      rfl
theorem fill (W : WalksS prog w A.in1 I fp wr G n P St) (nS : S ∉ fp) (xs : List Str) (hn : xs.length = n) (few : n + 1 < scanBound) (hv : ∀ i v, P i v → ∃ t, v = .str (xs.getD i Str.empty) t) :
    ∀ (k i : Nat) (s : Shared), i + k = n → St i s → Holds prog w s.heap S (uniq (xs.take i)) → (∀ s', Moved (S :: wr) G s s' → Holds prog w s'.heap S (uniq xs) → R (.ok (.ret .none)) s') →
      codeAny (model prog w) A (.builtin "set.update.loop" ⟨[.ref S, .ref I], []⟩) R s := by
  have nW : S ∉ wr := fun h => nS (W.sub _ h)
  have up : ∀ b ∈ wr, b ∈ S :: wr := fun _ hb => List.mem_cons_of_mem _ hb
  intro k
  induction k with
  | zero =>
    intro i s e st q done
    have ei : i = n := e
    subst ei
    rw [← hn, List.take_length] at q
    refine codeAny_builtin PyProof.Rows.F.entry_set_update_loop (?_ : wpAny _ _ (pyNext (.ref I) >>= _) _ _ s)
    rw [Around.under_plainId PyProof.Rows.F.plain_set_update_loop _]
    exact wpAny_bind (W.done s _ _ st fun s1 m => (wpAny_pure (done s1 (m.mono up) (q.keep fun o ho => m.heap S o nW ho)) : wpAny _ A.in1 (ret Value.none) _ _ s1))
  | succ k ih =>
    intro i s e st q done
    have lt : i < n := by omega
    have lx : i < xs.length := by omega
    refine codeAny_builtin PyProof.Rows.F.entry_set_update_loop (?_ : wpAny _ _ (pyNext (.ref I) >>= _) _ _ s)
    rw [Around.under_plainId PyProof.Rows.F.plain_set_update_loop _]
    refine wpAny_bind (W.item i s _ _ lt st fun v s1 hP st1 m => ?_)
    obtain ⟨t, rfl⟩ := hv i v hP
    have ex : xs.getD i Str.empty = xs[i] := by simp [List.getD, lx]
    rw [ex]
    have q1 : Holds prog w s1.heap S (uniq (xs.take i)) := q.keep fun o ho => m.heap S o nW ho
    refine (?_ : wpAny _ A.in1 (holding [Value.str xs[i] t] (setAdd S (.str xs[i] t)) >>= _) _ _ s1)
    refine wpAny_bind (wpAny_holding ?_)
    unfold setAdd
    refine wpAny_holding (wpAny_bind ((PySem.strKind prog w).pyHash (k := xs[i]) (strKind_is _ _ _ _) ?_))
    have room : (uniq (xs.take i)).length + 1 < scanBound := by
      have := uniq_len (xs.take i)
      rw [List.length_take] at this
      omega
    refine wpAny_setAddHashed_of (knd := PySem.strKind prog w) (s := { s1 with toks := s1.toks + 1 }) (strKind_is _ _ _ _) rfl q1 room fun h2 sb q2 => ?_
    have q3 : Holds prog w h2 S (uniq (xs.take (i + 1))) := by
      rw [List.take_add_one, List.getElem?_eq_getElem lx]
      show Holds prog w h2 S (uniq (xs.take i ++ [xs[i]]))
      rw [uniq_snoc]
      exact Holds.put q2
    refine wpAny_pure ⟨plainId_quiet PyProof.Rows.F.plain_set_update_loop _, ih (i + 1) _ (by omega) (W.frame _ s1 _ _ st1 (Nat.le_succ _) fun b hb o ho => (sb.2 b fun z => nS (z ▸ hb)).trans ho) q3 fun s3 m3 q4 => ?_⟩
    exact done s3 (Moved.trans W.gtrans ((m.mono up).then_heap (Nat.le_succ _) fun b o hb ho => (sb.2 b fun z => hb (z ▸ List.mem_cons_self)).trans ho) m3) q4
end
section
variable {prog : Program} {w : World} {A : Around} {E : Value → Shared → Prop} {s : Shared}
/-- an empty set, just made -/
abbrev newSet (led : Bool) : Obj := { cls := .type "set", dict := none, data := .set #[] 0 (.fresh 0 0 led) }
/-- what set(l) leaves -/
def Left (prog : Program) (w : World) (s : Shared) (xs : List Str) (h : Heap) : Prop := Holds prog w h s.heap.objs.size (uniq xs) ∧ ∀ b o, s.heap.get? b = some o → h.get? b = some o
theorem set_texts {l : Addr} {items : Array Value} {xs : List Str} {Q : Value → Shared → Prop} (calm : A.handled = none) (hl : s.heap.IsTuple l items) (hi : StrsAre items.toList xs) (few : xs.length + 1 < scanBound)
    (done : ∀ (h : Heap) (tk : Nat), Left prog w s xs h → Q (.ref s.heap.objs.size) { s with heap := h, toks := tk }) : wpAny (model prog w) A (call (.type "set") [.ref l]) Q E s := by
  have size : xs.length = items.size := by rw [← StrsAre.len_eq hi, Array.length_toList]
  have lS : l < s.heap.objs.size := by
    obtain ⟨ol, hol, _⟩ := hl
    exact Heap.lt_size hol
  obtain ⟨cm, tm, mroIs⟩ := PySem.F.called_set.mro
  have madeIs := PySem.F.called_set.made
  have subIs := PySem.F.called_set.sub
  refine wpAny_call (codeAny_of_tree (?_ : wpAny _ _ (callAny (.type "set") _) _ _ _))
  refine wpAny_pure ⟨Code.quiet_builtin _ (by decide +kernel), codeAny_builtin PySem.F.entry_type_call ?_⟩
  rw [Around.under_plain (weight_type_call_type "set" [.ref l] []) rfl]
  have noType := PySem.F.called_set.notType
  have may := PySem.F.called_set.canCreate
  have callIs := PySem.F.typeCall_set_1 (.ref l)
  repeat (any_goals (first | assumption | wp_step))
  refine codeAny_mono (code_set_new_1 (.ref l) (E := E) (Q₁ := fun v s1 => ∃ led, v = .ref s.heap.objs.size ∧ s1 = { s with heap := s.heap.push (newSet led) }) fun led => ⟨led, rfl, rfl⟩) fun r s1 hr => ?_
  cases r with
  | error e => exact hr
  | ok fl =>
    cases fl with
    | next => exact hr.elim
    | brk => exact hr.elim
    | cont => exact hr.elim
    | ret v =>
      obtain ⟨led, rfl, rfl⟩ := hr
      have atS : (s.heap.push (newSet led)).get? s.heap.objs.size = some (newSet led) := Heap.get?_push_size _ rfl
      have isS : Shared.TypeIs { s with heap := s.heap.push (newSet led) } (.ref s.heap.objs.size) "set" := ⟨_, atS, rfl⟩
      have lookIs := PySem.F.called_set.init.lookup
      have bindIs := PySem.F.called_set.init.bind (.ref s.heap.objs.size)
      repeat (any_goals (first | assumption | wp_step))
      refine codeAny_mono (codeAny_call_builtin (R := wants (fun r s2 => r = .none ∧ ∃ h tk, s2 = { s with heap := h, toks := tk } ∧ Left prog w s xs h) E) PySem.F.called_set.init.plain PySem.F.entry_set_init (check_set_init_1 isS ?_)) fun r2 s2 hr2 => ?_
      · obtain ⟨⟨oc, od, dt, sl⟩, ho, hc, nl, hd⟩ := hl
        simp only at hc hd
        subst hc
        subst hd
        have atL := Heap.get?_push_of_some (newSet led) ho
        have notS := PySem.F.sub_tuple_set
        have notF := PySem.F.sub_tuple_frozenset
        have notD : (Value.type "tuple" == Value.type "dict") = false := by decide
        have tupL : (s.heap.push (newSet led)).IsTuple l items := ⟨_, atL, rfl, nl, rfl⟩
        have sz : (s.heap.push (newSet led)).objs.size = s.heap.objs.size + 1 := Heap.size_push ..
        unfold Builtin.«set.__init__» noKeywords Builtin.Frozenset.updateFrom
        generalize keep : pyIter = it
        wp_walk
        subst keep
        refine wpAny_pyIter_tuple tupL (wpAny_bind (wpAny_runValue ?_))
        have calm3 : A.in1.in1.in1.handled = none := by simp [calm]
        have neL : l ≠ (s.heap.push (newSet led)).objs.size := by
          rw [sz]
          exact Nat.ne_of_lt (Nat.lt_succ_of_lt lS)
        have neS : s.heap.objs.size ∉ [(s.heap.push (newSet led)).objs.size, l] := by
          rw [sz]
          simp only [List.mem_cons, List.not_mem_nil, or_false, not_or]
          exact ⟨Nat.ne_of_lt (Nat.lt_succ_self _), Nat.ne_of_gt lS⟩
        refine fill ((Walks.tuple calm3 _ l neL items).toS) neS xs size (by omega) (fun i v hv => SS.strs_at hi i v (by rw [Array.getElem?_toList]; exact hv)) items.size 0 _ (Nat.zero_add _) ⟨⟨_, Heap.get?_push_size _ rfl, rfl, rfl⟩, tupL.push _⟩ ?_ ?_
        · have at2 := Heap.get?_push_of_some ({ cls := .type "tuple_iterator", data := .fields #[.ref l, .int 0 0] } : Obj) atS
          exact SetOf_congr ((setObjOf_fresh (knd := PySem.strKind prog w) led).setOf at2 (by unfold scanBound; omega)) (fun k => by rw [List.take_zero]; rfl) (by rw [List.take_zero]; rfl)
        · intro s3 m q
          obtain ⟨h3, g3, d3, tk3, os3⟩ := s3
          obtain rfl : g3 = s.gens := m.gens
          obtain rfl : d3 = s.drawn := m.drawn
          obtain rfl : os3 = s.os := m.os
          show wpAny _ _ _ _ _ _
          refine wpAny_pure ?_
          show wpAny _ _ (ret Value.none) _ _ _
          refine wpAny_pure ⟨rfl, h3, tk3, rfl, q, fun b o e => ?_⟩
          have lb := Heap.lt_size e
          refine m.heap b o ?_ (Heap.get?_push_of_some _ (Heap.get?_push_of_some _ e))
          rw [sz]
          simp only [List.mem_cons, List.not_mem_nil, or_false, not_or]
          exact ⟨Nat.ne_of_lt lb, Nat.ne_of_lt (Nat.lt_succ_of_lt lb)⟩
      · cases r2 with
        | error e => exact hr2
        | ok fl2 =>
          cases fl2 with
          | next => exact hr2.elim
          | brk => exact hr2.elim
          | cont => exact hr2.elim
          | ret r =>
            obtain ⟨rfl, h, tk, rfl, q⟩ := hr2
            repeat (any_goals (first | assumption | wp_step))
            exact done h tk q
end
section
variable {X : Cx} {a : Expr} {ta : TE} {p p2 q pos : Pos}
/-- len(set(t)), t a tuple of texts -/
def tLenSetT (K : PySem.W.Frag) (ta : TE) : TE := fun σ H Q => ta σ H fun x H1 => ∃ (l : Addr) (xs : List Str), x = .ref l ∧ SqT K H1 l (xs.map V.str) ∧ xs.length ≤ 1000 ∧ Q (.int ((uniq xs).length : Nat)) H1
theorem pe_lenSetT (hc : X.calm = true) (hg : Gl X "len") (hm : X.mg "len" = none) (hg2 : Gl X "set") (hm2 : X.mg "set" = none) (ha : PE X a ta)
    (na : starEach [a] X.env = (false, eval a X.env) :: starEach [] X.env := by rfl) : PE X (.Call (.Name "len" p) [.Call (.Name "set" p2) [a] [] q] [] pos) (tLenSetT X.K ta) := by
  refine ⟨fun pins s σ H Q I h => Call_ (ld_blt I hg hm boot_len ?_)⟩
  refine PyProof.Rows.callWith_builtin1 (PyProof.Rows.args_cons (Call_ (ld_blt I hg2 hm2 boot_set ?_)) rfl) rfl rfl
  refine PyProof.Rows.callWith_type1 (PyProof.Rows.args_cons (thn (ha.run pins s σ H _ I h) fun v s1 ⟨x, H1, I1, r1, l, xs, ex, sq, few, q1⟩ => PyProof.Rows.args_nil ?_) na) na rfl
  subst ex
  cases r1
  obtain ⟨its, r, pl, hz⟩ := I1.tuple sq
  refine set_texts (I1.ok.hd hc) pl (by simpa using strsAre_of r) (Nat.lt_of_le_of_lt (Nat.succ_le_succ few) (by decide)) fun h1 tk left => PyProof.Rows.args_nil ?_
  obtain ⟨⟨o, es, ep, t, ho, exact', hd, _, _, _, fits, hn⟩, k⟩ := left
  have I2 : Inv X pins σ H1 { s1 with heap := h1, toks := tk } := I1.kept k
  have small : (uniq xs).length ≤ 1000 := Nat.le_trans (uniq_len xs) few
  exact call_len_set ho exact' hd fits (by rw [hn]; omega) ⟨.int ((uniq xs).length : Nat), H1, I2.tok _, ⟨_, by rw [hn]⟩, q1⟩
end
end RS

set_option Elab.async false
set_option linter.all false
set_option maxRecDepth 100000
/-! data in place of heaps: what a value stands for, and the state of a def's body by data alone -/
namespace DL
open PySem PySem.Spec PyProof.Rows L2
inductive D where
  | non | bl (b : Bool) | int (i : Int) | str (x : Str) | ty (n : String) | adr (a : Addr)
  | lst (xs : List D) | ro (xs : List D) | tup (xs : List D) | rot (xs : List D) | obj (C : Addr) (fs : List (Str × D)) | dT (kvs : List (List Key × D)) | dK (kvs : List (Key × D))
  | exc (a : Addr) (cls : Value) (dd : Option Addr) (C : Addr) (fs : Option (List (Str × D))) | gho (vs : List V) (ds : List D)
mutual
/-- the value v stands for the data d, in the part F of the heap that never changes -/
inductive Rep (K : PySem.W.Frag) (F : Hp) : V → D → Prop
  | non : Rep K F .non .non
  | bl (b : Bool) : Rep K F (.bl b) (.bl b)
  | int (i : Int) : Rep K F (.int i) (.int i)
  | str {x : Str} (k : PyData.strOk x = true) : Rep K F (.str x) (.str x)
  | ty (n : String) : Rep K F (.ty n) (.ty n)
  | adr (a : Addr) : Rep K F (.ref a) (.adr a)
  | lst {p : Addr} {vs : List V} {ds : List D} (s : F p = some (.lst vs)) (h : RepL K F vs ds) : Rep K F (.ref p) (.lst ds)
  | ro {p : Addr} {vs : List V} {ds : List D} (s : SqL K F p vs) (h : RepL K F vs ds) : Rep K F (.ref p) (.ro ds)
  | tup {p : Addr} {vs : List V} {ds : List D} (s : F p = some (.tup vs)) (h : RepL K F vs ds) : Rep K F (.ref p) (.tup ds)
  | rot {p : Addr} {vs : List V} {ds : List D} (s : SqT K F p vs) (h : RepL K F vs ds) : Rep K F (.ref p) (.rot ds)
  | obj {p C dx : Addr} {vs : List (Str × V)} {fs : List (Str × D)} (s : F p = some (.ins C dx vs)) (h : RepF K F vs fs) : Rep K F (.ref p) (.obj C fs)
  | dT {p : Addr} {vs : List (List Key × V)} {ds : List (List Key × D)} (s : Rd F p (.dT vs)) (h : RepT K F vs ds) : Rep K F (.ref p) (.dT ds)
  | dK {p : Addr} {vs : List (Key × V)} {ds : List (Key × D)} (s : Rd F p (.dK vs)) (h : RepK K F vs ds) : Rep K F (.ref p) (.dK ds)
  | exc0 {a C : Addr} : Rep K F (.ref a) (.exc a (.ref C) none C none)
  | exc {a C dd : Addr} {vs : List (Str × V)} {fs : List (Str × D)} (s : F dd = some (.xd vs)) (h : RepF K F vs fs) : Rep K F (.ref a) (.exc a (.ref C) (some dd) C (some fs))
  /-- several values that are walked together -/
  | gho {vs : List V} {ds : List D} (h : RepL K F vs ds) : Rep K F (.int 0) (.gho vs ds)
inductive RepL (K : PySem.W.Frag) (F : Hp) : List V → List D → Prop
  | nil : RepL K F [] []
  | cons {v : V} {d : D} {vs : List V} {ds : List D} (h : Rep K F v d) (t : RepL K F vs ds) : RepL K F (v :: vs) (d :: ds)
inductive RepF (K : PySem.W.Frag) (F : Hp) : List (Str × V) → List (Str × D) → Prop
  | nil : RepF K F [] []
  | cons {n : Str} {v : V} {d : D} {vs : List (Str × V)} {ds : List (Str × D)} (h : Rep K F v d) (t : RepF K F vs ds) : RepF K F ((n, v) :: vs) ((n, d) :: ds)
inductive RepT (K : PySem.W.Frag) (F : Hp) : List (List Key × V) → List (List Key × D) → Prop
  | nil : RepT K F [] []
  | cons {n : List Key} {v : V} {d : D} {vs : List (List Key × V)} {ds : List (List Key × D)} (h : Rep K F v d) (t : RepT K F vs ds) : RepT K F ((n, v) :: vs) ((n, d) :: ds)
inductive RepK (K : PySem.W.Frag) (F : Hp) : List (Key × V) → List (Key × D) → Prop
  | nil : RepK K F [] []
  | cons {n : Key} {v : V} {d : D} {vs : List (Key × V)} {ds : List (Key × D)} (h : Rep K F v d) (t : RepK K F vs ds) : RepK K F ((n, v) :: vs) ((n, d) :: ds)
end
theorem sqt_mono {K : PySem.W.Frag} {F F' : Hp} {a : Addr} {xs : List V} (e : Same F F') (h : SqT K F a xs) : SqT K F' a xs := by
  rcases h with (h | ⟨o, h⟩) | h
  · exact .inl (.inl (e _ _ h))
  · exact .inl (.inr ⟨o, e _ _ h⟩)
  · exact .inr h
theorem rd_mono {F F' : Hp} {a : Addr} {u : HO} (e : Same F F') (h : Rd F a u) : Rd F' a u := by
  rcases h with h | ⟨o, h⟩
  · exact .inl (e _ _ h)
  · exact .inr ⟨o, e _ _ h⟩
section
variable {K : PySem.W.Frag} {F F' : Hp}
mutual
theorem Rep.mono (e : Same F F') : ∀ {v : V} {d : D}, Rep K F v d → Rep K F' v d
  | _, _, .non => .non
  | _, _, .bl b => .bl b
  | _, _, .int i => .int i
  | _, _, .str k => .str k
  | _, _, .ty n => .ty n
  | _, _, .adr a => .adr a
  | _, _, .lst s h => .lst (e _ _ s) (h.mono e)
  | _, _, .ro s h => .ro (e.seq s) (h.mono e)
  | _, _, .tup s h => .tup (e _ _ s) (h.mono e)
  | _, _, .rot s h => .rot (sqt_mono e s) (h.mono e)
  | _, _, .obj s h => .obj (e _ _ s) (h.mono e)
  | _, _, .dT s h => .dT (rd_mono e s) (h.mono e)
  | _, _, .dK s h => .dK (rd_mono e s) (h.mono e)
  | _, _, .exc0 => .exc0
  | _, _, .exc s h => .exc (e _ _ s) (h.mono e)
  | _, _, .gho h => .gho (h.mono e)
theorem RepL.mono (e : Same F F') : ∀ {vs : List V} {ds : List D}, RepL K F vs ds → RepL K F' vs ds
  | _, _, .nil => .nil
  | _, _, .cons h t => .cons (h.mono e) (t.mono e)
theorem RepF.mono (e : Same F F') : ∀ {vs : List (Str × V)} {ds : List (Str × D)}, RepF K F vs ds → RepF K F' vs ds
  | _, _, .nil => .nil
  | _, _, .cons h t => .cons (h.mono e) (t.mono e)
theorem RepT.mono (e : Same F F') : ∀ {vs : List (List Key × V)} {ds : List (List Key × D)}, RepT K F vs ds → RepT K F' vs ds
  | _, _, .nil => .nil
  | _, _, .cons h t => .cons (h.mono e) (t.mono e)
theorem RepK.mono (e : Same F F') : ∀ {vs : List (Key × V)} {ds : List (Key × D)}, RepK K F vs ds → RepK K F' vs ds
  | _, _, .nil => .nil
  | _, _, .cons h t => .cons (h.mono e) (t.mono e)
end
end
end DL

set_option Elab.async false
set_option linter.all false
set_option maxRecDepth 100000
namespace DL
open PySem PySem.Spec PyProof.Rows L2
/-- what a changing object holds -/
inductive OC where
  | lst (ds : List D) | ins (C : Addr) (fs : List (Str × D)) | dT (kvs : List (List Key × D)) | dK (kvs : List (Key × D))
def OC.toD : OC → D
  | .lst ds => .lst ds
  | .ins C fs => .obj C fs
  | .dT kvs => .dT kvs
  | .dK kvs => .dK kvs
/-- a value: data that never changes, or an object of the body's own that may change -/
inductive DV where
  | d (x : D) | own (o : OC)
def DV.toD : DV → D
  | .d x => x
  | .own o => o.toD
abbrev DSt := List (Option DV)
inductive Hold where
  | s (i : Nat) | t (n : Nat)
  deriving DecidableEq
/-- the frame: the slots of the arguments that may change, their addresses, the heaps at the entry -/
structure Fc where
  sl : List Nat
  ad : List Addr
  F0 : Hp
  H0 : Hp
def OwnRep (K : PySem.W.Frag) (F H : Hp) (p : Addr) : OC → Prop
  | .lst ds => ∃ vs, H p = some (.lst vs) ∧ RepL K F vs ds
  | .ins C fs => ∃ dx vs, H p = some (.ins C dx vs) ∧ RepF K F vs fs
  | .dT kvs => ∃ vs, H p = some (.dT vs) ∧ RepT K F vs kvs
  | .dK kvs => ∃ vs, H p = some (.dK vs) ∧ RepK K F vs kvs
/-- an address of the body's own: made since the entry, or an argument's -/
def NewAt (c : Fc) (h : Hold) (p : Addr) : Prop := c.H0 p = none ∨ (p ∈ c.ad ∧ ∃ i, h = .s i ∧ i ∈ c.sl)
def RepV (K : PySem.W.Frag) (c : Fc) (F H : Hp) (ow : Addr → Option Hold) (h : Hold) (v : V) : DV → Prop
  | .d x => Rep K F v x
  | .own o => ∃ p, v = .ref p ∧ ow p = some h ∧ F p = none ∧ NewAt c h p ∧ OwnRep K F H p o
def RepTmp (K : PySem.W.Frag) (c : Fc) (F H : Hp) (ow : Addr → Option Hold) : List (V × DV) → Prop
  | [] => True
  | (v, x) :: r => RepV K c F H ow (.t r.length) v x ∧ RepTmp K c F H ow r
structure SttF (K : PySem.W.Frag) (c : Fc) (F : Hp) (ow : Addr → Option Hold) (δ : DSt) (tmp : List (V × DV)) (σ : L2.St) (H : Hp) : Prop where
  fh : Same F H
  f0 : Same c.F0 F
  fn : ∀ a, F a ≠ none → c.F0 a ≠ none ∨ c.H0 a = none
  fr : ∀ a o, c.H0 a = some o → a ∉ c.ad → H a = some o
  up : ∀ a, H a = none → c.H0 a = none
  len : σ.length = δ.length
  sl : ∀ (i : Nat) (x : DV), δ[i]? = some (some x) → ∃ v, σ[i]? = some (some v) ∧ RepV K c F H ow (.s i) v x
  tm : RepTmp K c F H ow tmp
  ps : ∀ (k i : Nat) (p : Addr), c.sl[k]? = some i → c.ad[k]? = some p → σ[i]? = some (some (.ref p))
def Stt (K : PySem.W.Frag) (c : Fc) (δ : DSt) (tmp : List (V × DV)) (σ : L2.St) (H : Hp) : Prop := ∃ F ow, SttF K c F ow δ tmp σ H
/-- an operation that makes new objects alone -/
structure Ext (F H F' H' : Hp) : Prop where
  f : Same F F'
  h : Same H H'
  fh : Same F' H'
  nw : ∀ a, F' a ≠ none → F a ≠ none ∨ H a = none
theorem Ext.refl {F H : Hp} (s : Same F H) : Ext F H F H := ⟨Same.refl _, Same.refl _, s, fun _ h => .inl h⟩
theorem Ext.trans {F H F1 H1 F2 H2 : Hp} (a : Ext F H F1 H1) (b : Ext F1 H1 F2 H2) : Ext F H F2 H2 :=
  ⟨a.f.trans b.f, a.h.trans b.h, b.fh, fun x q => (b.nw x q).elim (a.nw x) fun z => .inr (a.h.free z)⟩
theorem same_upd {H H' : Hp} {p : Addr} {o : HO} (s : Same H H') (n : H' p = none) : Same H (upd H' p o) := fun b u e => by
  rw [upd_ne (ne_of_none (s _ _ e) n)]
  exact s _ _ e
theorem same_upd2 {F H : Hp} {p : Addr} {o : HO} (s : Same F H) : Same (upd F p o) (upd H p o) := fun b u e => by
  by_cases q : b = p
  · subst q
    rw [upd_same] at e ⊢
    exact e
  · rw [upd_ne q] at e ⊢
    exact s _ _ e
theorem same_upd1 {F H : Hp} {p : Addr} {o : HO} (s : Same F H) (e : H p = some o) : Same (upd F p o) H := fun b u q => by
  by_cases z : b = p
  · subst z
    rw [upd_same] at q
    rw [e]
    exact q
  · rw [upd_ne z] at q
    exact s _ _ q
/-- a new object, frozen at once -/
theorem Ext.new {F H : Hp} {p : Addr} {o : HO} (s : Same F H) (n : H p = none) : Ext F H (upd F p o) (upd H p o) :=
  ⟨same_upd (Same.refl F) (s.free n), same_upd (Same.refl H) n, same_upd2 s, fun a q => by
    by_cases z : a = p
    · subst z
      exact .inr n
    · rw [upd_ne z] at q
      exact .inl q⟩
/-- a new object, not frozen -/
theorem Ext.newH {F H : Hp} {p : Addr} {o : HO} (s : Same F H) (n : H p = none) : Ext F H F (upd H p o) :=
  ⟨Same.refl F, same_upd (Same.refl H) n, same_upd s n, fun _ q => .inl q⟩
section
variable {K : PySem.W.Frag} {c : Fc} {F F' H H' : Hp} {ow ow' : Addr → Option Hold} {δ : DSt} {tmp : List (V × DV)} {σ : L2.St} {v : V} {x : DV} {d : D} {o : OC} {h : Hold} {p : Addr} {i : Nat}
theorem OwnRep.has (q : OwnRep K F H p o) : H p ≠ none := by
  cases o with
  | lst ds => obtain ⟨vs, e, _⟩ := q; rw [e]; exact fun z => nomatch z
  | ins C fs => obtain ⟨dx, vs, e, _⟩ := q; rw [e]; exact fun z => nomatch z
  | dT kvs => obtain ⟨vs, e, _⟩ := q; rw [e]; exact fun z => nomatch z
  | dK kvs => obtain ⟨vs, e, _⟩ := q; rw [e]; exact fun z => nomatch z
theorem OwnRep.mono (q : OwnRep K F H p o) (f : Same F F') (e : H' p = H p) : OwnRep K F' H' p o := by
  cases o with
  | lst ds => obtain ⟨vs, z, r⟩ := q; exact ⟨vs, e.trans z, r.mono f⟩
  | ins C fs => obtain ⟨dx, vs, z, r⟩ := q; exact ⟨dx, vs, e.trans z, r.mono f⟩
  | dT kvs => obtain ⟨vs, z, r⟩ := q; exact ⟨vs, e.trans z, r.mono f⟩
  | dK kvs => obtain ⟨vs, z, r⟩ := q; exact ⟨vs, e.trans z, r.mono f⟩
theorem Same.at {p : Addr} (s : Same H H') (n : H p ≠ none) : H' p = H p := by
  cases q : H p with
  | none => exact absurd q n
  | some u => exact s _ _ q
theorem RepV.ext (q : RepV K c F H ow h v x) (e : Ext F H F' H') : RepV K c F' H' ow h v x := by
  cases x with
  | d y => exact Rep.mono e.f q
  | own o =>
    obtain ⟨p, rfl, a, n, w, r⟩ := q
    refine ⟨p, rfl, a, ?_, w, r.mono e.f (Same.at e.h r.has)⟩
    cases z : F' p with
    | none => rfl
    | some u =>
      rcases e.nw p (by rw [z]; exact fun q => nomatch q) with y | y
      · exact absurd n y
      · exact absurd y r.has
theorem RepTmp.ext (e : Ext F H F' H') : ∀ {tmp : List (V × DV)}, RepTmp K c F H ow tmp → RepTmp K c F' H' ow tmp
  | [], _ => True.intro
  | (_, _) :: _, q => ⟨q.1.ext e, RepTmp.ext e q.2⟩
theorem SttF.ext (S : SttF K c F ow δ tmp σ H) (e : Ext F H F' H') : SttF K c F' ow δ tmp σ H' :=
  ⟨e.fh, S.f0.trans e.f, fun a q => (e.nw a q).elim (S.fn a) fun z => .inr (S.up a z), fun a o q n => e.h _ _ (S.fr a o q n), fun a q => S.up a (e.h.free q), S.len,
    fun i x q => let ⟨v, e1, e2⟩ := S.sl i x q; ⟨v, e1, e2.ext e⟩, RepTmp.ext e S.tm, S.ps⟩
theorem SttF.push (S : SttF K c F ow δ tmp σ H) (r : Rep K F v d) : SttF K c F ow δ ((v, .d d) :: tmp) σ H := { S with tm := ⟨r, S.tm⟩ }
theorem SttF.pop (S : SttF K c F ow δ ((v, x) :: tmp) σ H) : SttF K c F ow δ tmp σ H := { S with tm := S.tm.2 }
theorem SttF.top (S : SttF K c F ow δ ((v, .d d) :: tmp) σ H) : Rep K F v d := S.tm.1
/-- the holder of one address changes -/
def owSet (ow : Addr → Option Hold) (p : Addr) (h : Hold) : Addr → Option Hold := fun a => if a = p then some h else ow a
theorem RepV.reown (q : RepV K c F H ow h v x) (n : ∀ p, v = .ref p → ow p = some h → H p ≠ none → ow' p = ow p) : RepV K c F H ow' h v x := by
  cases x with
  | d y => exact q
  | own o =>
    obtain ⟨p, rfl, a, b, w, r⟩ := q
    exact ⟨p, rfl, (n p rfl a r.has).trans a, b, w, r⟩
theorem RepTmp.reown (n : ∀ (k : Nat) p, k < tmp.length → ow p = some (.t k) → H p ≠ none → ow' p = ow p) (q : RepTmp K c F H ow tmp) : RepTmp K c F H ow' tmp := by
  induction tmp with
  | nil => exact True.intro
  | cons a r ih =>
    obtain ⟨v, x⟩ := a
    exact ⟨q.1.reown fun p _ e z => n _ p (Nat.lt_succ_self _) e z, ih (fun k p hk e z => n k p (Nat.lt_succ_of_lt hk) e z) q.2⟩
theorem owSet_ne {p a : Addr} (n : a ≠ p) : owSet ow p h a = ow a := if_neg n
theorem owSet_at {p : Addr} : owSet ow p h p = some h := if_pos rfl
theorem SttF.reown (S : SttF K c F ow δ tmp σ H) (ns : ∀ (k : Nat) p, ow p = some (.s k) → H p ≠ none → ow' p = ow p) (nt : ∀ (k : Nat) p, k < tmp.length → ow p = some (.t k) → H p ≠ none → ow' p = ow p) : SttF K c F ow' δ tmp σ H :=
  { S with sl := fun i x q => let ⟨v, e1, e2⟩ := S.sl i x q; ⟨v, e1, e2.reown fun p _ e z => ns i p e z⟩, tm := RepTmp.reown nt S.tm }
/-- a new object of the body's own -/
theorem SttF.pushNew {ob : HO} (S : SttF K c F ow δ tmp σ H) (n : H p = none) (r : OwnRep K F (upd H p ob) p o) : SttF K c F (owSet ow p (.t tmp.length)) δ ((.ref p, .own o) :: tmp) σ (upd H p ob) := by
  have S1 := S.reown (ow' := owSet ow p (.t tmp.length)) (fun k a _ z => owSet_ne fun e => z (by rw [e]; exact n)) (fun k a _ _ z => owSet_ne fun e => z (by rw [e]; exact n))
  have S2 := S1.ext (Ext.newH (o := ob) S.fh n)
  refine { S2 with tm := ⟨⟨p, rfl, owSet_at, ?_, .inl (S.up _ n), r⟩, S2.tm⟩ }
  cases q : F p with
  | none => rfl
  | some u => rw [S.fh _ _ q] at n; cases n
/-- what is on top of the stack will change no more -/
theorem OwnRep.freeze (q : OwnRep K F H p o) (n : F p = none) (s : Same F H) : ∃ u : HO, H p = Option.some u ∧ Rep K (upd F p u) (.ref p) o.toD := by
  cases o with
  | lst ds => obtain ⟨vs, e, r⟩ := q; exact ⟨_, e, .lst upd_same (r.mono (same_upd (Same.refl F) n))⟩
  | ins C fs => obtain ⟨dx, vs, e, r⟩ := q; exact ⟨_, e, .obj upd_same (r.mono (same_upd (Same.refl F) n))⟩
  | dT kvs => obtain ⟨vs, e, r⟩ := q; exact ⟨_, e, .dT (.inl upd_same) (r.mono (same_upd (Same.refl F) n))⟩
  | dK kvs => obtain ⟨vs, e, r⟩ := q; exact ⟨_, e, .dK (.inl upd_same) (r.mono (same_upd (Same.refl F) n))⟩
/-- the frozen part grows by an object that one holder has: all other holders keep theirs -/
theorem RepV.frz {u : HO} (q : RepV K c F H ow h v x) (n : F p = none) (ne : ∀ a, v = .ref a → ow a = some h → a ≠ p) : RepV K c (upd F p u) H ow h v x := by
  have s : Same F (upd F p u) := same_upd (Same.refl F) n
  cases x with
  | d y => exact Rep.mono s q
  | own o =>
    obtain ⟨a, rfl, e, b, w, r⟩ := q
    exact ⟨a, rfl, e, by rw [upd_ne (ne a rfl e)]; exact b, w, r.mono s rfl⟩
theorem RepTmp.frz {u : HO} (n : F p = none) (ne : ∀ (k : Nat) a, k < tmp.length → ow a = some (.t k) → a ≠ p) (q : RepTmp K c F H ow tmp) : RepTmp K c (upd F p u) H ow tmp := by
  induction tmp with
  | nil => exact True.intro
  | cons a r ih =>
    obtain ⟨v, x⟩ := a
    exact ⟨q.1.frz n fun a _ e => ne _ a (Nat.lt_succ_self _) e, ih (fun k a hk e => ne k a (Nat.lt_succ_of_lt hk) e) q.2⟩
/-- any holder's own object is frozen (no argument's) -/
theorem SttF.freezeAt {u : HO} (S : SttF K c F ow δ tmp σ H) (e : H p = some u) (n : F p = none) (w : c.H0 p = none) (ns : ∀ (k : Nat) x, δ[k]? = some (some x) → ow p ≠ some (.s k)) (nt : ∀ (k : Nat), k < tmp.length → ow p ≠ some (.t k)) : SttF K c (upd F p u) ow δ tmp σ H where
  fh := same_upd1 S.fh e
  f0 := S.f0.trans (same_upd (Same.refl F) n)
  fn := fun a q => by
    by_cases z : a = p
    · subst z; exact .inr w
    · rw [upd_ne z] at q; exact S.fn a q
  fr := S.fr
  up := S.up
  len := S.len
  sl := fun i x q => let ⟨v, e1, e2⟩ := S.sl i x q; ⟨v, e1, e2.frz n fun a _ z y => by subst y; exact ns i x q z⟩
  tm := RepTmp.frz n (fun k a hk z y => by subst y; exact nt k hk z) S.tm
  ps := S.ps
theorem NewAt.t {k : Nat} (w : NewAt c (.t k) p) : c.H0 p = none := by
  rcases w with w | ⟨_, i, e, _⟩
  · exact w
  · cases e
theorem SttF.top_frz (S : SttF K c F ow δ ((v, x) :: tmp) σ H) : ∃ F', SttF K c F' ow δ ((v, .d x.toD) :: tmp) σ H ∧ Same F F' := by
  cases x with
  | d y => exact ⟨F, S, Same.refl F⟩
  | own o =>
    obtain ⟨p, rfl, e, b, w, r⟩ := S.tm.1
    obtain ⟨u, eu, r'⟩ := r.freeze b S.fh
    have S1 := S.pop.freezeAt eu b w.t (fun k x _ z => by rw [e] at z; cases z) (fun k hk z => by rw [e] at z; cases z; exact absurd hk (Nat.lt_irrefl _))
    exact ⟨upd F p u, S1.push r', same_upd (Same.refl F) b⟩
/-- the two on top -/
theorem SttF.top_frz2 {w : V} {y : DV} (S : SttF K c F ow δ ((v, x) :: (w, y) :: tmp) σ H) : ∃ F', SttF K c F' ow δ ((v, .d x.toD) :: (w, .d y.toD) :: tmp) σ H ∧ Same F F' := by
  obtain ⟨F1, S1, s1⟩ := S.top_frz
  obtain ⟨F2, S2, s2⟩ := S1.pop.top_frz
  exact ⟨F2, S2.push (S1.top.mono s2), s1.trans s2⟩
/-- a name is bound to what is on top -/
theorem SttF.set (S : SttF K c F ow δ ((v, x) :: tmp) σ H) (hi : i < δ.length) (ni : i ∉ c.sl) : ∃ ow', SttF K c F ow' (δ.set i (some x)) tmp (σ.set i (some v)) H := by
  have hs : i < σ.length := by rw [S.len]; exact hi
  have ps' : ∀ (k j : Nat) (p : Addr), c.sl[k]? = some j → c.ad[k]? = some p → (σ.set i (some v))[j]? = some (some (.ref p)) := fun k j p q1 q2 => by
    rw [List.getElem?_set_ne (fun z => ni (by rw [z]; exact List.mem_of_getElem? q1))]
    exact S.ps k j p q1 q2
  cases x with
  | d y =>
    refine ⟨ow, { S.pop with len := by rw [List.length_set, List.length_set]; exact S.len, sl := fun j z q => ?_, ps := ps' }⟩
    by_cases e : i = j
    · subst e
      rw [List.getElem?_set_self hi] at q
      cases q
      exact ⟨v, List.getElem?_set_self hs, S.top⟩
    · rw [List.getElem?_set_ne e] at q ⊢
      exact S.sl j z q
  | own o =>
    obtain ⟨p, rfl, e, b, w, r⟩ := S.tm.1
    have S1 := S.pop.reown (ow' := owSet ow p (.s i)) (fun k a z _ => owSet_ne fun y => by subst y; rw [e] at z; cases z) (fun k a hk z _ => owSet_ne fun y => by subst y; rw [e] at z; cases z; exact absurd hk (Nat.lt_irrefl _))
    refine ⟨owSet ow p (.s i), { S1 with len := by rw [List.length_set, List.length_set]; exact S.len, sl := fun j z q => ?_, ps := ps' }⟩
    by_cases e' : i = j
    · subst e'
      rw [List.getElem?_set_self hi] at q
      cases q
      exact ⟨.ref p, List.getElem?_set_self hs, p, rfl, owSet_at, b, .inl w.t, r⟩
    · rw [List.getElem?_set_ne e'] at q ⊢
      exact S1.sl j z q
/-- a slot is forgotten -/
theorem SttF.unset (S : SttF K c F ow δ tmp σ H) : SttF K c F ow (δ.set i none) tmp σ H := by
  refine { S with len := by rw [List.length_set]; exact S.len, sl := fun j z q => ?_ }
  by_cases e : i = j
  · subst e
    rcases Nat.lt_or_ge i δ.length with h | h
    · rw [List.getElem?_set_self h] at q; cases q
    · rw [List.getElem?_eq_none (by rw [List.length_set]; exact h)] at q; cases q
  · rw [List.getElem?_set_ne e] at q
    exact S.sl j z q
theorem set_lt {α : Type} {l : List α} {i : Nat} {x : α} (h : l[i]? = some x) : i < l.length := (List.getElem?_eq_some_iff.mp h).1
/-- the value at a slot goes on top of the stack; the slot is forgotten -/
theorem SttF.move (S : SttF K c F ow δ tmp σ H) (q : δ[i]? = some (some x)) (ni : i ∉ c.sl) : ∃ v ow', σ[i]? = some (some v) ∧ SttF K c F ow' (δ.set i none) ((v, x) :: tmp) σ H := by
  obtain ⟨v, e1, r⟩ := S.sl i x q
  cases x with
  | d y => exact ⟨v, ow, e1, { S.unset with tm := ⟨r, S.tm⟩ }⟩
  | own o =>
    obtain ⟨p, rfl, e, b, w, r⟩ := r
    have w' : c.H0 p = none := by
      rcases w with w | ⟨_, j, e, hj⟩
      · exact w
      · cases e; exact absurd hj ni
    -- the slot is forgotten first: then nobody but the stack holds p
    have S0 := S.unset (i := i)
    refine ⟨.ref p, owSet ow p (.t tmp.length), e1, { S0 with sl := fun j z qz => ?_, tm := ⟨⟨p, rfl, owSet_at, b, .inl w', r⟩, RepTmp.reown (fun k a hk z _ => owSet_ne fun y => by subst y; rw [e] at z; cases z) S.tm⟩ }⟩
    obtain ⟨u, e2, r2⟩ := S0.sl j z qz
    refine ⟨u, e2, r2.reown fun a _ z' _ => owSet_ne fun y => ?_⟩
    subst y
    rw [e] at z'
    cases z'
    rw [List.getElem?_set_self (set_lt q)] at qz
    cases qz
/-- the value at a slot, frozen, is read -/
theorem SttF.slot_frz (S : SttF K c F ow δ tmp σ H) (q : δ[i]? = some (some x)) (ni : i ∉ c.sl) : ∃ v F', σ[i]? = some (some v) ∧ SttF K c F' ow (δ.set i (some (.d x.toD))) ((v, .d x.toD) :: tmp) σ H := by
  obtain ⟨v, e1, r⟩ := S.sl i x q
  have hi := set_lt q
  cases x with
  | d y =>
    refine ⟨v, F, e1, { S with len := by rw [List.length_set]; exact S.len, tm := ⟨r, S.tm⟩, sl := fun j z qz => ?_ }⟩
    by_cases e : i = j
    · subst e
      rw [List.getElem?_set_self hi] at qz
      cases qz
      exact ⟨v, e1, r⟩
    · rw [List.getElem?_set_ne e] at qz
      exact S.sl j z qz
  | own o =>
    obtain ⟨p, rfl, e, b, w, r⟩ := r
    have w' : c.H0 p = none := by
      rcases w with w | ⟨_, j, e, hj⟩
      · exact w
      · cases e; exact absurd hj ni
    obtain ⟨u, eu, r'⟩ := r.freeze b S.fh
    have S1 := (S.unset (i := i)).freezeAt eu b w' (fun k x qx z => by
      rw [e] at z; cases z
      rw [List.getElem?_set_self hi] at qx; cases qx) (fun k hk z => by rw [e] at z; cases z)
    refine ⟨.ref p, upd F p u, e1, { S1 with len := by rw [List.length_set]; exact S.len, tm := ⟨r', S1.tm⟩, sl := fun j z qz => ?_ }⟩
    by_cases e' : i = j
    · subst e'
      rw [List.getElem?_set_self hi] at qz
      cases qz
      exact ⟨.ref p, e1, r'⟩
    · rw [List.getElem?_set_ne e'] at qz
      exact S1.sl j z (by rw [List.getElem?_set_ne e']; exact qz)
/-- an own object is changed -/
theorem SttF.write {o o' : OC} {ob : HO} (S : SttF K c F ow δ tmp σ H) (q : δ[i]? = some (some (.own o))) (ep : σ[i]? = some (some (.ref p))) (r' : OwnRep K F (upd H p ob) p o') : SttF K c F ow (δ.set i (some (.own o'))) tmp σ (upd H p ob) := by
  obtain ⟨v, e1, p', rfl, e, b, w, r⟩ := S.sl i _ q
  rw [ep] at e1
  cases e1
  have hi := set_lt q
  have keep : ∀ {h : Hold} {v : V} {x : DV}, RepV K c F H ow h v x → h ≠ .s i → RepV K c F (upd H p ob) ow h v x := fun {h v x} y ne => by
    cases x with
    | d z => exact y
    | own z =>
      obtain ⟨a, rfl, ea, ba, wa, ra⟩ := y
      exact ⟨a, rfl, ea, ba, wa, ra.mono (Same.refl F) (upd_ne fun t => by subst t; rw [e] at ea; cases ea; exact ne rfl)⟩
  have keepT : ∀ {tmp : List (V × DV)}, RepTmp K c F H ow tmp → RepTmp K c F (upd H p ob) ow tmp := fun {tmp} => by
    induction tmp with
    | nil => exact fun _ => True.intro
    | cons a r ih =>
      obtain ⟨v, x⟩ := a
      exact fun y => ⟨keep y.1 (fun z => nomatch z), ih y.2⟩
  refine ⟨?_, S.f0, S.fn, fun a u z n => ?_, fun a z => ?_, by rw [List.length_set]; exact S.len, fun j z qz => ?_, keepT S.tm, S.ps⟩
  · exact fun a u z => by
      rw [upd_ne (ne_of_none z b)]
      exact S.fh _ _ z
  · rw [upd_ne (fun t => ?_)]
    · exact S.fr a u z n
    · subst t
      rcases w with w | ⟨w, _⟩
      · rw [w] at z; cases z
      · exact n w
  · by_cases t : a = p
    · subst t; rw [upd_same] at z; cases z
    · rw [upd_ne t] at z; exact S.up a z
  · by_cases e' : i = j
    · subst e'
      rw [List.getElem?_set_self hi] at qz
      cases qz
      exact ⟨.ref p, ep, p, rfl, e, b, w, r'⟩
    · rw [List.getElem?_set_ne e'] at qz
      obtain ⟨v, e2, r2⟩ := S.sl j z qz
      exact ⟨v, e2, keep r2 fun t => e' (by cases t; rfl)⟩
end
end DL

set_option Elab.async false
set_option linter.all false
set_option maxRecDepth 100000
namespace DL
open PySem PySem.Spec PyProof.Rows L2
/-- an exception: its class, its fields -/
structure Ex where
  C : Addr
  fs : Option (List (Str × D))
abbrev DK := DV → DSt → Prop
abbrev XD := Ex → DSt → Prop
abbrev TD := DSt → DK → XD → Prop
abbrev TDT := DSt → (Bool → DSt → Prop) → XD → Prop
/-- an argument: data, or the own object at a slot -/
inductive AV where
  | d (x : D) | o (i : Nat)
abbrev TDA := DSt → (List AV → DSt → Prop) → XD → Prop
structure EndsD where
  nx : DSt → Prop
  rt : DK
  ex : XD
  bk : DSt → Prop := fun _ => False
  ct : DSt → Prop := fun _ => False
abbrev TDS := EndsD → DSt → Prop
def ExRep (K : PySem.W.Frag) (F : Hp) (cls : Value) (d : Option Addr) (x : Ex) : Prop :=
  cls = .ref x.C ∧ match x.fs with
    | none => d = none
    | some fs => ∃ dd vs, d = some dd ∧ F dd = some (.xd vs) ∧ RepF K F vs fs
theorem ExRep.mono {K : PySem.W.Frag} {F F' : Hp} {cls : Value} {d : Option Addr} {x : Ex} (e : ExRep K F cls d x) (s : Same F F') : ExRep K F' cls d x := by
  obtain ⟨C, fs⟩ := x
  obtain ⟨e1, e2⟩ := e
  cases fs with
  | none => exact ⟨e1, e2⟩
  | some fs => obtain ⟨dd, vs, q1, q2, q3⟩ := e2; exact ⟨e1, dd, vs, q1, s _ _ q2, q3.mono s⟩
section
variable (K : PySem.W.Frag) (c : Fc) (W : WX)
/-- what is wished of an exception -/
def WD (tmp : List (V × DV)) (E : XD) : Prop := ∀ (x : Ex) (δ : DSt) (σ : L2.St) (H F : Hp) (ow : Addr → Option Hold) (cls : Value) (d : Option Addr), E x δ → SttF K c F ow δ tmp σ H → ExRep K F cls d x → W cls d σ H
def LE (t : TD) : TE := fun σ H Q => ∃ δ tmp Qd Ed, Stt K c δ tmp σ H ∧ t δ Qd Ed ∧ (∀ v x δ' H', Qd x δ' → Stt K c δ' ((v, x) :: tmp) σ H' → Q v H') ∧ WD K c W tmp Ed
def LT (t : TDT) : TT := fun σ H Q => ∃ δ tmp Qd Ed, Stt K c δ tmp σ H ∧ t δ Qd Ed ∧ (∀ b δ' H', Qd b δ' → Stt K c δ' tmp σ H' → Q b H') ∧ WD K c W tmp Ed
inductive RepArgs (F : Hp) (σ : L2.St) : List V → List AV → Prop
  | nil : RepArgs F σ [] []
  | d {v : V} {x : D} {vs : List V} {as : List AV} (h : Rep K F v x) (t : RepArgs F σ vs as) : RepArgs F σ (v :: vs) (.d x :: as)
  | o {v : V} {i : Nat} {vs : List V} {as : List AV} (h : σ[i]? = some (some v)) (t : RepArgs F σ vs as) : RepArgs F σ (v :: vs) (.o i :: as)
def LA (t : TDA) : TA := fun σ H Q => ∃ δ tmp Qd Ed, Stt K c δ tmp σ H ∧ t δ Qd Ed ∧ (∀ vs as δ' F ow H', Qd as δ' → SttF K c F ow δ' tmp σ H' → RepArgs K F σ vs as → Q vs H') ∧ WD K c W tmp Ed
def LS (t : TDS) : TS := fun D σ H => ∃ δ tmp Dd, Stt K c δ tmp σ H ∧ t Dd δ ∧ (∀ δ' σ' H', Dd.nx δ' → Stt K c δ' tmp σ' H' → D.nx σ' H') ∧ (∀ v x δ' σ' H', Dd.rt x δ' → Stt K c δ' ((v, x) :: tmp) σ' H' → D.rt v H') ∧
  (∀ δ' σ' H', Dd.bk δ' → Stt K c δ' tmp σ' H' → D.bk σ' H') ∧ (∀ δ' σ' H', Dd.ct δ' → Stt K c δ' tmp σ' H' → D.ct σ' H') ∧ WD K c W tmp Dd.ex
end
section
variable {K : PySem.W.Frag} {c : Fc} {W : WX} {tmp : List (V × DV)} {Ed : XD} {v : V} {x : DV}
theorem WD.push (w : WD K c W tmp Ed) : WD K c W ((v, x) :: tmp) Ed := fun y δ σ H F ow cls d e S r => w y δ σ H F ow cls d e S.pop r
end
theorem PE_imp {X : Cx} {e : Expr} {t t' : TE} (h : PE X e t) (f : ∀ σ H Q, t' σ H Q → t σ H Q) : PE X e t' := ⟨fun pins s σ H Q I q => h.run pins s σ H Q I (f _ _ _ q)⟩
theorem PT_imp {X : Cx} {e : Expr} {t t' : TT} (h : PT X e t) (f : ∀ σ H Q, t' σ H Q → t σ H Q) : PT X e t' := ⟨fun pins s σ H Q I q => h.run pins s σ H Q I (f _ _ _ q)⟩
theorem PW_imp {X : Cx} {e : Expr} {t t' : TT} (h : PW X e t) (f : ∀ σ H Q, t' σ H Q → t σ H Q) : PW X e t' := ⟨fun wh pins s σ H Q I q => h.run wh pins s σ H Q I (f _ _ _ q)⟩
theorem PA_imp {X : Cx} {e : List Expr} {t t' : TA} (h : PA X e t) (f : ∀ σ H Q, t' σ H Q → t σ H Q) : PA X e t' := ⟨fun pos pins s σ H Q I q => h.run pos pins s σ H Q I (f _ _ _ q)⟩
theorem PS_imp {X : Cx} {e : Stmt} {t t' : TS} (h : PS X e t) (f : ∀ D σ H, t' D σ H → t D σ H) : PS X e t' := ⟨fun pins s σ H D I q => h.run pins s σ H D I (f _ _ _ q)⟩
theorem PSs_imp {X : Cx} {e : List Stmt} {t t' : TS} (h : PSs X e t) (f : ∀ D σ H, t' D σ H → t D σ H) : PSs X e t' := ⟨fun pins s σ H D I q => h.run pins s σ H D I (f _ _ _ q)⟩
section
variable {X : Cx} {c : Fc} {W : WX}
/-! ### names and constants -/
def varD (i : Nat) : TD := fun δ Q _ => ∃ x, δ[i]? = some (some (.d x)) ∧ Q (.d x) δ
def fvarD (i : Nat) : TD := fun δ Q _ => ∃ x, δ[i]? = some (some x) ∧ Q (.d x.toD) (δ.set i (some (.d x.toD)))
def constD (d : D) : TD := fun δ Q _ => Q (.d d) δ
theorem pd_var {i : Nat} {x : Str} {pos : Pos} (h : PE X (.Name x pos) (tVar i)) : PE X (.Name x pos) (LE X.K c W (varD i)) := PE_imp h fun σ H Q ⟨δ, tmp, Qd, Ed, ⟨F, ow, S⟩, ⟨x, e, q⟩, k, w⟩ => by
  obtain ⟨v, e1, r⟩ := S.sl i _ e
  exact ⟨v, e1, k v _ _ _ q ⟨F, ow, S.push r⟩⟩
theorem pd_fvar {i : Nat} {x : Str} {pos : Pos} (h : PE X (.Name x pos) (tVar i)) (ni : i ∉ c.sl) : PE X (.Name x pos) (LE X.K c W (fvarD i)) := PE_imp h fun σ H Q ⟨δ, tmp, Qd, Ed, ⟨F, ow, S⟩, ⟨x, e, q⟩, k, w⟩ => by
  obtain ⟨v, F', e1, S'⟩ := S.slot_frz e ni
  exact ⟨v, e1, k v _ _ _ q ⟨F', ow, S'⟩⟩
theorem pd_const {e : Expr} {v : V} {d : D} (h : PE X e (tC v)) (r : ∀ F, Rep X.K F v d) : PE X e (LE X.K c W (constD d)) := PE_imp h fun σ H Q ⟨δ, tmp, Qd, Ed, ⟨F, ow, S⟩, q, k, w⟩ =>
  k v _ _ _ q ⟨F, ow, S.push (r F)⟩
/-! ### operators on two values -/
/-- an operation on two values that makes new objects alone; it may hand back a new object of one's own -/
inductive Made (K : PySem.W.Frag) (F H F' H' : Hp) (v : V) : DV → Prop where
  | d {x : D} (e : Ext F H F' H') (r : Rep K F' v x) : Made K F H F' H' v (.d x)
  | own {p : Addr} {ob : HO} {o : OC} (hv : v = .ref p) (n : H p = none) (hF : F' = F) (hH : H' = upd H p ob) (r : OwnRep K F (upd H p ob) p o) : Made K F H F' H' v (.own o)
theorem Made.stt {K : PySem.W.Frag} {F H F' H' : Hp} {v : V} {x : DV} {ow : Addr → Option Hold} {δ : DSt} {tmp : List (V × DV)} {σ : L2.St} (m : Made K F H F' H' v x) (S : SttF K c F ow δ tmp σ H) : Stt K c δ ((v, x) :: tmp) σ H' := by
  cases m with
  | d e r => exact ⟨_, _, (S.ext e).push r⟩
  | own hv n hF hH r => subst hv hF hH; exact ⟨_, _, S.pushNew n r⟩
abbrev RD2 := D → D → (DV → Prop) → Prop
def Op2 (K : PySem.W.Frag) (r : R2) (rd : RD2) : Prop := ∀ x y a b F H Q Qd, Same F H → Rep K F x a → Rep K F y b → rd a b Qd → (∀ v dv F' H', Qd dv → Made K F H F' H' v dv → Q v H') → r x y H Q
def opD (rd : RD2) (ta tb : TD) : TD := fun δ Q E => ta δ (fun x δ1 => tb δ1 (fun y δ2 => rd x.toD y.toD fun z => Q z δ2) E) E
theorem lift_op {K : PySem.W.Frag} {r : R2} {rd : RD2} {ta tb : TD} (ho : Op2 K r rd) : ∀ σ H Q, LE K c W (opD rd ta tb) σ H Q → tOp r (LE K c W ta) (LE K c W tb) σ H Q := fun σ H Q ⟨δ, tmp, Qd, Ed, S, t, k, w⟩ => by
  refine ⟨δ, tmp, _, Ed, S, t, fun x a δ1 H1 t1 S1 => ?_, w⟩
  refine ⟨δ1, _, _, Ed, S1, t1, fun y b δ2 H2 t2 S2 => ?_, w.push⟩
  obtain ⟨F, ow, S2⟩ := S2
  obtain ⟨F', S3, _⟩ := S2.top_frz2
  refine ho x y _ _ F' H2 Q _ S3.fh S3.pop.top S3.top t2 fun v dv F2 H3 q m => ?_
  exact k v dv δ2 H3 q (m.stt S3.pop.pop)
theorem pd_op {a b : Expr} {op : Operator} {r : R2} {rd : RD2} {ta tb : TD} {pos : Pos} (ho : OpR X (binaryOp op) r) (hd : Op2 X.K r rd) (ha : PE X a (LE X.K c W ta)) (hb : PE X b (LE X.K c W tb)) : PE X (.BinOp a op b pos) (LE X.K c W (opD rd ta tb)) :=
  PE_imp (pe_op ho ha hb) (lift_op hd)
theorem pd_cmp {a b : Expr} {op : CmpOp} {r : R2} {rd : RD2} {ta tb : TD} {pos : Pos} (ho : OpR X (compareOp op) r) (hd : Op2 X.K r rd) (ha : PE X a (LE X.K c W ta)) (hb : PE X b (LE X.K c W tb)) (hm : behindInMarks op b = false) : PE X (.Compare a [op] [b] pos) (LE X.K c W (opD rd ta tb)) :=
  PE_imp (pe_cmpR ho ha hb hm) (lift_op hd)
/-! ### the call of a def -/
/-- the addresses of the own objects among the arguments -/
inductive ArgsRep (K : PySem.W.Frag) (F H : Hp) : List V → List DV → List Addr → Prop
  | nil : ArgsRep K F H [] [] []
  | d {v : V} {x : D} {vs : List V} {as : List DV} {ps : List Addr} (h : Rep K F v x) (t : ArgsRep K F H vs as ps) : ArgsRep K F H (v :: vs) (.d x :: as) ps
  | own {p : Addr} {o : OC} {vs : List V} {as : List DV} {ps : List Addr} (n : F p = none) (h : OwnRep K F H p o) (np : p ∉ ps) (t : ArgsRep K F H vs as ps) : ArgsRep K F H (.ref p :: vs) (.own o :: as) (p :: ps)
inductive OwnsRep (K : PySem.W.Frag) (F H : Hp) : List Addr → List OC → Prop
  | nil : OwnsRep K F H [] []
  | cons {p : Addr} {o : OC} {ps : List Addr} {os : List OC} (n : F p = none) (h : OwnRep K F H p o) (t : OwnsRep K F H ps os) : OwnsRep K F H (p :: ps) (o :: os)
structure Post (K : PySem.W.Frag) (F H : Hp) (ps : List Addr) (os : List OC) (F' H' : Hp) : Prop where
  f : Same F F'
  fh : Same F' H'
  fr : ∀ a o, H a = some o → a ∉ ps → H' a = some o
  up : ∀ a, H' a = none → H a = none
  nw : ∀ a, F' a ≠ none → F a ≠ none ∨ H a = none
  os : OwnsRep K F' H' ps os
def RetRep (K : PySem.W.Frag) (F' H H' : Hp) (v : V) : DV → Prop
  | .d x => Rep K F' v x
  | .own o => ∃ p, v = .ref p ∧ H p = none ∧ F' p = none ∧ OwnRep K F' H' p o
abbrev SpD := List DV → (DV → List OC → Prop) → (Ex → List OC → Prop) → Prop
def spOf (K : PySem.W.Frag) (sd : SpD) : Sp := fun vs H Q E => ∃ F as ps Qd Ed, Same F H ∧ ArgsRep K F H vs as ps ∧ sd as Qd Ed ∧
  (∀ v x os F' H', Qd x os → Post K F H ps os F' H' → RetRep K F' H H' v x → Q v H') ∧ (∀ cls d x os F' H', Ed x os → Post K F H ps os F' H' → ExRep K F' cls d x → E cls d H')
/-- the arguments as they stand -/
def argsOf (δ : DSt) : List AV → List DV → Prop
  | [], as => as = []
  | .d x :: r, as => ∃ t, as = .d x :: t ∧ argsOf δ r t
  | .o i :: r, as => ∃ o t, δ[i]? = some (some (.own o)) ∧ as = .own o :: t ∧ argsOf δ r t
def slotsOf : List AV → List Nat
  | [] => []
  | .d _ :: r => slotsOf r
  | .o i :: r => i :: slotsOf r
def putBack (δ : DSt) : List Nat → List OC → DSt
  | i :: is, o :: os => putBack (δ.set i (some (.own o))) is os
  | _, _ => δ
def callD (sd : SpD) (ta : TDA) : TD := fun δ Q E => ta δ (fun as δ1 => ∃ xs, argsOf δ1 as xs ∧ (slotsOf as).Nodup ∧ sd xs (fun r os => Q r (putBack δ1 (slotsOf as) os)) (fun x os => E x (putBack δ1 (slotsOf as) os))) E
end
section
variable {K : PySem.W.Frag} {c : Fc} {W : WX} {F F' H H' : Hp} {ow : Addr → Option Hold} {δ : DSt} {tmp : List (V × DV)} {σ : L2.St}
theorem putBack_at : ∀ {is : List Nat} {os : List OC} {δ : DSt} {j : Nat} {x : DV}, is.Nodup → is.length = os.length → (putBack δ is os)[j]? = some (some x) → (∃ (k : Nat) (o : OC), is[k]? = some j ∧ os[k]? = some o ∧ x = .own o) ∨ (j ∉ is ∧ δ[j]? = some (some x))
  | [], [], δ, j, x, _, _, e => .inr ⟨(fun z => nomatch z), e⟩
  | i :: is, o :: os, δ, j, x, nd, hl, e => by
    rcases putBack_at (is := is) (os := os) (List.nodup_cons.mp nd).2 (Nat.succ.inj hl) e with ⟨k, o', a, b, r⟩ | ⟨n, q⟩
    · exact .inl ⟨k + 1, o', a, b, r⟩
    · by_cases z : i = j
      · subst z
        rcases Nat.lt_or_ge i δ.length with h | h
        · rw [List.getElem?_set_self h] at q
          cases q
          exact .inl ⟨0, o, rfl, rfl, rfl⟩
        · rw [List.getElem?_eq_none (by rw [List.length_set]; exact h)] at q
          cases q
      · rw [List.getElem?_set_ne z] at q
        exact .inr ⟨fun y => (List.mem_cons.mp y).elim (fun t => z t.symm) n, q⟩
  | [], _ :: _, _, _, _, _, h, _ => nomatch h
  | _ :: _, [], _, _, _, _, h, _ => nomatch h
theorem putBack_len : ∀ {is : List Nat} {os : List OC} {δ : DSt}, (putBack δ is os).length = δ.length
  | [], [], _ => rfl
  | [], _ :: _, _ => rfl
  | _ :: _, [], _ => rfl
  | i :: is, o :: os, δ => by
    show (putBack (δ.set i _) is os).length = _
    rw [putBack_len, List.length_set]
theorem OwnsRep.len : ∀ {ps : List Addr} {os : List OC}, OwnsRep K F H ps os → ps.length = os.length
  | _, _, .nil => rfl
  | _, _, .cons _ _ t => congrArg (· + 1) t.len
theorem OwnsRep.get : ∀ {ps : List Addr} {os : List OC} {k : Nat} {p : Addr} {o : OC}, OwnsRep K F H ps os → ps[k]? = some p → os[k]? = some o → F p = none ∧ OwnRep K F H p o
  | _, _, 0, _, _, .cons n h _, a, b => by cases a; cases b; exact ⟨n, h⟩
  | _, _, k + 1, _, _, .cons _ _ t, a, b => t.get (k := k) a b
/-- behind a call -/
theorem SttF.called {is : List Nat} {ps : List Addr} {os : List OC} (S : SttF K c F ow δ tmp σ H) (hp : ps.length = is.length) (hs : ∀ (k i : Nat) (p : Addr), is[k]? = some i → ps[k]? = some p → σ[i]? = some (some (.ref p)) ∧ ∃ o, δ[i]? = some (some (.own o))) (nd : is.Nodup) (P : Post K F H ps os F' H') :
    SttF K c F' ow (putBack δ is os) tmp σ H' := by
  have hl : is.length = os.length := by rw [← hp]; exact P.os.len
  have held : ∀ (k : Nat) (p : Addr), ps[k]? = some p → ∃ i, is[k]? = some i ∧ ow p = some (.s i) ∧ NewAt c (.s i) p := fun k p e => by
    have hk : k < is.length := by rw [← hp]; exact set_lt e
    obtain ⟨e1, o, e2⟩ := hs k is[k] p (List.getElem?_eq_getElem hk) e
    obtain ⟨v, e3, p', rfl, a, _, w, _⟩ := S.sl _ _ e2
    rw [e1] at e3
    cases e3
    exact ⟨_, List.getElem?_eq_getElem hk, a, w⟩
  have keep : ∀ {h : Hold} {v : V} {x : DV}, RepV K c F H ow h v x → (∀ (k i : Nat), is[k]? = some i → h ≠ .s i) → RepV K c F' H' ow h v x := fun {h v x} q ne => by
    cases x with
    | d y => exact Rep.mono P.f q
    | own o =>
      obtain ⟨p, rfl, a, b, w, r⟩ := q
      have np : p ∉ ps := fun z => by
        obtain ⟨k, hk⟩ := List.mem_iff_getElem?.mp z
        obtain ⟨i, e1, e2, _⟩ := held k p hk
        rw [a] at e2
        cases e2
        exact ne k i e1 rfl
      refine ⟨p, rfl, a, ?_, w, r.mono P.f ?_⟩
      · cases z : F' p with
        | none => rfl
        | some u =>
          rcases P.nw p (by rw [z]; exact fun q => nomatch q) with y | y
          · exact absurd b y
          · exact absurd y r.has
      · cases z : H p with
        | none => exact absurd z r.has
        | some u => exact P.fr _ _ z np
  have keepT : ∀ {tmp : List (V × DV)}, RepTmp K c F H ow tmp → RepTmp K c F' H' ow tmp := fun {tmp} => by
    induction tmp with
    | nil => exact fun _ => True.intro
    | cons a r ih => obtain ⟨v, x⟩ := a; exact fun y => ⟨keep y.1 (fun _ _ _ z => nomatch z), ih y.2⟩
  refine ⟨P.fh, S.f0.trans P.f, fun a q => (P.nw a q).elim (S.fn a) fun z => .inr (S.up a z), fun a o q n => P.fr a o (S.fr a o q n) fun z => ?_, fun a q => S.up a (P.up a q), by rw [putBack_len]; exact S.len, fun j x q => ?_, keepT S.tm, S.ps⟩
  · obtain ⟨k, hk⟩ := List.mem_iff_getElem?.mp z
    obtain ⟨i, _, _, w⟩ := held k a hk
    rcases w with w | ⟨w, _⟩
    · rw [w] at q; cases q
    · exact n w
  · rcases putBack_at nd hl q with ⟨k, o, e1, e2, rfl⟩ | ⟨nj, e⟩
    · have hk : k < ps.length := by rw [hp]; exact set_lt e1
      have ek := List.getElem?_eq_getElem hk
      obtain ⟨e3, _⟩ := hs k j _ e1 ek
      obtain ⟨i, e4, e5, w⟩ := held k _ ek
      rw [e1] at e4
      cases e4
      obtain ⟨n, r⟩ := P.os.get ek e2
      exact ⟨_, e3, _, rfl, e5, n, w, r⟩
    · obtain ⟨v, e1, r⟩ := S.sl j x e
      exact ⟨v, e1, keep r fun k i e2 z => nj (by cases z; exact List.mem_of_getElem? e2)⟩
/-- the arguments of a call -/
theorem args_rep (S : SttF K c F ow δ tmp σ H) : ∀ {as : List AV} {vs : List V} {xs : List DV}, RepArgs K F σ vs as → argsOf δ as xs → (slotsOf as).Nodup →
    ∃ ps, ArgsRep K F H vs xs ps ∧ ps.length = (slotsOf as).length ∧ ∀ (k i : Nat) (p : Addr), (slotsOf as)[k]? = some i → ps[k]? = some p → σ[i]? = some (some (.ref p)) ∧ ∃ o, δ[i]? = some (some (.own o))
  | [], _, _, .nil, e, _ => by
    cases e
    exact ⟨[], .nil, rfl, fun k i p e => by simp [slotsOf] at e⟩
  | .d x :: r, _, _, .d h t, e, nd => by
    obtain ⟨t', rfl, e⟩ := e
    obtain ⟨ps, a, b, q⟩ := args_rep S t e nd
    exact ⟨ps, .d h a, b, q⟩
  | .o i :: r, _, _, .o h t, e, nd => by
    obtain ⟨o, t', ei, rfl, e⟩ := e
    obtain ⟨ps, a, b, q⟩ := args_rep S t e (List.nodup_cons.mp nd).2
    obtain ⟨v, e1, p, rfl, e2, n, w, r'⟩ := S.sl _ _ ei
    rw [h] at e1
    cases e1
    refine ⟨p :: ps, .own n r' (fun z => ?_) a, congrArg (· + 1) b, fun k j p' => ?_⟩
    · obtain ⟨k, hk⟩ := List.mem_iff_getElem?.mp z
      have hk2 : k < (slotsOf r).length := by rw [← b]; exact set_lt hk
      obtain ⟨e3, o', e4⟩ := q k _ p (List.getElem?_eq_getElem hk2) hk
      obtain ⟨v, e5, p2, rfl, e6, _⟩ := S.sl _ _ e4
      rw [e3] at e5
      cases e5
      rw [e2] at e6
      have e7 : i = (slotsOf r)[k] := by injection Option.some.inj e6
      exact (List.nodup_cons.mp nd).1 (by rw [e7]; exact List.getElem_mem hk2)
    · cases k with
      | zero => intro e e'; cases e; cases e'; exact ⟨h, o, ei⟩
      | succ k => exact q k j p'
end
end DL

set_option Elab.async false
set_option linter.all false
set_option maxRecDepth 100000
namespace DL
open PySem PySem.Spec PyProof.Rows L2
/-! ### C(e, ..) whose __init__ may raise: what is raised is wished for at the slots -/
def tMakeS (C : Addr) (sp : Sp) (E : L2.St → XK) (t : TA) : TE := fun σ H Q => t σ H fun vs H1 => ∀ x dx, H1 x = none → H1 dx = none → dx ≠ x →
  sp (.ref x :: vs) (upd (upd H1 dx (.own x)) x (.ins C dx [])) (fun v H2 => v = .non ∧ Q (.ref x) H2) (E σ)
section
variable {X : Cx} {CX : CXT} {k : Nat} {f C : Addr} {fd : FuncData} {ps : List Str} {sp : Sp} {E : L2.St → XK} {x m : Str} {p pos apos : Pos} {e o : Expr} {es : List Expr} {ta : TE} {t : TA}
theorem run_makeS {pins : List (Addr × Obj)} {σ : L2.St} {H : Hp} {s : Shared} {Q : VK} {us : List Value} {vs : List V} (M : Mk X.K C f) (G : FnOk X.prog X.w X.K X.mg X.base CX k f fd ps sp) (room : Room (k + 1) X.A) (bd : Binds X.K fd ps [])
    (hx : PassesAt CX X σ (E σ)) (I : Inv X pins σ H s) (r : Vals vs us)
    (h : ∀ x dx, H x = none → H dx = none → dx ≠ x → sp (.ref x :: vs) (upd (upd H dx (.own x)) x (.ins C dx [])) (fun v H2 => v = .non ∧ Q (.ref x) H2) (E σ)) :
    wpAny (model X.prog X.w) X.A (call (.ref C) us) (EP X pins σ Q) X.xe s := by
  let n := s.heap.objs.size
  have q0 := h (n + 1) n (I.hok.fresh (Nat.le_succ _)) (I.hok.fresh (Nat.le_refl _)) (Nat.ne_of_lt (Nat.lt_succ_self _))
  have J := Inv.made (C := C) I
  have rr : Vals (V.ref (n + 1) :: vs) (Value.ref (n + 1) :: us) := .cons rfl r
  have hl : (Value.ref (n + 1) :: us).length = ps.length := by
    rw [← rr.length]
    exact G.len _ _ _ _ q0
  have hb2 := bd _ (Value.ref (n + 1) :: us) J.kIn (by rw [List.append_nil]; exact hl)
  rw [List.append_nil] at hb2
  have run := G.run _ X.stack _ _ ⟨Value.ref (n + 1) :: us, []⟩ (Value.ref (n + 1) :: us) _ _ (E σ) (room.make C us []) (J.env0.make C us []) hb2 rr q0
  refine wpAny_call (make_map (f := f) I.kIn M.makes M.init (beq_iff_eq.mp M.fn) (codeAny_mono run fun r' s' z => ?_))
  cases r' with
  | error er => exact hx pins _ _ er s' J z
  | ok fl =>
    cases fl with
    | next => exact False.elim z
    | brk => exact False.elim z
    | cont => exact False.elim z
    | ret u =>
      obtain ⟨v, H', J', rv, ev, q3⟩ := J.after z
      subst ev
      exact ⟨rv, ⟨V.ref (n + 1), H', J', rfl, q3⟩⟩
theorem pe_makeS (M : Mk X.K C f) (G : FnOk X.prog X.w X.K X.mg X.base CX k f fd ps sp) (room : Room (k + 1) X.A) (hg : Gl X x) (hm : X.mg x = some (.ref C)) (bd : Binds X.K fd ps []) (hx : ∀ σ, PassesAt CX X σ (E σ)) (ha : PA X (e :: es) t)
    (hdb : (x == ("__debug__" : Str)) = false := by decide) (he : starEach (e :: es) X.env = (false, eval e X.env) :: starEach es X.env := by rfl) (hpl : (backTo pos (starEach es X.env)).any (·.1) = false := by rfl) :
    PE X (.Call (.Name x p) (e :: es) [] pos) (tMakeS C sp E t) :=
  ⟨fun pins s σ H Q I h => wpAny_Call_Name_kw (ld_glob I hg hm (PySem.W.callWith_K (h₀ := X.base) I.ok.mod.kin M.kp
    (thn (ha.run pos pins s σ H _ I h) fun us s1 ⟨vs, H1, I1, r, q⟩ => ⟨I1.kIn, run_makeS M G room bd (hx σ) I1 r q⟩) he hpl) hdb)⟩
/-! ### o.m(e, ..), a method that may raise -/
def tMethX (C : Addr) (m : Str) (sp : Sp) (E : L2.St → XK) (ta : TE) (t : TA) : TE := fun σ H Q => ta σ H fun x H1 => ∃ a dx fs, x = .ref a ∧ H1 a = some (.ins C dx fs) ∧ fs.lookup m = none ∧ t σ H1 fun vs H2 => sp (x :: vs) H2 Q (E σ)
theorem pe_methX {pl : Sem Bool} (he : PE X o ta) (c : Cls X.K C) (hm : Meth X.K C m f) (G : FnOk X.prog X.w X.K X.mg X.base CX k f fd ps sp) (room : Room k X.A) (bd : Binds X.K fd ps []) (hx : ∀ σ, PassesAt CX X σ (E σ)) (ha : PA X (e :: es) t)
    (hst : starEach (e :: es) X.env = (false, eval e X.env) :: starEach es X.env := by rfl) (hpl : (backTo pos (starEach es X.env)).any (·.1) = false := by rfl)
    (ht : eval (.Call (.Attribute o m apos) (e :: es) [] pos) X.env = (do
      let ov ← eval o X.env
      standAt apos.atName
      let (f, first) ← holding [ov] (getMethod ov m pl)
      callWith pos f first (backTo pos (starEach (e :: es) X.env)) (backToKw pos (keywordEach [] X.env))) := by rfl) :
    PE X (.Call (.Attribute o m apos) (e :: es) [] pos) (tMethX C m sp E ta t) := by
  refine ⟨fun pins s σ H Q I h => PySem.W.methodCall_KW (pl := pl) (thn (he.run pins s σ H _ I h) fun u s1 ⟨x, H1, I1, rx, a, dx, fs, ex, ea, l, q⟩ => ?_) ht⟩
  subst ex
  cases (show u = Value.ref a from rx)
  refine getmeth_ok I1 ea c hm l (PySem.W.callWith_K (first := [.ref a]) (h₀ := X.base) I.ok.mod.kin hm.kp (thn (ha.run pos pins s1 σ H1 _ I1 q) fun us s2 ⟨vs, H2, I2, r, q2⟩ => ⟨I2.kIn, ?_⟩) hst hpl)
  exact run_fnS G room bd (hx σ) I2 (.cons (show RelV (V.ref a) (Value.ref a) from rfl) r) q2
theorem pe_methX0 {pl : Sem Bool} (he : PE X o ta) (c : Cls X.K C) (hm : Meth X.K C m f) (G : FnOk X.prog X.w X.K X.mg X.base CX k f fd ps sp) (room : Room k X.A) (bd : Binds X.K fd ps []) (hx : ∀ σ, PassesAt CX X σ (E σ))
    (ht : eval (.Call (.Attribute o m apos) [] [] pos) X.env = (do
      let ov ← eval o X.env
      standAt apos.atName
      let (f, first) ← holding [ov] (getMethod ov m pl)
      callWith pos f first (backTo pos (starEach [] X.env)) (backToKw pos (keywordEach [] X.env))) := by rfl) :
    PE X (.Call (.Attribute o m apos) [] [] pos) (tMethX C m sp E ta tNil) := by
  refine ⟨fun pins s σ H Q I h => PySem.W.methodCall_KW (pl := pl) (thn (he.run pins s σ H _ I h) fun u s1 ⟨x, H1, I1, rx, a, dx, fs, ex, ea, l, q⟩ => ?_) ht⟩
  subst ex
  cases (show u = Value.ref a from rx)
  refine getmeth_ok I1 ea c hm l ?_
  exact PySem.W.callWith_K0 (first := [.ref a]) I1.kIn hm.kp (run_fnS G room bd (hx σ) I1 (.cons (show RelV (V.ref a) (Value.ref a) from rfl) .nil) q)
/-- f() whose exceptions are wished for at the slots -/
theorem pe_callS0 {x : Str} {p pos : Pos} (F : FnOk X.prog X.w X.K X.mg X.base CX k f fd ps sp) (hr : Room k X.A) (hg : Gl X x) (hm : X.mg x = some (.ref f)) (hk : PySem.W.keepIn X.K (.ref f) = true) (hb : Binds X.K fd ps []) (hx : ∀ σ, PassesAt CX X σ (E σ))
    (hdb : (x == ("__debug__" : Str)) = false := by decide) : PE X (.Call (.Name x p) [] [] pos) (tCallSD sp [] E tNil) := by
  refine ⟨fun pins s σ H Q I h => ?_⟩
  refine wpAny_Call_Name_kw (ld_glob I hg hm ?_ hdb)
  exact PySem.W.callWith_K0 I.kIn hk (run_fnSD (us := []) F hr hb .nil (hx σ) I .nil h)
end
section
variable {X : Cx} {c : Fc} {W : WX}
/-! ### arguments -/
def nilD : TDA := fun δ Q _ => Q [] δ
def consD (t : TD) (r : TDA) : TDA := fun δ Q E => t δ (fun x δ1 => r δ1 (fun as δ2 => Q (.d x.toD :: as) δ2) E) E
def consO (i : Nat) (r : TDA) : TDA := fun δ Q E => r δ (fun as δ2 => Q (.o i :: as) δ2) E
theorem pda_nil : PA X [] (LA X.K c W nilD) := PA_imp pa_nil fun σ H Q ⟨δ, tmp, Qd, Ed, ⟨F, ow, S⟩, q, k, w⟩ => k [] [] δ F ow H q S .nil
theorem pda_cons {e : Expr} {es : List Expr} {t : TD} {r : TDA} (he : PE X e (LE X.K c W t)) (hr : PA X es (LA X.K c W r)) (hs : starEach (e :: es) X.env = (false, eval e X.env) :: starEach es X.env := by rfl) : PA X (e :: es) (LA X.K c W (consD t r)) :=
  PA_imp (pa_cons he hr hs) fun σ H Q ⟨δ, tmp, Qd, Ed, S, t, k, w⟩ => ⟨δ, tmp, _, Ed, S, t, fun v x δ1 H1 q1 ⟨F, ow, S1⟩ => by
    obtain ⟨F', S2, _⟩ := S1.top_frz
    exact ⟨δ1, _, _, Ed, ⟨F', ow, S2⟩, q1, fun vs as δ2 F2 ow2 H2 q2 S3 ra => k _ _ _ _ _ _ q2 S3.pop (.d S3.top ra), w.push⟩, w⟩
theorem pda_own {i : Nat} {x : Str} {pos : Pos} {es : List Expr} {r : TDA} (he : PE X (.Name x pos) (tVar i)) (hr : PA X es (LA X.K c W r)) (hs : starEach (.Name x pos :: es) X.env = (false, eval (.Name x pos) X.env) :: starEach es X.env := by rfl) :
    PA X (.Name x pos :: es) (LA X.K c W (fun δ Q E => ∃ o, δ[i]? = some (some (.own o)) ∧ consO i r δ Q E)) :=
  PA_imp (pa_cons he hr hs) fun σ H Q ⟨δ, tmp, Qd, Ed, ⟨F, ow, S⟩, ⟨o, eo, t⟩, k, w⟩ => by
    obtain ⟨v, e1, _⟩ := S.sl _ _ eo
    exact ⟨v, e1, δ, tmp, _, Ed, ⟨F, ow, S⟩, t, fun vs as δ2 F2 ow2 H2 q2 S3 ra => k _ _ _ _ _ _ q2 S3 (.o e1 ra), w⟩
/-! ### calls -/
theorem ret_push {K : PySem.W.Frag} {F F' H H' : Hp} {ow : Addr → Option Hold} {δ : DSt} {tmp : List (V × DV)} {σ : L2.St} {v : V} {x : DV} {is : List Nat} {ps : List Addr} {os : List OC} (S : SttF K c F ow δ tmp σ H) (hp : ps.length = is.length)
    (hs : ∀ (k i : Nat) (p : Addr), is[k]? = some i → ps[k]? = some p → σ[i]? = some (some (.ref p)) ∧ ∃ o, δ[i]? = some (some (.own o))) (nd : is.Nodup) (P : Post K F H ps os F' H') (r : RetRep K F' H H' v x) : Stt K c (putBack δ is os) ((v, x) :: tmp) σ H' := by
  cases x with
  | d y => exact ⟨F', ow, (S.called hp hs nd P).push r⟩
  | own o =>
    obtain ⟨p, rfl, n, nF, r⟩ := r
    have S1 := S.reown (ow' := owSet ow p (.t tmp.length)) (fun k a _ z => owSet_ne fun e => z (by rw [e]; exact n)) (fun k a _ _ z => owSet_ne fun e => z (by rw [e]; exact n))
    have S2 := S1.called hp hs nd P
    exact ⟨F', _, { S2 with tm := ⟨⟨p, rfl, owSet_at, nF, .inl (S.up _ n), r⟩, S2.tm⟩ }⟩
theorem lift_sp {K : PySem.W.Frag} {F H : Hp} {ow : Addr → Option Hold} {δ : DSt} {tmp : List (V × DV)} {σ : L2.St} {vs : List V} {as : List AV} {xs : List DV} {sd : SpD} {Q : VK} {Qd : DK} {Ed : XD} (S : SttF K c F ow δ tmp σ H) (ra : RepArgs K F σ vs as) (ea : argsOf δ as xs) (nd : (slotsOf as).Nodup)
    (sp : sd xs (fun r os => Qd r (putBack δ (slotsOf as) os)) (fun x os => Ed x (putBack δ (slotsOf as) os))) (k : ∀ v x δ' H', Qd x δ' → Stt K c δ' ((v, x) :: tmp) σ H' → Q v H') (w : WD K c W tmp Ed) : spOf K sd vs H Q (WE W σ) := by
  obtain ⟨ps, ar, hl, hs⟩ := args_rep S ra ea nd
  exact ⟨F, xs, ps, _, _, S.fh, ar, sp, fun v r os F' H' q P rr => k v r _ H' q (ret_push S hl hs nd P rr), fun cls d x os F' H' q P er => w x _ σ H' F' ow cls d q (S.called hl hs nd P) er⟩
variable {k : Nat} {f C : Addr} {fd : FuncData} {ps : List Str} {sd : SpD} {x m : Str} {p pos apos : Pos} {e o : Expr} {es : List Expr} {to : TD} {ta : TDA}
theorem pd_call (G : FnOk X.prog X.w X.K X.mg X.base (L2.CX X.prog X.w) k f fd ps (spOf X.K sd)) (hr : Room k X.A) (hg : Gl X x) (hm : X.mg x = some (.ref f)) (hk : PySem.W.keepIn X.K (.ref f) = true) (hb : Binds X.K fd ps []) (tk : Takes X W) (ha : PA X (e :: es) (LA X.K c W ta))
    (hdb : (x == ("__debug__" : Str)) = false := by decide) (he : starEach (e :: es) X.env = (false, eval e X.env) :: starEach es X.env := by rfl) (hpl : (backTo pos (starEach es X.env)).any (·.1) = false := by rfl) :
    PE X (.Call (.Name x p) (e :: es) [] pos) (LE X.K c W (callD sd ta)) :=
  PE_imp (pe_callSD (E := WE W) G hr hg hm hk hb .nil (fun σ => passAt tk σ) ha hdb he hpl) fun σ H Q ⟨δ, tmp, Qd, Ed, S, t, k, w⟩ =>
    ⟨δ, tmp, _, Ed, S, t, fun vs as δ1 F ow H1 ⟨xs, ea, nd, sp⟩ S1 ra => by
      show spOf X.K sd (vs ++ []) H1 Q (WE W σ)
      rw [List.append_nil]
      exact lift_sp S1 ra ea nd sp k w, w⟩
theorem pd_call0 (G : FnOk X.prog X.w X.K X.mg X.base (L2.CX X.prog X.w) k f fd ps (spOf X.K sd)) (hr : Room k X.A) (hg : Gl X x) (hm : X.mg x = some (.ref f)) (hk : PySem.W.keepIn X.K (.ref f) = true) (hb : Binds X.K fd ps []) (tk : Takes X W)
    (hdb : (x == ("__debug__" : Str)) = false := by decide) : PE X (.Call (.Name x p) [] [] pos) (LE X.K c W (callD sd nilD)) :=
  PE_imp (pe_callS0 (E := WE W) G hr hg hm hk hb (fun σ => passAt tk σ) hdb) fun σ H Q ⟨δ, tmp, Qd, Ed, ⟨F, ow, S⟩, ⟨xs, ea, nd, sp⟩, k, w⟩ => lift_sp S .nil ea nd sp k w
/-- o.m(..), o of the class at C, its fields fs -/
def methD (C : Addr) (m : Str) (sd : SpD) (to : TD) (ta : TDA) : TD := fun δ Q E => to δ (fun o δ1 => ∃ fs, o.toD = .obj C fs ∧ fs.lookup m = none ∧ ta δ1 (fun as δ2 => ∃ xs, argsOf δ2 as xs ∧ (slotsOf as).Nodup ∧
  sd (.d (.obj C fs) :: xs) (fun r os => Q r (putBack δ2 (slotsOf as) os)) (fun x os => E x (putBack δ2 (slotsOf as) os))) E) E
theorem RepF.lookup {K : PySem.W.Frag} {F : Hp} {n : Str} : ∀ {vs : List (Str × V)} {fs : List (Str × D)}, RepF K F vs fs → (fs.lookup n = none → vs.lookup n = none) ∧ ∀ d, fs.lookup n = some d → ∃ v, vs.lookup n = some v ∧ Rep K F v d
  | _, _, .nil => ⟨fun _ => rfl, fun d h => by cases h⟩
  | _, _, .cons (n := n') h t => by
    rw [List.lookup_cons, List.lookup_cons]
    cases n == n'
    · exact t.lookup
    · exact ⟨(fun z => nomatch z), fun d z => ⟨_, rfl, by cases z; exact h⟩⟩
theorem pd_meth {pl : Sem Bool} (he : PE X o (LE X.K c W to)) (cl : Cls X.K C) (hm : Meth X.K C m f) (G : FnOk X.prog X.w X.K X.mg X.base (L2.CX X.prog X.w) k f fd ps (spOf X.K sd)) (hr : Room k X.A) (hb : Binds X.K fd ps []) (tk : Takes X W) (ha : PA X (e :: es) (LA X.K c W ta))
    (hst : starEach (e :: es) X.env = (false, eval e X.env) :: starEach es X.env := by rfl) (hpl : (backTo pos (starEach es X.env)).any (·.1) = false := by rfl)
    (ht : eval (.Call (.Attribute o m apos) (e :: es) [] pos) X.env = (do
      let ov ← eval o X.env
      standAt apos.atName
      let (f, first) ← holding [ov] (getMethod ov m pl)
      callWith pos f first (backTo pos (starEach (e :: es) X.env)) (backToKw pos (keywordEach [] X.env))) := by rfl) :
    PE X (.Call (.Attribute o m apos) (e :: es) [] pos) (LE X.K c W (methD C m sd to ta)) :=
  PE_imp (pe_methX (E := WE W) he cl hm G hr hb (fun σ => passAt tk σ) ha hst hpl ht) fun σ H Q ⟨δ, tmp, Qd, Ed, S, t, k, w⟩ =>
    ⟨δ, tmp, _, Ed, S, t, fun v o δ1 H1 ⟨fs, eo, nl, t1⟩ ⟨F, ow, S1⟩ => by
      obtain ⟨F', S2, _⟩ := S1.top_frz
      rw [eo] at S2
      cases S2.top with
      | @obj a _ dx vs _ s h =>
        refine ⟨a, dx, vs, rfl, S2.fh _ _ s, (RepF.lookup h).1 nl, δ1, _, _, Ed, ⟨F', ow, S2⟩, t1, fun ws as δ2 F2 ow2 H2 ⟨xs, ea, nd, sp⟩ S3 ra => ?_, w.push⟩
        obtain ⟨qs, ar, hl, hs⟩ := args_rep S3.pop ra ea nd
        exact ⟨F2, _, qs, _, _, S3.fh, .d S3.top ar, sp, fun v r os F' H' q P rr => k v r _ H' q (ret_push S3.pop hl hs nd P rr), fun cls d x os F' H' q P er => w x _ σ H' F' ow2 cls d q (S3.pop.called hl hs nd P) er⟩, w⟩
theorem pd_meth0 {pl : Sem Bool} (he : PE X o (LE X.K c W to)) (cl : Cls X.K C) (hm : Meth X.K C m f) (G : FnOk X.prog X.w X.K X.mg X.base (L2.CX X.prog X.w) k f fd ps (spOf X.K sd)) (hr : Room k X.A) (hb : Binds X.K fd ps []) (tk : Takes X W)
    (ht : eval (.Call (.Attribute o m apos) [] [] pos) X.env = (do
      let ov ← eval o X.env
      standAt apos.atName
      let (f, first) ← holding [ov] (getMethod ov m pl)
      callWith pos f first (backTo pos (starEach [] X.env)) (backToKw pos (keywordEach [] X.env))) := by rfl) :
    PE X (.Call (.Attribute o m apos) [] [] pos) (LE X.K c W (methD C m sd to nilD)) :=
  PE_imp (pe_methX0 (E := WE W) he cl hm G hr hb (fun σ => passAt tk σ) ht) fun σ H Q ⟨δ, tmp, Qd, Ed, S, t, k, w⟩ =>
    ⟨δ, tmp, _, Ed, S, t, fun v o δ1 H1 ⟨fs, eo, nl, xs, ea, nd, sp⟩ ⟨F, ow, S1⟩ => by
      obtain ⟨F', S2, _⟩ := S1.top_frz
      rw [eo] at S2
      cases S2.top with
      | @obj a _ dx vs _ s h =>
        refine ⟨a, dx, vs, rfl, S2.fh _ _ s, (RepF.lookup h).1 nl, ?_⟩
        obtain ⟨qs, ar, hl, hs⟩ := args_rep S2.pop .nil ea nd
        exact ⟨F', _, qs, _, _, S2.fh, .d S2.top ar, sp, fun v r os F' H' q P rr => k v r _ H' q (ret_push S2.pop hl hs nd P rr), fun cls d x os F' H' q P er => w x _ σ H' F' ow cls d q (S2.pop.called hl hs nd P) er⟩, w⟩
/-- C(..): a new object, which does not change behind its __init__ -/
def makeD (C : Addr) (sd : SpD) (ta : TDA) : TD := fun δ Q E => ta δ (fun as δ1 => ∃ xs, argsOf δ1 as xs ∧ (slotsOf as).Nodup ∧ sd (.own (.ins C []) :: xs)
  (fun r os => r = .d .non ∧ ∃ fs os', os = .ins C fs :: os' ∧ Q (.d (.obj C fs)) (putBack δ1 (slotsOf as) os')) (fun x os => ∃ o os', os = o :: os' ∧ E x (putBack δ1 (slotsOf as) os'))) E
theorem ArgsRep.ext {K : PySem.W.Frag} {F H H' : Hp} (s : Same H H') : ∀ {vs : List V} {xs : List DV} {ps : List Addr}, ArgsRep K F H vs xs ps → ArgsRep K F H' vs xs ps
  | _, _, _, .nil => .nil
  | _, _, _, .d h t => .d h (t.ext s)
  | _, _, _, .own n h np t => .own n (h.mono (Same.refl F) (Same.at s h.has)) np (t.ext s)
theorem ArgsRep.at {K : PySem.W.Frag} {F H : Hp} {p : Addr} : ∀ {vs : List V} {xs : List DV} {ps : List Addr}, ArgsRep K F H vs xs ps → p ∈ ps → H p ≠ none
  | _, _, _, .nil, h => nomatch h
  | _, _, _, .d _ t, h => t.at h
  | _, _, _, .own _ r _ t, h => (List.mem_cons.mp h).elim (fun e => by subst e; exact r.has) fun h => t.at h
theorem OwnsRep.mono {K : PySem.W.Frag} {F F' H : Hp} (s : Same F F') : ∀ {ps : List Addr} {os : List OC}, (∀ p ∈ ps, F p = none → F' p = none) → OwnsRep K F H ps os → OwnsRep K F' H ps os
  | _, _, _, .nil => .nil
  | _, _, h, .cons n r t => .cons (h _ List.mem_cons_self n) (r.mono s rfl) (t.mono s fun p hp => h p (List.mem_cons_of_mem _ hp))
theorem lift_make {K : PySem.W.Frag} {F H : Hp} {ow : Addr → Option Hold} {δ : DSt} {tmp : List (V × DV)} {σ : L2.St} {vs : List V} {as : List AV} {xs : List DV} {Q : VK} {Qd : DK} {Ed : XD} (S : SttF K c F ow δ tmp σ H) (ra : RepArgs K F σ vs as) (ea : argsOf δ as xs) (nd : (slotsOf as).Nodup)
    (sp : sd (.own (.ins C []) :: xs) (fun r os => r = .d .non ∧ ∃ fs os', os = .ins C fs :: os' ∧ Qd (.d (.obj C fs)) (putBack δ (slotsOf as) os')) (fun x os => ∃ o os', os = o :: os' ∧ Ed x (putBack δ (slotsOf as) os')))
    (k : ∀ v x δ' H', Qd x δ' → Stt K c δ' ((v, x) :: tmp) σ H' → Q v H') (w : WD K c W tmp Ed) (x dx : Addr) (nx : H x = none) (ndx : H dx = none) (ne : dx ≠ x) :
    spOf K sd (.ref x :: vs) (upd (upd H dx (.own x)) x (.ins C dx [])) (fun v H2 => v = .non ∧ Q (.ref x) H2) (WE W σ) := by
  obtain ⟨ps, ar, hl, hs⟩ := args_rep S ra ea nd
  have s2 : Same H (upd (upd H dx (.own x)) x (.ins C dx [])) := same_upd (same_upd (Same.refl H) ndx) (by rw [upd_ne ne.symm]; exact nx)
  have Fx : F x = none := S.fh.free nx
  have xps : x ∉ ps := fun z => ar.at z nx
  have back : ∀ {os' : List OC} {F' H' : Hp}, Same F F' → Same F' H' → (∀ a o, (upd (upd H dx (.own x)) x (.ins C dx [])) a = some o → a ∉ x :: ps → H' a = some o) → (∀ a, H' a = none → (upd (upd H dx (.own x)) x (.ins C dx [])) a = none) →
      (∀ a, F' a ≠ none → a = x ∨ F a ≠ none ∨ (upd (upd H dx (.own x)) x (.ins C dx [])) a = none) → OwnsRep K F' H' ps os' → Post K F H ps os' F' H' := fun f fh fr up nw os =>
    ⟨f, fh, fun a o e n => fr a o (s2 _ _ e) fun z => (List.mem_cons.mp z).elim (fun z => by subst z; rw [nx] at e; cases e) n, fun a z => s2.free (up a z), fun a z => (nw a z).elim (fun z => by subst z; exact .inr nx) fun z => z.imp id fun z => s2.free z, os⟩
  refine ⟨F, _, x :: ps, _, _, S.fh.trans s2, .own Fx (show OwnRep K F _ x (.ins C []) from ⟨dx, [], upd_same, .nil⟩) xps (ar.ext s2), sp, fun v r os F' H' ⟨e1, fs, os', e2, q⟩ P rr => ?_, fun cls d y os F' H' ⟨o, os', e2, q⟩ P er => ?_⟩
  · subst e1 e2
    have rv : v = .non := by cases rr; rfl
    refine ⟨rv, k _ _ _ _ q ?_⟩
    cases P.os with
    | cons n r t =>
      obtain ⟨dx', vs', ex, rf⟩ := r
      have sf : Same F' (upd F' x (.ins C dx' vs')) := same_upd (Same.refl F') n
      have P' : Post K F H ps os' (upd F' x (.ins C dx' vs')) H' := back (P.f.trans sf) (same_upd1 P.fh ex) P.fr P.up (fun a z => by
        by_cases y : a = x
        · exact .inl y
        · rw [upd_ne y] at z; exact .inr (P.nw a z)) (t.mono sf fun p hp e => by rw [upd_ne (fun z => xps (by rw [← z]; exact hp))]; exact e)
      exact ⟨_, ow, (S.called hl hs nd P').push (.obj upd_same (rf.mono sf))⟩
  · subst e2
    cases P.os with
    | cons n r t => exact w y _ σ H' F' ow cls d q (S.called hl hs nd (back P.f P.fh P.fr P.up (fun a z => .inr (P.nw a z)) t)) er
theorem pd_make (M : Mk X.K C f) (G : FnOk X.prog X.w X.K X.mg X.base (L2.CX X.prog X.w) k f fd ps (spOf X.K sd)) (room : Room (k + 1) X.A) (hg : Gl X x) (hm : X.mg x = some (.ref C)) (bd : Binds X.K fd ps []) (tk : Takes X W) (ha : PA X (e :: es) (LA X.K c W ta))
    (hdb : (x == ("__debug__" : Str)) = false := by decide) (he : starEach (e :: es) X.env = (false, eval e X.env) :: starEach es X.env := by rfl) (hpl : (backTo pos (starEach es X.env)).any (·.1) = false := by rfl) :
    PE X (.Call (.Name x p) (e :: es) [] pos) (LE X.K c W (makeD C sd ta)) :=
  PE_imp (pe_makeS (E := WE W) M G room hg hm bd (fun σ => passAt tk σ) ha hdb he hpl) fun σ H Q ⟨δ, tmp, Qd, Ed, S, t, k, w⟩ =>
    ⟨δ, tmp, _, Ed, S, t, fun vs as δ1 F ow H1 ⟨xs, ea, nd, sp⟩ S1 ra => fun x dx nx ndx ne => lift_make S1 ra ea nd sp k w x dx nx ndx ne, w⟩
end
end DL

set_option Elab.async false
set_option linter.all false
set_option maxRecDepth 100000
namespace DL
open PySem PySem.Spec PyProof.Rows L2
section
variable {X : Cx} {c : Fc} {W : WX}
/-! ### blocks -/
def nextD : TDS := fun D δ => D.nx δ
def seqD (t u : TDS) : TDS := fun D δ => t { D with nx := u D } δ
theorem pds_nil : PSs X [] (LS X.K c W nextD) := PSs_imp pss_nil fun D σ H ⟨δ, tmp, Dd, S, t, k, _⟩ => k δ σ H t S
theorem pds_cons {st : Stmt} {rest : List Stmt} {t u : TDS} (h1 : PS X st (LS X.K c W t)) (h2 : PSs X rest (LS X.K c W u)) : PSs X (st :: rest) (LS X.K c W (seqD t u)) :=
  PSs_imp (pss_cons h1 h2) fun D σ H ⟨δ, tmp, Dd, S, q, k, kr, kb, kc, w⟩ => ⟨δ, tmp, _, S, q, fun δ' σ' H' q' S' => ⟨δ', tmp, Dd, S', q', k, kr, kb, kc, w⟩, kr, kb, kc, w⟩
theorem pds_one {st : Stmt} {t : TDS} (h1 : PS X st (LS X.K c W t)) : PSs X [st] (LS X.K c W t) := PSs_imp (pss_one h1) fun _ _ _ q => q
def neverD : TDS := fun _ _ => False
def breakD : TDS := fun D δ => D.bk δ
def contD : TDS := fun D δ => D.ct δ
theorem psd_pass {pos : Pos} : PS X (.Pass pos) (LS X.K c W nextD) := PS_imp ps_pass fun D σ H ⟨δ, tmp, Dd, S, t, k, _⟩ => k δ σ H t S
theorem psd_break {pos : Pos} : PS X (.Break pos) (LS X.K c W breakD) := PS_imp ps_break fun D σ H ⟨δ, tmp, Dd, S, t, _, _, k, _⟩ => k δ σ H t S
theorem psd_cont {pos : Pos} : PS X (.Continue pos) (LS X.K c W contD) := PS_imp ps_continue fun D σ H ⟨δ, tmp, Dd, S, t, _, _, _, k, _⟩ => k δ σ H t S
theorem psd_never {st : Stmt} : PS X st (LS X.K c W neverD) := PS_imp ps_never fun D σ H ⟨δ, tmp, Dd, S, t, _⟩ => t
def dropD (t : TD) : TDS := fun D δ => t δ (fun _ δ1 => D.nx δ1) D.ex
theorem psd_expr {e : Expr} {t : TD} {pos : Pos} (he : PE X e (LE X.K c W t)) (hs : swapsWith e none pos.line X.env = pure false := by rfl) : PS X (.Expr e pos) (LS X.K c W (dropD t)) :=
  PS_imp (ps_expr he hs) fun D σ H ⟨δ, tmp, Dd, S, q, k, kr, kb, kc, w⟩ => ⟨δ, tmp, _, _, S, q, fun v x δ' H' q' ⟨F, ow, S'⟩ => k δ' σ H' q' ⟨F, ow, S'.pop⟩, w⟩
def retD (t : TD) : TDS := fun D δ => t δ D.rt D.ex
def retND : TDS := fun D δ => D.rt (.d .non) δ
theorem psd_ret {e : Expr} {t : TD} {pos : Pos} (he : PE X e (LE X.K c W t)) : PS X (.Return (some e) pos) (LS X.K c W (retD t)) :=
  PS_imp (ps_ret he) fun D σ H ⟨δ, tmp, Dd, S, q, k, kr, kb, kc, w⟩ => ⟨δ, tmp, _, _, S, q, fun v x δ' H' q' S' => kr v x δ' σ H' q' S', w⟩
theorem psd_retN {pos : Pos} : PS X (.Return none pos) (LS X.K c W retND) :=
  PS_imp ps_retN fun D σ H ⟨δ, tmp, Dd, ⟨F, ow, S⟩, q, k, kr, kb, kc, w⟩ => kr _ _ δ σ H q ⟨F, ow, S.push .non⟩
/-! ### names -/
/-- x = e, frozen; as it is (x's own) -/
def setD (i : Nat) (t : TD) : TDS := fun D δ => t δ (fun x δ1 => D.nx (δ1.set i (some (.d x.toD)))) D.ex
def setO (i : Nat) (t : TD) : TDS := fun D δ => t δ (fun x δ1 => D.nx (δ1.set i (some x))) D.ex
theorem SttF.set' {K : PySem.W.Frag} {F H : Hp} {ow : Addr → Option Hold} {δ : DSt} {tmp : List (V × DV)} {σ : L2.St} {v : V} {x : DV} {i : Nat} (S : SttF K c F ow δ ((v, x) :: tmp) σ H) (ni : i ∉ c.sl) : Stt K c (δ.set i (some x)) tmp (σ.set i (some v)) H := by
  rcases Nat.lt_or_ge i δ.length with hi | hi
  · obtain ⟨ow', S'⟩ := S.set hi ni
    exact ⟨F, ow', S'⟩
  · rw [List.set_eq_of_length_le hi, List.set_eq_of_length_le (by rw [S.len]; exact hi)]
    exact ⟨F, ow, S.pop⟩
theorem psd_set {i : Nat} {x : Str} {e : Expr} {t : TD} {pos pos' : Pos} (he : PE X e (LE X.K c W t)) (ni : i ∉ c.sl) (hN : X.N.Nodup) (hi : X.N[i]? = some x) (hx : Loc X.env.scope x) (hs : swapsWith e (some (.Name x pos')) pos.line X.env = pure false := by rfl)
    (hf : X.fn x = true ∨ X.env.scope.names.lookup x = some .local := by first | exact .inl rfl | exact .inr rfl | assumption) : PS X (.Assign [.Name x pos'] e pos) (LS X.K c W (setD i t)) :=
  PS_imp (ps_set (i := i) hN hi hx he hs hf) fun D σ H ⟨δ, tmp, Dd, S, q, k, kr, kb, kc, w⟩ => ⟨δ, tmp, _, _, S, q, fun v x δ' H' q' ⟨F, ow, S'⟩ => by
    obtain ⟨F', S2, _⟩ := S'.top_frz
    exact k _ _ _ q' (S2.set' ni), w⟩
theorem psd_setO {i : Nat} {x : Str} {e : Expr} {t : TD} {pos pos' : Pos} (he : PE X e (LE X.K c W t)) (ni : i ∉ c.sl) (hN : X.N.Nodup) (hi : X.N[i]? = some x) (hx : Loc X.env.scope x) (hs : swapsWith e (some (.Name x pos')) pos.line X.env = pure false := by rfl)
    (hf : X.fn x = true ∨ X.env.scope.names.lookup x = some .local := by first | exact .inl rfl | exact .inr rfl | assumption) : PS X (.Assign [.Name x pos'] e pos) (LS X.K c W (setO i t)) :=
  PS_imp (ps_set (i := i) hN hi hx he hs hf) fun D σ H ⟨δ, tmp, Dd, S, q, k, kr, kb, kc, w⟩ => ⟨δ, tmp, _, _, S, q, fun v x δ' H' q' ⟨F, ow, S'⟩ => k _ _ _ q' (S'.set' ni), w⟩
/-- a row of values kept as they are -/
def LK (K : PySem.W.Frag) (c : Fc) (W : WX) (t : DSt → (List DV → DSt → Prop) → XD → Prop) : TA := fun σ H Q => ∃ δ tmp Qd Ed, Stt K c δ tmp σ H ∧ t δ Qd Ed ∧ (∀ vs xs δ' H', Qd xs δ' → vs.length = xs.length → Stt K c δ' ((vs.zip xs).reverse ++ tmp) σ H' → Q vs H') ∧ WD K c W tmp Ed
abbrev TDK := DSt → (List DV → DSt → Prop) → XD → Prop
def nilK : TDK := fun δ Q _ => Q [] δ
def consK (t : TD) (r : TDK) : TDK := fun δ Q E => t δ (fun x δ1 => r δ1 (fun xs δ2 => Q (x :: xs) δ2) E) E
theorem pka_nil : PA X [] (LK X.K c W nilK) := PA_imp pa_nil fun σ H Q ⟨δ, tmp, Qd, Ed, S, q, k, w⟩ => k [] [] δ H q rfl S
theorem pka_cons {e : Expr} {es : List Expr} {t : TD} {r : TDK} (he : PE X e (LE X.K c W t)) (hr : PA X es (LK X.K c W r)) (hs : starEach (e :: es) X.env = (false, eval e X.env) :: starEach es X.env := by rfl) : PA X (e :: es) (LK X.K c W (consK t r)) :=
  PA_imp (pa_cons he hr hs) fun σ H Q ⟨δ, tmp, Qd, Ed, S, t, k, w⟩ => ⟨δ, tmp, _, Ed, S, t, fun v x δ1 H1 q1 S1 => ⟨δ1, _, _, Ed, S1, q1, fun vs xs δ2 H2 q2 hl S2 => k _ _ _ _ q2 (congrArg (· + 1) hl) (by
    show Stt X.K c δ2 (((v, x) :: vs.zip xs).reverse ++ tmp) σ H2
    rw [List.reverse_cons, List.append_assoc]
    exact S2), w.push⟩, w⟩
/-- which of a row of values is frozen -/
def asD (own : Bool) (x : DV) : DV := if own then x else .d x.toD
def parD (i j : Nat) (oi oj : Bool) (t : TDK) : TDS := fun D δ => t δ (fun xs δ1 => ∃ x y, xs = [x, y] ∧ D.nx ((δ1.set j (some (asD oj y))).set i (some (asD oi x)))) D.ex
theorem SttF.top_as {K : PySem.W.Frag} {F H : Hp} {ow : Addr → Option Hold} {δ : DSt} {tmp : List (V × DV)} {σ : L2.St} {v : V} {x : DV} (S : SttF K c F ow δ ((v, x) :: tmp) σ H) (b : Bool) : ∃ F', SttF K c F' ow δ ((v, asD b x) :: tmp) σ H := by
  cases b
  · obtain ⟨F', S', _⟩ := S.top_frz
    exact ⟨F', S'⟩
  · exact ⟨F, S⟩
theorem psd_par {i j : Nat} {oi oj : Bool} {x y : Str} {a b : Expr} {t : TDK} {px py pt pos : Pos} {kt k2 pt2} (ha : PA X [a, b] (LK X.K c W t)) (ni : i ∉ c.sl) (nj : j ∉ c.sl) (h : ∀ {ta : TA}, PA X [a, b] ta → PS X (.Assign [.Tuple [.Name x px, .Name y py] k2 pt2] (.Tuple [a, b] kt pt) pos) (tPar i j ta)) (hij : i ≠ j) :
    PS X (.Assign [.Tuple [.Name x px, .Name y py] k2 pt2] (.Tuple [a, b] kt pt) pos) (LS X.K c W (parD i j oi oj t)) :=
  PS_imp (h ha) fun D σ H ⟨δ, tmp, Dd, S, q, k, kr, kb, kc, w⟩ => ⟨δ, tmp, _, _, S, q, fun vs xs δ' H' ⟨x, y, e, q'⟩ hl S' => by
    subst e
    match vs, hl with
    | [v, u], _ =>
      obtain ⟨F, ow, S'⟩ := S'
      have S2 : SttF X.K c F ow δ' ((u, y) :: (v, x) :: tmp) σ H' := S'
      obtain ⟨F3, S3⟩ := S2.top_as oj
      obtain ⟨F4, ow4, S4⟩ := S3.set' nj
      obtain ⟨F5, S5⟩ := S4.top_as oi
      refine ⟨v, u, rfl, k _ _ _ q' ?_⟩
      rw [List.set_comm _ _ hij]
      exact S5.set' ni, w⟩
/-! ### if -/
theorem pt_of {e : Expr} {t : TD} (h : ∀ {t : TE}, PE X e t → PT X e (tB t)) (he : PE X e (LE X.K c W t)) : PT X e (LT X.K c W fun δ Q E => t δ (fun x δ1 => ∃ b, x = .d (.bl b) ∧ Q b δ1) E) :=
  PT_imp (h he) fun σ H Q ⟨δ, tmp, Qd, Ed, S, q, k, w⟩ => ⟨δ, tmp, _, Ed, S, q, fun v x δ' H' ⟨b, e, q'⟩ ⟨F, ow, S'⟩ => by
    subst e
    refine ⟨b, ?_, k b δ' H' q' ⟨F, ow, S'.pop⟩⟩
    cases S'.top
    rfl, w⟩
def ifD (c : TDT) (t u : TDS) : TDS := fun D δ => c δ (fun b δ1 => if b = true then t D δ1 else u D δ1) D.ex
theorem psd_if {e : Expr} {a b : List Stmt} {tc : TDT} {t u : TDS} {pos : Pos} (hc : PT X e (LT X.K c W tc)) (ha : PSs X a (LS X.K c W t)) (hb : PSs X b (LS X.K c W u)) : PS X (.If e a b pos) (LS X.K c W (ifD tc t u)) :=
  PS_imp (ps_if hc ha hb) fun D σ H ⟨δ, tmp, Dd, S, q, k, kr, kb, kc, w⟩ => ⟨δ, tmp, _, _, S, q, fun b δ' H' q' S' => by
    cases b
    · exact ⟨δ', tmp, Dd, S', q', k, kr, kb, kc, w⟩
    · exact ⟨δ', tmp, Dd, S', q', k, kr, kb, kc, w⟩, w⟩
def ifExpD (c : TDT) (t u : TD) : TD := fun δ Q E => c δ (fun b δ1 => if b = true then t δ1 Q E else u δ1 Q E) E
theorem pd_ifExp {e a b : Expr} {tc : TDT} {t u : TD} {pos : Pos} (hc : PT X e (LT X.K c W tc)) (ha : PE X a (LE X.K c W t)) (hb : PE X b (LE X.K c W u)) : PE X (.IfExp e a b pos) (LE X.K c W (ifExpD tc t u)) :=
  PE_imp (pe_ifExp hc ha hb) fun σ H Q ⟨δ, tmp, Qd, Ed, S, q, k, w⟩ => ⟨δ, tmp, _, _, S, q, fun b δ' H' q' S' => by
    cases b
    · exact ⟨δ', tmp, Qd, Ed, S', q', k, w⟩
    · exact ⟨δ', tmp, Qd, Ed, S', q', k, w⟩, w⟩
/-! ### and, or, not: tests -/
def notD (t : TDT) : TDT := fun δ Q E => t δ (fun b δ1 => Q (!b) δ1) E
def andD (t u : TDT) : TDT := fun δ Q E => t δ (fun b δ1 => if b = true then u δ1 Q E else Q false δ1) E
def orD (t u : TDT) : TDT := fun δ Q E => t δ (fun b δ1 => if b = true then Q true δ1 else u δ1 Q E) E
theorem ptd_not {a : Expr} {t : TDT} {pos : Pos} (ha : PT X a (LT X.K c W t)) : PT X (.UnaryOp .Not a pos) (LT X.K c W (notD t)) :=
  PT_imp (pt_not ha) fun σ H Q ⟨δ, tmp, Qd, Ed, S, q, k, w⟩ => ⟨δ, tmp, _, _, S, q, fun b δ' H' q' S' => k _ _ _ q' S', w⟩
theorem pwd_and1 {a : Expr} {t : TDT} {pos : Pos} (ha : PT X a (LT X.K c W t)) : PW X (.BoolOp .And [a] pos) (LT X.K c W t) := pw_and1 ha
theorem pwd_or1 {a : Expr} {t : TDT} {pos : Pos} (ha : PT X a (LT X.K c W t)) : PW X (.BoolOp .Or [a] pos) (LT X.K c W t) := pw_or1 ha
theorem pwd_and {a b : Expr} {rest : List Expr} {t u : TDT} {pos : Pos} (ha : PT X a (LT X.K c W t)) (hb : PW X (.BoolOp .And (b :: rest) pos) (LT X.K c W u)) : PW X (.BoolOp .And (a :: b :: rest) pos) (LT X.K c W (andD t u)) :=
  PW_imp (pw_and ha hb) fun σ H Q ⟨δ, tmp, Qd, Ed, S, q, k, w⟩ => ⟨δ, tmp, _, _, S, q, fun b δ' H' q' S' => by
    cases b
    · exact k _ _ _ q' S'
    · exact ⟨δ', tmp, Qd, Ed, S', q', k, w⟩, w⟩
theorem pwd_or {a b : Expr} {rest : List Expr} {t u : TDT} {pos : Pos} (ha : PT X a (LT X.K c W t)) (hb : PW X (.BoolOp .Or (b :: rest) pos) (LT X.K c W u)) : PW X (.BoolOp .Or (a :: b :: rest) pos) (LT X.K c W (orD t u)) :=
  PW_imp (pw_or ha hb) fun σ H Q ⟨δ, tmp, Qd, Ed, S, q, k, w⟩ => ⟨δ, tmp, _, _, S, q, fun b δ' H' q' S' => by
    cases b
    · exact ⟨δ', tmp, Qd, Ed, S', q', k, w⟩
    · exact k _ _ _ q' S', w⟩
/-! values by truth: bools alone -/
def boolE (t : TD) (k : Bool → DSt → Prop) (E : XD) (δ : DSt) : Prop := t δ (fun x δ1 => ∃ b, x = .d (.bl b) ∧ k b δ1) E
def notV (t : TD) : TD := fun δ Q E => boolE t (fun b δ1 => Q (.d (.bl (!b))) δ1) E δ
def andV (t u : TD) : TD := fun δ Q E => boolE t (fun b δ1 => if b = true then u δ1 Q E else Q (.d (.bl false)) δ1) E δ
def orV (t u : TD) : TD := fun δ Q E => boolE t (fun b δ1 => if b = true then Q (.d (.bl true)) δ1 else u δ1 Q E) E δ
theorem pd_not {a : Expr} {t : TD} {pos : Pos} (ha : PE X a (LE X.K c W t)) : PE X (.UnaryOp .Not a pos) (LE X.K c W (notV t)) :=
  PE_imp (pe_not ha) fun σ H Q ⟨δ, tmp, Qd, Ed, S, q, k, w⟩ => ⟨δ, tmp, _, _, S, q, fun v x δ' H' ⟨b, e, q'⟩ ⟨F, ow, S'⟩ => by
    subst e
    cases S'.top
    exact ⟨b, rfl, k _ _ _ _ q' ⟨F, ow, S'.pop.push (.bl _)⟩⟩, w⟩
theorem pd_one {op} {a : Expr} {t : TD} {pos : Pos} (ha : PE X a (LE X.K c W t)) : PE X (.BoolOp op [a] pos) (LE X.K c W t) := pe_one ha
theorem pd_and {a b : Expr} {rest : List Expr} {t u : TD} {pos : Pos} (ha : PE X a (LE X.K c W t)) (hb : PE X (.BoolOp .And (b :: rest) pos) (LE X.K c W u)) : PE X (.BoolOp .And (a :: b :: rest) pos) (LE X.K c W (andV t u)) :=
  PE_imp (pe_and ha hb) fun σ H Q ⟨δ, tmp, Qd, Ed, S, q, k, w⟩ => ⟨δ, tmp, _, _, S, q, fun v x δ' H' ⟨b, e, q'⟩ ⟨F, ow, S'⟩ => by
    subst e
    cases S'.top
    refine ⟨b, rfl, ?_⟩
    cases b
    · exact k _ _ _ _ q' ⟨F, ow, S'.pop.push (.bl _)⟩
    · exact ⟨δ', tmp, Qd, Ed, ⟨F, ow, S'.pop⟩, q', k, w⟩, w⟩
theorem pd_or {a b : Expr} {rest : List Expr} {t u : TD} {pos : Pos} (ha : PE X a (LE X.K c W t)) (hb : PE X (.BoolOp .Or (b :: rest) pos) (LE X.K c W u)) : PE X (.BoolOp .Or (a :: b :: rest) pos) (LE X.K c W (orV t u)) :=
  PE_imp (pe_or ha hb) fun σ H Q ⟨δ, tmp, Qd, Ed, S, q, k, w⟩ => ⟨δ, tmp, _, _, S, q, fun v x δ' H' ⟨b, e, q'⟩ ⟨F, ow, S'⟩ => by
    subst e
    cases S'.top
    refine ⟨b, rfl, ?_⟩
    cases b
    · exact ⟨δ', tmp, Qd, Ed, ⟨F, ow, S'.pop⟩, q', k, w⟩
    · exact k _ _ _ _ q' ⟨F, ow, S'.pop.push (.bl _)⟩, w⟩
/-! ### moving an own name's object out -/
def mvarD (i : Nat) : TD := fun δ Q _ => ∃ x, δ[i]? = some (some x) ∧ Q x (δ.set i none)
theorem pd_mvar {i : Nat} {x : Str} {pos : Pos} (h : PE X (.Name x pos) (tVar i)) (ni : i ∉ c.sl) : PE X (.Name x pos) (LE X.K c W (mvarD i)) := PE_imp h fun σ H Q ⟨δ, tmp, Qd, Ed, ⟨F, ow, S⟩, ⟨x, e, q⟩, k, w⟩ => by
  obtain ⟨v, ow', e1, S'⟩ := S.move e ni
  exact ⟨v, e1, k v _ _ _ q ⟨F, ow', S'⟩⟩
/-! ### attributes -/
def fldD (C : Addr) (f : Str) (t : TD) : TD := fun δ Q E => t δ (fun o δ1 => ∃ fs d, o.toD = .obj C fs ∧ fs.lookup f = some d ∧ Q (.d d) δ1) E
theorem pd_fld {e : Expr} {C : Addr} {f : Str} {t : TD} {pos : Pos} (he : PE X e (LE X.K c W t)) (cl : Cls X.K C) (na : NoAttr X.K C f) (hb : attributeBase e f X.env (eval e X.env) = eval e X.env) : PE X (.Attribute e f pos) (LE X.K c W (fldD C f t)) :=
  PE_imp (pe_fld he hb) fun σ H Q ⟨δ, tmp, Qd, Ed, S, q, k, w⟩ => ⟨δ, tmp, _, _, S, q, fun v o δ' H' ⟨fs, d, eo, el, q'⟩ ⟨F, ow, S'⟩ => by
    obtain ⟨F', S2, _⟩ := S'.top_frz
    rw [eo] at S2
    cases S2.top with
    | @obj a _ dx vs _ s h =>
      obtain ⟨u, e1, r⟩ := (RepF.lookup h).2 d el
      exact ⟨a, C, dx, vs, u, rfl, S2.fh _ _ s, cl, na, e1, k _ _ _ _ q' ⟨F', ow, S2.pop.push r⟩⟩, w⟩
/-- of an object of the body's own -/
def fldO (C : Addr) (i : Nat) (f : Str) : TD := fun δ Q _ => ∃ fs d, δ[i]? = some (some (.own (.ins C fs))) ∧ fs.lookup f = some d ∧ Q (.d d) δ
theorem pd_fldO {i : Nat} {x : Str} {C : Addr} {f : Str} {pos px : Pos} (he : PE X (.Name x px) (tVar i)) (cl : Cls X.K C) (na : NoAttr X.K C f) (hb : attributeBase (.Name x px) f X.env (eval (.Name x px) X.env) = eval (.Name x px) X.env) : PE X (.Attribute (.Name x px) f pos) (LE X.K c W (fldO C i f)) :=
  PE_imp (pe_fld he hb) fun σ H Q ⟨δ, tmp, Qd, Ed, ⟨F, ow, S⟩, ⟨fs, d, ei, el, q⟩, k, w⟩ => by
    obtain ⟨v, e1, p, rfl, _, _, _, dx, vs, ep, r⟩ := S.sl _ _ ei
    obtain ⟨u, e2, ru⟩ := (RepF.lookup r).2 d el
    exact ⟨_, e1, p, C, dx, vs, u, rfl, ep, cl, na, e2, k _ _ _ _ q ⟨F, ow, S.push ru⟩⟩
def putD (f : Str) (d : D) : List (Str × D) → List (Str × D)
  | [] => [(f, d)]
  | (g, x) :: r => if g = f then (g, d) :: r else (g, x) :: putD f d r
theorem RepF.put {K : PySem.W.Frag} {F : Hp} {f : Str} {v : V} {d : D} (h : Rep K F v d) : ∀ {vs : List (Str × V)} {fs : List (Str × D)}, RepF K F vs fs → RepF K F (putF f v vs) (putD f d fs)
  | _, _, .nil => .cons h .nil
  | _, _, .cons (n := n) a t => by
    unfold putF putD
    by_cases e : n = f
    · rw [if_pos e, if_pos e]; exact .cons h t
    · rw [if_neg e, if_neg e]; exact .cons a (t.put h)
theorem RepF.length {K : PySem.W.Frag} {F : Hp} : ∀ {vs : List (Str × V)} {fs : List (Str × D)}, RepF K F vs fs → vs.length = fs.length
  | _, _, .nil => rfl
  | _, _, .cons _ t => congrArg (· + 1) t.length
def fldSet (C : Addr) (i : Nat) (f : Str) (t : TD) : TDS := fun D δ => t δ (fun y δ1 => ∃ fs, δ1[i]? = some (some (.own (.ins C fs))) ∧ fs.length < 1000 ∧ D.nx (δ1.set i (some (.own (.ins C (putD f y.toD fs)))))) D.ex
theorem psd_fld {i : Nat} {x : Str} {C : Addr} {f : Str} {value : Expr} {t : TD} {pos px pos' : Pos} (he : PE X (.Name x px) (tVar i)) (hv : PE X value (LE X.K c W t)) (cl : Cls X.K C) (na : NoAttr X.K C f) (hs : swapsWith value (some (.Attribute (.Name x px) f pos')) pos.line X.env = pure false) :
    PS X (.Assign [.Attribute (.Name x px) f pos'] value pos) (LS X.K c W (fldSet C i f t)) :=
  PS_imp (ps_fld he hv hs) fun D σ H ⟨δ, tmp, Dd, S, q, k, kr, kb, kc, w⟩ => ⟨δ, tmp, _, _, S, q, fun v y δ1 H1 ⟨fs, ei, lf, q'⟩ ⟨F, ow, S1⟩ => by
    obtain ⟨F2, S2, _⟩ := S1.top_frz
    obtain ⟨u, e1, p, rfl, _, _, _, dx, vs, ep, r⟩ := S2.sl _ _ ei
    refine ⟨_, e1, p, C, dx, vs, rfl, ep, cl, na, by rw [r.length]; exact lf, k _ _ _ q' ⟨F2, ow, S2.pop.write ei e1 ⟨dx, _, upd_same, r.put S2.top⟩⟩⟩, w⟩
end
end DL

set_option Elab.async false
set_option linter.all false
set_option maxRecDepth 100000
namespace DL
open PySem PySem.Spec PyProof.Rows L2
/-! ### scalars -/
def D.sc : D → Option V
  | .non => some .non
  | .bl b => some (.bl b)
  | .int i => some (.int i)
  | .str x => some (.str x)
  | _ => none
section
variable {K : PySem.W.Frag} {F F' H H' : Hp} {v : V} {d : D}
theorem Rep.sc (r : Rep K F v d) {x : V} (e : d.sc = some x) : v = x := by
  cases r <;> (first | (cases e; rfl) | cases e)
theorem made_d (s : Same F H) (r : Rep K F v d) : Made K F H F H v (.d d) := .d (Ext.refl s) r
/-! ### two operands -/
theorem op2_I0 {g : Int → Int → V} {gd : Int → Int → D} (h : ∀ i j F, Rep K F (g i j) (gd i j)) : Op2 K (rI0 g) (fun a b Q => ∃ i j, a = .int i ∧ b = .int j ∧ Q (.d (gd i j))) := fun x y a b F H Q Qd s rx ry ⟨i, j, e1, e2, q⟩ k => by
  subst e1 e2
  cases rx; cases ry
  exact ⟨i, j, rfl, rfl, k _ _ F H q (made_d s (h i j F))⟩
theorem op2_I {C : Int → Int → Prop} {g : Int → Int → V} {gd : Int → Int → D} (h : ∀ i j F, Rep K F (g i j) (gd i j)) : Op2 K (rI C g) (fun a b Q => ∃ i j, a = .int i ∧ b = .int j ∧ C i j ∧ Q (.d (gd i j))) := fun x y a b F H Q Qd s rx ry ⟨i, j, e1, e2, c, q⟩ k => by
  subst e1 e2
  cases rx; cases ry
  exact ⟨i, j, rfl, rfl, c, k _ _ F H q (made_d s (h i j F))⟩
/-- operations whose answer is a bool or an int, that make nothing -/
abbrev RD2s := D → D → (D → Prop) → Prop
def Op2s (K : PySem.W.Frag) (r : R2) (rd : RD2s) : Prop := ∀ x y a b F H Q Qd, Same F H → Rep K F x a → Rep K F y b → rd a b Qd → (∀ v z, Qd z → z.sc = some v → Q v H) → r x y H Q
theorem sc_rep {K : PySem.W.Frag} {F : Hp} {v : V} {z : D} (hs : ∀ x, z = .str x → PyData.strOk x = true) (e : z.sc = some v) : Rep K F v z := by
  cases z <;> (first | (cases e; first | exact .non | exact .bl _ | exact .int _ | exact .str (hs _ rfl)) | cases e)
def NoStr (z : D) : Prop := ∀ x, z = .str x → PyData.strOk x = true
theorem Op2s.op {r : R2} {rd : RD2s} (h : Op2s K r rd) : Op2 K r (fun a b Q => rd a b fun z => NoStr z ∧ Q (.d z)) := fun x y a b F H Q Qd s rx ry q k =>
  h x y a b F H Q _ s rx ry q fun v z ⟨n, qz⟩ e => k v _ F H qz (made_d s (sc_rep n e))
abbrev eqS (neg : Bool) : RD2s := fun a b Q => ∃ x y, a.sc = some x ∧ b.sc = some y ∧ scal x y = true ∧ Q (.bl (if neg then !decide (x = y) else decide (x = y)))
theorem op2_eq : Op2s K rEq (eqS false) := fun x y a b F H Q Qd s rx ry ⟨u, w, e1, e2, c, q⟩ k => by
  cases rx.sc e1; cases ry.sc e2
  exact ⟨c, k _ _ q rfl⟩
theorem op2_ne : Op2s K rNe (eqS true) := fun x y a b F H Q Qd s rx ry ⟨u, w, e1, e2, c, q⟩ k => by
  cases rx.sc e1; cases ry.sc e2
  exact ⟨c, k _ _ q rfl⟩
/-! == of data -/
mutual
def D.isPy : D → Bool
  | .non => true | .bl _ => true | .int _ => true | .str _ => true
  | .lst xs => isPyL xs | .ro xs => isPyL xs | .tup xs => isPyL xs | .rot xs => isPyL xs
  | _ => false
def isPyL : List D → Bool
  | [] => true
  | d :: ds => d.isPy && isPyL ds
end
mutual
def D.py : D → PyData
  | .non => .none | .bl b => .bool b | .int i => .int i | .str x => .str x
  | .lst xs => .list (pyL xs) | .ro xs => .list (pyL xs) | .tup xs => .tuple (pyL xs) | .rot xs => .tuple (pyL xs)
  | _ => .none
def pyL : List D → List PyData
  | [] => []
  | d :: ds => d.py :: pyL ds
end
mutual
theorem Rep.dp : ∀ {v : V} {d : D}, Rep K F v d → d.isPy = true → Dp K F v d.py
  | _, _, .non, _ => .non
  | _, _, .bl b, _ => .bl b
  | _, _, .int i, _ => .int i
  | _, _, .str _, _ => .str _
  | _, _, .ty _, h => nomatch h
  | _, _, .adr _, h => nomatch h
  | _, _, .lst s r, h => .lst (SqL.of s) (r.dp h)
  | _, _, .ro s r, h => .lst s (r.dp h)
  | _, _, .tup s r, h => .tup (SqT.of s) (r.dp h)
  | _, _, .rot s r, h => .tup s (r.dp h)
  | _, _, .obj _ _, h => nomatch h
  | _, _, .dT _ _, h => nomatch h
  | _, _, .dK _ _, h => nomatch h
  | _, _, .exc0, h => nomatch h
  | _, _, .exc _ _, h => nomatch h
theorem RepL.dp : ∀ {vs : List V} {ds : List D}, RepL K F vs ds → isPyL ds = true → DpAll K F vs (pyL ds)
  | _, _, .nil, _ => .nil
  | _, _, .cons r t, h => .cons (r.dp (Bool.and_eq_true _ _ ▸ h).1) (t.dp (Bool.and_eq_true _ _ ▸ h).2)
end
mutual
theorem Rep.lay : ∀ {v : V} {d : D}, Rep K F v d → d.isPy = true → d.py.canLay0 = true
  | _, _, .non, _ => by simp only [D.py, PyData.canLay0]
  | _, _, .bl b, _ => by simp only [D.py, PyData.canLay0]
  | _, _, .int i, _ => by simp only [D.py, PyData.canLay0]
  | _, _, .str k, _ => by simp only [D.py, PyData.canLay0]; exact k
  | _, _, .ty _, h => nomatch h
  | _, _, .adr _, h => nomatch h
  | _, _, .lst s r, h => by simp only [D.py, PyData.canLay0]; exact r.lay h
  | _, _, .ro s r, h => by simp only [D.py, PyData.canLay0]; exact r.lay h
  | _, _, .tup s r, h => by simp only [D.py, PyData.canLay0]; exact r.lay h
  | _, _, .rot s r, h => by simp only [D.py, PyData.canLay0]; exact r.lay h
  | _, _, .obj _ _, h => nomatch h
  | _, _, .dT _ _, h => nomatch h
  | _, _, .dK _ _, h => nomatch h
  | _, _, .exc0, h => nomatch h
  | _, _, .exc _ _, h => nomatch h
theorem RepL.lay : ∀ {vs : List V} {ds : List D}, RepL K F vs ds → isPyL ds = true → PyData.canLayAll0 (pyL ds) = true
  | _, _, .nil, _ => by simp only [pyL, PyData.canLayAll0]
  | _, _, .cons r t, h => by
    simp only [pyL, PyData.canLayAll0]
    rw [r.lay (Bool.and_eq_true _ _ ▸ h).1, t.lay (Bool.and_eq_true _ _ ▸ h).2]
    rfl
end
mutual
theorem dp_mono (e : Same F F') : ∀ {v : V} {d : PyData}, Dp K F v d → Dp K F' v d
  | _, _, .non => .non
  | _, _, .bl b => .bl b
  | _, _, .int i => .int i
  | _, _, .str x => .str x
  | _, _, .lst s h => .lst (e.seq s) (dpAll_mono e h)
  | _, _, .tup s h => .tup (sqt_mono e s) (dpAll_mono e h)
theorem dpAll_mono (e : Same F F') : ∀ {v : List V} {d : List PyData}, DpAll K F v d → DpAll K F' v d
  | _, _, .nil => .nil
  | _, _, .cons h t => .cons (dp_mono e h) (dpAll_mono e t)
end
/-- data that may be compared -/
def Cmp (d : D) : Prop := d.isPy = true ∧ d.py.depth ≤ 64
theorem Rep.shp (r : Rep K F v d) (c : Cmp d) : SeqAt.shaped d.py = true := by
  unfold SeqAt.shaped
  rw [r.lay c.1, decide_eq_true c.2]
  rfl
abbrev eqP (neg : Bool) : RD2s := fun a b Q => Cmp a ∧ Cmp b ∧ Q (.bl (if neg then !PyData.eqv a.py b.py else PyData.eqv a.py b.py))
theorem op2_eqD : Op2s K (rEqD K) (eqP false) := fun x y a b F H Q Qd s rx ry ⟨c1, c2, q⟩ k =>
  ⟨a.py, b.py, dp_mono s (rx.dp c1.1), dp_mono s (ry.dp c2.1), rx.shp c1, ry.shp c2, k _ _ q rfl⟩
theorem op2_neD : Op2s K (rNeD K) (eqP true) := fun x y a b F H Q Qd s rx ry ⟨c1, c2, q⟩ k =>
  ⟨a.py, b.py, dp_mono s (rx.dp c1.1), dp_mono s (ry.dp c2.1), rx.shp c1, ry.shp c2, k _ _ q rfl⟩
/-! ### rows -/
/-- the items of a row -/
def D.its : D → Option (List D)
  | .lst xs => some xs
  | .ro xs => some xs
  | .tup xs => some xs
  | .rot xs => some xs
  | _ => none
theorem Rep.row {xs : List D} (r : Rep K F v d) (e : d.its = some xs) : ∃ p vs, v = .ref p ∧ (SqL K F p vs ∨ SqT K F p vs) ∧ RepL K F vs xs := by
  cases r <;> (first | (cases e; first | exact ⟨_, _, rfl, .inl (SqL.of ‹_›), ‹_›⟩ | exact ⟨_, _, rfl, .inl ‹_›, ‹_›⟩ | exact ⟨_, _, rfl, .inr (SqT.of ‹_›), ‹_›⟩ | exact ⟨_, _, rfl, .inr ‹_›, ‹_›⟩) | cases e)
theorem RepL.len : ∀ {vs : List V} {ds : List D}, RepL K F vs ds → vs.length = ds.length
  | _, _, .nil => rfl
  | _, _, .cons _ t => congrArg (· + 1) t.len
theorem RepL.get : ∀ {vs : List V} {ds : List D} {i : Nat} {d : D}, RepL K F vs ds → ds[i]? = some d → ∃ v, vs[i]? = some v ∧ Rep K F v d
  | _, _, 0, _, .cons h _, e => by cases e; exact ⟨_, rfl, h⟩
  | _, _, i + 1, _, .cons _ t, e => t.get (i := i) e
theorem RepL.app : ∀ {vs ws : List V} {ds es : List D}, RepL K F vs ds → RepL K F ws es → RepL K F (vs ++ ws) (ds ++ es)
  | _, _, _, _, .nil, h => h
  | _, _, _, _, .cons a t, h => .cons a (t.app h)
theorem RepL.set {v : V} {d : D} (r : Rep K F v d) : ∀ {vs : List V} {ds : List D} (i : Nat), RepL K F vs ds → RepL K F (vs.set i v) (ds.set i d)
  | _, _, _, .nil => .nil
  | _, _, 0, .cons _ t => .cons r t
  | _, _, i + 1, .cons a t => .cons a (t.set r i)
theorem RepL.erase : ∀ {vs : List V} {ds : List D} (i : Nat), RepL K F vs ds → RepL K F (vs.eraseIdx i) (ds.eraseIdx i)
  | _, _, _, .nil => .nil
  | _, _, 0, .cons _ t => t
  | _, _, i + 1, .cons a t => .cons a (t.erase i)
theorem RepL.take : ∀ {vs : List V} {ds : List D} (i : Nat), RepL K F vs ds → RepL K F (vs.take i) (ds.take i)
  | _, _, 0, _ => .nil
  | _, _, _ + 1, .nil => .nil
  | _, _, i + 1, .cons a t => .cons a (t.take i)
theorem RepL.drop : ∀ {vs : List V} {ds : List D} (i : Nat), RepL K F vs ds → RepL K F (vs.drop i) (ds.drop i)
  | _, _, 0, h => h
  | _, _, _ + 1, .nil => .nil
  | _, _, i + 1, .cons a t => t.drop i
theorem RepL.rep {vs : List V} {ds : List D} (h : RepL K F vs ds) : ∀ n : Nat, RepL K F (List.replicate n vs).flatten (List.replicate n ds).flatten
  | 0 => .nil
  | n + 1 => by
    rw [List.replicate_succ, List.replicate_succ, List.flatten_cons, List.flatten_cons]
    exact h.app (h.rep n)
theorem RepL.ats {vs : List V} {ds : List D} {i : Int} (h : RepL K F vs ds) (e : atI ds i = some d) : ∃ v, atI vs i = some v ∧ Rep K F v d := by
  unfold atI at e ⊢
  rw [h.len]
  cases q : ixN ds.length i with
  | none => rw [q] at e; cases e
  | some j => rw [q] at e; exact h.get e
def cutD (xs : List D) (lo hi : Option Int) : List D := (xs.drop (HT.sIx xs.length 0 lo)).take (HT.sIx xs.length xs.length hi - HT.sIx xs.length 0 lo)
theorem RepL.cut {vs : List V} {ds : List D} (lo hi : Option Int) (h : RepL K F vs ds) : RepL K F (cutV vs lo hi) (cutD ds lo hi) := by
  unfold cutV cutD
  rw [h.len]
  exact (h.drop _).take _
/-- rows of scalars -/
def scL : List D → Option (List V)
  | [] => some []
  | d :: ds => match d.sc, scL ds with
    | some v, some vs => some (v :: vs)
    | _, _ => none
theorem RepL.sc : ∀ {vs ws : List V} {ds : List D}, RepL K F vs ds → scL ds = some ws → vs = ws
  | _, _, _, .nil, e => by cases e; rfl
  | _, _, _, .cons (d := d) (ds := ds) r t, e => by
    unfold scL at e
    cases q : d.sc with
    | none => rw [q] at e; cases e
    | some v =>
      cases q2 : scL ds with
      | none => rw [q, q2] at e; cases e
      | some ws =>
        rw [q, q2] at e
        cases e
        rw [r.sc q, t.sc q2]
theorem sq_mono {F H : Hp} {p : Addr} {vs : List V} (s : Same F H) (h : SqL K F p vs ∨ SqT K F p vs) : SqL K H p vs ∨ SqT K H p vs := h.imp (fun h => s.seq h) fun h => sqt_mono s h
/-- x in row, of scalars -/
abbrev inS (neg : Bool) : RD2s := fun a b Q => ∃ x xs ys, a.sc = some x ∧ b.its = some xs ∧ scL xs = some ys ∧ Q (.bl (if neg then !inV x ys else inV x ys))
theorem sc_flat : ∀ {d : D} {x : V}, d.sc = some x → flatV x = true := fun {d x} e => by cases d <;> (first | (cases e; rfl) | cases e)
theorem scL_flat : ∀ {ds : List D} {ys : List V}, scL ds = some ys → ys.all flatV = true
  | [], _, e => by cases e; rfl
  | d :: ds, _, e => by
    unfold scL at e
    cases q : d.sc with
    | none => rw [q] at e; cases e
    | some v =>
      cases q2 : scL ds with
      | none => rw [q, q2] at e; cases e
      | some ws =>
        rw [q, q2] at e
        cases e
        rw [List.all_cons, sc_flat q, scL_flat q2]
        rfl
theorem op2_in (neg : Bool) : Op2s K (rIn K neg) (inS neg) := fun x y a b F H Q Qd s rx ry ⟨u, xs, ys, e1, e2, e3, q⟩ k => by
  cases rx.sc e1
  obtain ⟨p, vs, rfl, h, r⟩ := ry.row e2
  cases r.sc e3
  exact ⟨p, _, rfl, sq_mono s h, sc_flat e1, scL_flat e3, k _ _ q rfl⟩
/-- a sign in a text -/
abbrev inSign (neg : Bool) : RD2s := fun a b Q => ∃ (c : Nat) (z : Str), a = .str ⟨#[c]⟩ ∧ b = .str z ∧ Q (.bl (if neg then !decide (c ∈ z.cps.toList) else decide (c ∈ z.cps.toList)))
theorem op2_inSign : Op2s K (fun x y H Q => ∃ (c : Nat) (z : Str), x = .str ⟨#[c]⟩ ∧ y = .str z ∧ Q (.bl (decide (c ∈ z.cps.toList))) H) (inSign false) := fun x y a b F H Q Qd s rx ry ⟨c, z, e1, e2, q⟩ k => by
  subst e1 e2
  cases rx; cases ry
  exact ⟨c, z, rfl, rfl, k _ _ q rfl⟩
/-- is None -/
abbrev isNS (neg : Bool) : RD2s := fun a b Q => ∃ t, b = .non ∧ (t = true ↔ a = .non) ∧ Q (.bl (if neg then !t else t))
theorem op2_isN : Op2s K (fun x y H Q => y = .non ∧ Q (.bl (decide (x = .non))) H) (isNS false) := fun x y a b F H Q Qd s rx ry ⟨t, e, ht, q⟩ k => by
  subst e
  cases ry
  refine ⟨rfl, ?_⟩
  have : decide (x = V.non) = t := by
    rw [Bool.eq_iff_iff, decide_eq_true_eq, ht]
    constructor
    · intro e; subst e; cases rx; rfl
    · intro e; subst e; cases rx; rfl
  rw [this]
  exact k _ _ q rfl
theorem op2_notN : Op2s K (fun x y H Q => y = .non ∧ Q (.bl (!decide (x = .non))) H) (isNS true) := fun x y a b F H Q Qd s rx ry ⟨t, e, ht, q⟩ k => by
  subst e
  cases ry
  refine ⟨rfl, ?_⟩
  have : decide (x = V.non) = t := by
    rw [Bool.eq_iff_iff, decide_eq_true_eq, ht]
    constructor
    · intro e; subst e; cases rx; rfl
    · intro e; subst e; cases rx; rfl
  rw [this]
  exact k _ _ q rfl
theorem op2_isB : Op2s K rIsB (fun a b Q => ∃ x y, a = .bl x ∧ b = .bl y ∧ Q (.bl (decide (x = y)))) := fun x y a b F H Q Qd s rx ry ⟨u, w, e1, e2, q⟩ k => by
  subst e1 e2
  cases rx; cases ry
  exact ⟨u, w, rfl, rfl, k _ _ q rfl⟩
theorem op2_notB : Op2s K rNotB (fun a b Q => ∃ x y, a = .bl x ∧ b = .bl y ∧ Q (.bl (!decide (x = y)))) := fun x y a b F H Q Qd s rx ry ⟨u, w, e1, e2, q⟩ k => by
  subst e1 e2
  cases rx; cases ry
  exact ⟨u, w, rfl, rfl, k _ _ q rfl⟩
/-! what makes something new -/
theorem strOk_app {x y : Str} (h1 : PyData.strOk x = true) (h2 : PyData.strOk y = true) : PyData.strOk (x ++ y) = true := by
  unfold PyData.strOk at *
  show ((x.cps ++ y.cps).all _) = true
  rw [Array.all_append, h1, h2]
  rfl
theorem op2_addS : Op2 K (fun x y H Q => ∃ i j, x = .str i ∧ y = .str j ∧ i.length + j.length ≤ sizeLine ∧ Q (.str (i ++ j)) H) (fun a b Q => ∃ i j, a = .str i ∧ b = .str j ∧ i.length + j.length ≤ sizeLine ∧ Q (.d (.str (i ++ j)))) := fun x y a b F H Q Qd s rx ry ⟨i, j, e1, e2, z, q⟩ k => by
  subst e1 e2
  cases rx with
  | str k1 =>
    cases ry with
    | str k2 => exact ⟨i, j, rfl, rfl, z, k _ _ F H q (made_d s (.str (strOk_app k1 k2)))⟩
theorem made_list {p : Addr} {vs : List V} {ds : List D} (n : H p = none) (s : Same F H) (r : RepL K F vs ds) : Made K F H F (upd H p (.lst vs)) (.ref p) (.own (.lst ds)) := .own (ob := .lst vs) rfl n rfl rfl ⟨vs, upd_same, r⟩
theorem made_tup {p : Addr} {vs : List V} {ds : List D} (n : H p = none) (s : Same F H) (r : RepL K F vs ds) : Made K F H (upd F p (.tup vs)) (upd H p (.tup vs)) (.ref p) (.d (.tup ds)) :=
  .d (Ext.new s n) (.tup upd_same (r.mono (same_upd (Same.refl F) (s.free n))))
theorem op2_cat : Op2 K rCat (fun a b Q => ∃ xs ys, a = .lst xs ∧ b = .lst ys ∧ xs.length + ys.length ≤ sizeLine ∧ Q (.own (.lst (xs ++ ys)))) := fun x y a b F H Q Qd s rx ry ⟨xs, ys, e1, e2, z, q⟩ k => by
  subst e1 e2
  cases rx with
  | lst s1 r1 =>
    cases ry with
    | lst s2 r2 => exact ⟨_, _, _, _, rfl, rfl, s _ _ s1, s _ _ s2, by rw [r1.len, r2.len]; exact z, fun p n => k _ _ _ _ q (made_list n s (r1.app r2))⟩
theorem op2_rep : Op2 K rRep (fun a b Q => ∃ xs n, a = .lst xs ∧ b = .int n ∧ -(2 ^ 63) ≤ n ∧ n < 2 ^ 63 ∧ xs.length * n.toNat ≤ sizeLine ∧ Q (.own (.lst (List.replicate n.toNat xs).flatten))) := fun x y a b F H Q Qd s rx ry ⟨xs, n, e1, e2, z1, z2, z, q⟩ k => by
  subst e1 e2
  cases ry
  cases rx with
  | lst s1 r1 => exact ⟨_, _, _, rfl, rfl, s _ _ s1, z1, z2, by rw [r1.len]; exact z, fun p np => k _ _ _ _ q (made_list np s (r1.rep _))⟩
theorem RepL.nil_iff {vs : List V} {ds : List D} (h : RepL K F vs ds) : vs = [] ↔ ds = [] := by cases h <;> simp
theorem op2_catT : Op2 K (rCatA K) (fun a b Q => ∃ xs ys, a = .tup xs ∧ b = .tup ys ∧ xs.length + ys.length ≤ sizeLine ∧ Q (.d (.tup (xs ++ ys)))) := fun x y a b F H Q Qd s rx ry ⟨xs, ys, e1, e2, z, q⟩ k => by
  subst e1 e2
  cases rx with
  | tup s1 r1 =>
    cases ry with
    | tup s2 r2 =>
      refine ⟨_, _, _, _, rfl, rfl, SqT.of (s _ _ s1), SqT.of (s _ _ s2), by rw [r1.len, r2.len]; exact z, fun e => ?_, fun _ e => ?_, fun _ _ p n => k _ _ _ _ q (made_tup n s (r1.app r2))⟩
      · have : xs = [] := r1.nil_iff.mp e
        subst this
        exact k _ _ _ _ q (made_d s (.tup s2 r2))
      · have : ys = [] := r2.nil_iff.mp e
        subst this
        rw [List.append_nil] at q
        exact k _ _ _ _ q (made_d s (.tup s1 r1))
/-! ### an item -/
abbrev ixD : RD2 := fun a b Q => ∃ i, b = .int i ∧ ((∃ xs d, (a = .lst xs ∨ a = .ro xs) ∧ atI xs i = some d ∧ Q (.d d)))
theorem op2_ixL : Op2 K (rIxL K) ixD := fun x y a b F H Q Qd s rx ry ⟨i, e, xs, d, ha, at', q⟩ k => by
  subst e
  cases ry
  rcases ha with rfl | rfl
  · cases rx with
    | lst s1 r1 => obtain ⟨v, e1, r⟩ := r1.ats at'; exact ⟨_, _, i, v, rfl, rfl, s.seq (SqL.of s1), e1, k _ _ _ _ q (made_d s r)⟩
  · cases rx with
    | ro s1 r1 => obtain ⟨v, e1, r⟩ := r1.ats at'; exact ⟨_, _, i, v, rfl, rfl, s.seq s1, e1, k _ _ _ _ q (made_d s r)⟩
theorem op2_ixT : Op2 K (rIxT K) (fun a b Q => ∃ xs i d, a = .tup xs ∧ b = .int i ∧ atI xs i = some d ∧ Q (.d d)) := fun x y a b F H Q Qd s rx ry ⟨xs, i, d, e1, e2, at', q⟩ k => by
  subst e1 e2
  cases ry
  cases rx with
  | tup s1 r1 => obtain ⟨v, e1, r⟩ := r1.ats at'; exact ⟨_, _, i, v, rfl, rfl, SqT.of (s _ _ s1), e1, k _ _ _ _ q (made_d s r)⟩
theorem strOk_one {z : Str} {c : Nat} (h : PyData.strOk z = true) (e : c ∈ z.cps.toList) : PyData.strOk ⟨#[c]⟩ = true := by
  unfold PyData.strOk at *
  rw [Array.all_eq_true] at h
  obtain ⟨i, hi, rfl⟩ := List.mem_iff_getElem.mp e
  have := h i (by simpa using hi)
  simpa using this
theorem op2_ixS : Op2 K rIxS (fun a b Q => ∃ z i c, a = .str z ∧ b = .int i ∧ z.length ≤ sizeLine ∧ atI z.cps.toList i = some c ∧ Q (.d (.str ⟨#[c]⟩))) := fun x y a b F H Q Qd s rx ry ⟨z, i, c, e1, e2, hz, at', q⟩ k => by
  subst e1 e2
  cases ry
  cases rx with
  | str k1 =>
    refine ⟨z, i, c, rfl, rfl, hz, at', k _ _ _ _ q (made_d s (.str (strOk_one k1 ?_)))⟩
    unfold atI at at'
    cases q : ixN z.cps.toList.length i with
    | none => rw [q] at at'; cases at'
    | some j => rw [q] at at'; exact List.mem_of_getElem? at'
end
section
variable {X : Cx} {c : Fc} {W : WX}
theorem pd_ix {a b : Expr} {r : R2} {rd : RD2} {ta tb : TD} {pos : Pos} (ho : IxR X r) (hd : Op2 X.K r rd) (ha : PE X a (LE X.K c W ta)) (hb : PE X b (LE X.K c W tb)) (hs : PlainIx b) : PE X (.Subscript a b pos) (LE X.K c W (opD rd ta tb)) :=
  PE_imp (pe_ix ho ha hb hs) (lift_op hd)
/-- of an own list in slot i -/
def ixO (i : Nat) (t : TD) : TD := fun δ Q E => ∃ o, δ[i]? = some (some (.own o)) ∧ t δ (fun k δ1 => ∃ xs j d, δ1[i]? = some (some (.own (.lst xs))) ∧ k.toD = .int j ∧ atI xs j = some d ∧ Q (.d d) δ1) E
theorem pd_ixO {i : Nat} {x : Str} {b : Expr} {t : TD} {pos px : Pos} (ha : PE X (.Name x px) (tVar i)) (hb : PE X b (LE X.K c W t)) (hs : PlainIx b) : PE X (.Subscript (.Name x px) b pos) (LE X.K c W (ixO i t)) :=
  PE_imp (pe_ix ix_list ha hb hs) fun σ H Q ⟨δ, tmp, Qd, Ed, ⟨F, ow, S⟩, ⟨o, eo, q⟩, k, w⟩ => by
    obtain ⟨v, e1, p, rfl, _⟩ := S.sl _ _ eo
    refine ⟨_, e1, δ, tmp, _, Ed, ⟨F, ow, S⟩, q, fun u y δ1 H1 ⟨xs, j, d, ei, ej, ed, q1⟩ ⟨F1, ow1, S1⟩ => ?_, w⟩
    obtain ⟨F2, S2, _⟩ := S1.top_frz
    obtain ⟨v', e2, p', rfl, _, _, _, vs, ep, r⟩ := S2.sl _ _ ei
    rw [e1] at e2
    cases e2
    rw [ej] at S2
    obtain ⟨z, ez, rz⟩ := r.ats ed
    cases S2.top
    exact ⟨p, vs, j, z, rfl, rfl, SqL.of ep, ez, k _ _ _ _ q1 ⟨F2, ow1, S2.pop.push rz⟩⟩
/-! ### built-ins -/
abbrev RDN := List D → (DV → Prop) → Prop
abbrev RDNs := List D → (D → Prop) → Prop
def CallN (K : PySem.W.Frag) (r : List V → Hp → VK → Prop) (rd : RDN) : Prop := ∀ xs ds F H Q Qd, Same F H → RepL K F xs ds → rd ds Qd → (∀ v dv F' H', Qd dv → Made K F H F' H' v dv → Q v H') → r xs H Q
def CallNs (K : PySem.W.Frag) (r : List V → Hp → VK → Prop) (rd : RDNs) : Prop := ∀ xs ds F H Q Qd, Same F H → RepL K F xs ds → rd ds Qd → (∀ v z, Qd z → z.sc = some v → Q v H) → r xs H Q
theorem CallNs.op {K : PySem.W.Frag} {r : List V → Hp → VK → Prop} {rd : RDNs} (h : CallNs K r rd) : CallN K r (fun ds Q => rd ds fun z => NoStr z ∧ Q (.d z)) := fun xs ds F H Q Qd s rx q k =>
  h xs ds F H Q _ s rx q fun v z ⟨n, qz⟩ e => k v _ F H qz (made_d s (sc_rep n e))
def builtD (rd : RDN) (ta : TDA) : TD := fun δ Q E => ta δ (fun as δ1 => ∃ ds, as = ds.map .d ∧ rd ds fun z => Q z δ1) E
theorem args_d {K : PySem.W.Frag} {F : Hp} {σ : L2.St} : ∀ {ds : List D} {vs : List V}, RepArgs K F σ vs (ds.map .d) → RepL K F vs ds
  | [], _, .nil => .nil
  | _ :: _, _, .d h t => .cons h (args_d t)
theorem lift_built {r : List V → Hp → VK → Prop} {rd : RDN} {ta : TDA} {K : PySem.W.Frag} (hd : CallN K r rd) : ∀ σ H Q, LE K c W (builtD rd ta) σ H Q → tCB r (LA K c W ta) σ H Q := fun σ H Q ⟨δ, tmp, Qd, Ed, S, t, k, w⟩ =>
  ⟨δ, tmp, _, Ed, S, t, fun vs as δ1 F ow H1 ⟨ds, e, q⟩ S1 ra => by
    subst e
    exact hd _ _ F H1 Q _ S1.fh (args_d ra) q fun v dv F' H' q' m => k _ _ _ _ q' (m.stt S1), w⟩
theorem pd_builtB {x : Str} {e : Expr} {es : List Expr} {p pos : Pos} {r : List V → Hp → VK → Prop} {rd : RDN} {ta : TDA} (h : ∀ {t : TA}, PA X (e :: es) t → PE X (.Call (.Name x p) (e :: es) [] pos) (tCB r t)) (hd : CallN X.K r rd) (ha : PA X (e :: es) (LA X.K c W ta)) :
    PE X (.Call (.Name x p) (e :: es) [] pos) (LE X.K c W (builtD rd ta)) := PE_imp (h ha) (lift_built hd)
/-- of the own list in slot i alone -/
def builtO (i : Nat) (rd : RDNs) : TD := fun δ Q _ => ∃ xs, δ[i]? = some (some (.own (.lst xs))) ∧ rd [.lst xs] fun z => NoStr z ∧ Q (.d z) δ
theorem pd_builtO {i : Nat} {x y : Str} {p pos py : Pos} {r : List V → Hp → VK → Prop} {rd : RDNs} (h : ∀ {t : TA}, PA X [.Name y py] t → PE X (.Call (.Name x p) [.Name y py] [] pos) (tCB r t)) (hd : CallNs X.K r rd) (hv : PE X (.Name y py) (tVar i)) (hs : starEach [.Name y py] X.env = (false, eval (.Name y py) X.env) :: starEach [] X.env := by rfl) :
    PE X (.Call (.Name x p) [.Name y py] [] pos) (LE X.K c W (builtO i rd)) := PE_imp (h (pa_cons hv pa_nil hs)) fun σ H Q ⟨δ, tmp, Qd, Ed, ⟨F, ow, S⟩, ⟨xs, ei, q⟩, k, w⟩ => by
  obtain ⟨v, e1, p, rfl, _, n, _, r⟩ := S.sl _ _ ei
  obtain ⟨u, eu, r'⟩ := OwnRep.freeze (o := .lst xs) r n S.fh
  exact ⟨_, e1, hd _ _ (upd F p u) H Q _ (same_upd1 S.fh eu) (.cons r' .nil) q fun v z ⟨n, qz⟩ e => k v _ _ _ qz ⟨F, ow, S.push (sc_rep n e)⟩⟩
end
section
variable {K : PySem.W.Frag} {F F' H H' : Hp} {v : V} {d : D}
abbrev lenS : RDNs := fun ds Q => ∃ a xs, ds = [a] ∧ a.its = some xs ∧ Q (.int xs.length)
theorem cn_len : CallNs K (fun xs H Q => ∃ p ys, xs = [.ref p] ∧ (SqL K H p ys ∨ SqT K H p ys) ∧ Q (.int ys.length) H) lenS := fun xs ds F H Q Qd s r ⟨a, ys, e1, e2, q⟩ k => by
  subst e1
  cases r with
  | cons r t =>
    cases t
    obtain ⟨p, vs, rfl, h, r2⟩ := r.row e2
    rw [← r2.len] at q
    exact ⟨p, vs, rfl, sq_mono s h, k _ _ q rfl⟩
abbrev lenStr : RDNs := fun ds Q => ∃ z, ds = [.str z] ∧ z.length ≤ sizeLine ∧ Q (.int z.length)
theorem cn_lenS : CallNs K (fun xs H Q => ∃ z, xs = [.str z] ∧ z.length ≤ sizeLine ∧ Q (.int z.length) H) lenStr := fun xs ds F H Q Qd s r ⟨z, e1, hz, q⟩ k => by
  subst e1
  cases r with
  | cons r t => cases t; cases r; exact ⟨z, rfl, hz, k _ _ q rfl⟩
abbrev int1S : RDNs := fun ds Q => ∃ i, ds = [.int i] ∧ Q (.int i)
theorem cn_int : CallNs K (fun xs H Q => (∃ i, xs = [.int i] ∧ Q (.int i) H) ∨ ∃ k, xs = [.bl k] ∧ Q (.int (if k then 1 else 0)) H) int1S := fun xs ds F H Q Qd s r ⟨i, e1, q⟩ k => by
  subst e1
  cases r with
  | cons r t => cases t; cases r; exact .inl ⟨i, rfl, k _ _ q rfl⟩
abbrev absS : RDNs := fun ds Q => ∃ i, ds = [.int i] ∧ Q (.int (if i < 0 then -i else i))
theorem cn_abs : CallNs K (fun xs H Q => ∃ i, xs = [.int i] ∧ Q (.int (if i < 0 then -i else i)) H) absS := fun xs ds F H Q Qd s r ⟨i, e1, q⟩ k => by
  subst e1
  cases r with
  | cons r t => cases t; cases r; exact ⟨i, rfl, k _ _ q rfl⟩
abbrev two (f : Int → Int → Int) : RDNs := fun ds Q => ∃ i j, ds = [.int i, .int j] ∧ Q (.int (f i j))
theorem cn_two {f : Int → Int → Int} : CallNs K (fun xs H Q => ∃ i j, xs = [.int i, .int j] ∧ Q (.int (f i j)) H) (two f) := fun xs ds F H Q Qd s r ⟨i, j, e1, q⟩ k => by
  subst e1
  cases r with
  | cons r t =>
    cases t with
    | cons r2 t => cases t; cases r; cases r2; exact ⟨i, j, rfl, k _ _ q rfl⟩
theorem repL_map {f : α → V} {g : α → D} (h : ∀ {F v a}, Rep K F v (g a) → v = f a) : ∀ {l : List α} {vs : List V}, RepL K F vs (l.map g) → vs = l.map f
  | [], _, .nil => rfl
  | a :: l, _, .cons r t => by rw [h r, repL_map h t]; rfl
theorem repL_int {l : List Int} {vs : List V} (r : RepL K F vs (l.map .int)) : vs = l.map V.int := repL_map (fun r => by cases r; rfl) r
theorem repL_bl {l : List Bool} {vs : List V} (r : RepL K F vs (l.map .bl)) : vs = l.map V.bl := repL_map (fun r => by cases r; rfl) r
abbrev allS (f : List Bool → Bool) : RDNs := fun ds Q => ∃ bs, (ds = [.lst (bs.map .bl)] ∨ ds = [.ro (bs.map .bl)]) ∧ Q (.bl (f bs))
theorem rep_lst {p : V} {xs : List D} (s : Same F H) (h : ([.lst xs] = ds) ∨ ([.ro xs] = ds)) {vs : List V} (r : RepL K F vs ds) : ∃ a ys, vs = [.ref a] ∧ SqL K H a ys ∧ RepL K F ys xs := by
  rcases h with rfl | rfl
  · cases r with
    | cons r t => cases t; cases r with
      | lst s1 r1 => exact ⟨_, _, rfl, s.seq (SqL.of s1), r1⟩
  · cases r with
    | cons r t => cases t; cases r with
      | ro s1 r1 => exact ⟨_, _, rfl, s.seq s1, r1⟩
theorem cn_all : CallNs K (rAll K) (allS fun bs => bs.all id) := fun xs ds F H Q Qd s r ⟨bs, e, q⟩ k => by
  obtain ⟨a, ys, rfl, h, r2⟩ := rep_lst (p := .non) s (e.imp Eq.symm Eq.symm) r
  cases repL_bl r2
  exact ⟨a, bs, rfl, h, k _ _ q rfl⟩
theorem cn_any : CallNs K (rAny K) (allS fun bs => bs.any id) := fun xs ds F H Q Qd s r ⟨bs, e, q⟩ k => by
  obtain ⟨a, ys, rfl, h, r2⟩ := rep_lst (p := .non) s (e.imp Eq.symm Eq.symm) r
  cases repL_bl r2
  exact ⟨a, bs, rfl, h, k _ _ q rfl⟩
abbrev sumS : RDNs := fun ds Q => ∃ ns : List Int, (ds = [.lst (ns.map .int)] ∨ ds = [.ro (ns.map .int)]) ∧ Q (.int ns.sum)
theorem cn_sum : CallNs K (rSum K) sumS := fun xs ds F H Q Qd s r ⟨bs, e, q⟩ k => by
  obtain ⟨a, ys, rfl, h, r2⟩ := rep_lst (p := .non) s (e.imp Eq.symm Eq.symm) r
  cases repL_int r2
  exact ⟨a, bs, rfl, h, k _ _ q rfl⟩
abbrev extS (P : Int → Int → Prop) : RDNs := fun ds Q => ∃ ns : List Int, (ds = [.lst (ns.map .int)] ∨ ds = [.ro (ns.map .int)]) ∧ 0 < ns.length ∧ ∀ m, m ∈ ns → (∀ y, y ∈ ns → P y m) → Q (.int m)
theorem cn_max : CallNs K (rMax K) (extS fun y m => y ≤ m) := fun xs ds F H Q Qd s r ⟨bs, e, z, q⟩ k => by
  obtain ⟨a, ys, rfl, h, r2⟩ := rep_lst (p := .non) s (e.imp Eq.symm Eq.symm) r
  cases repL_int r2
  exact ⟨a, bs, rfl, h, z, fun m hm hy => k _ _ (q m hm hy) rfl⟩
theorem cn_min : CallNs K (rMin K) (extS fun y m => m ≤ y) := fun xs ds F H Q Qd s r ⟨bs, e, z, q⟩ k => by
  obtain ⟨a, ys, rfl, h, r2⟩ := rep_lst (p := .non) s (e.imp Eq.symm Eq.symm) r
  cases repL_int r2
  exact ⟨a, bs, rfl, h, z, fun m hm hy => k _ _ (q m hm hy) rfl⟩
/-- isinstance -/
inductive ClsD : D → Value → Prop where
  | ty (n : String) : ClsD (.ty n) (.type n)
  | own (C : Addr) : ClsD (.adr C) (.ref C)
inductive TyD (K : PySem.W.Frag) : D → Value → Prop where
  | non : TyD K .non (.type "NoneType")
  | bl (b : Bool) : TyD K (.bl b) (.type "bool")
  | int (i : Int) : TyD K (.int i) (.type "int")
  | str (x : Str) : TyD K (.str x) (.type "str")
  | lst (xs : List D) : TyD K (.lst xs) (.type "list")
  | tup (xs : List D) : TyD K (.tup xs) (.type "tuple")
  | rot (xs : List D) : TyD K (.rot xs) (.type "tuple")
  | obj {C : Addr} {fs : List (Str × D)} (cl : Cls K C) (i : SlX.SIsi K C) : TyD K (.obj C fs) (.ref C)
theorem sqt_ty {p : Addr} {vs : List V} (h : SqT K H p vs) : TyX K H (.ref p) (.type "tuple") := by
  rcases h with (h | ⟨o, h⟩) | ⟨o, its, n, e, cl, _⟩
  · exact .base (.tup h)
  · exact .fTuple h
  · exact .kTuple e cl
theorem tyD_x {t : Value} (s : Same F H) (r : Rep K F v d) (h : TyD K d t) : TyX K H v t := by
  cases h with
  | non => cases r; exact .base .non
  | bl b => cases r; exact .base (.bl b)
  | int i => cases r; exact .base (.int i)
  | str x => cases r; exact .base (.str x)
  | lst xs => cases r with | lst s1 _ => exact .base (.lst (s _ _ s1))
  | tup xs => cases r with | tup s1 _ => exact .base (.tup (s _ _ s1))
  | rot xs => cases r with | rot s1 _ => exact sqt_ty (sqt_mono s s1)
  | obj cl i => cases r with | obj s1 _ => exact .base (.ins (s _ _ s1) cl i.ca i.cn i.ct i.cm)
theorem clsD_v {u : Value} (r : Rep K F v d) (h : ClsD d u) : ClsV v u := by
  cases h with
  | ty n => cases r; exact .ty n
  | own C => cases r; exact .own C
abbrev isiS (K : PySem.W.Frag) : RDNs := fun ds Q => ∃ x c t u b, ds = [x, c] ∧ ClsD c u ∧ TyD K x t ∧ PySem.W.kitOne K t u = some b ∧ Q (.bl b)
theorem cn_isi : CallNs K (rIsi K) (isiS K) := fun xs ds F H Q Qd s r ⟨x, c, t, u, b, e, hc, ht, hk, q⟩ k => by
  subst e
  cases r with
  | cons r t =>
    cases t with
    | cons r2 t => cases t; exact ⟨_, _, _, u, b, rfl, clsD_v r2 hc, tyD_x s r ht, hk, k _ _ q rfl⟩
/-- of several classes -/
inductive ClsDs : List D → List Value → Prop where
  | nil : ClsDs [] []
  | cons {d : D} {u : Value} {ds : List D} {us : List Value} (h : ClsD d u) (t : ClsDs ds us) : ClsDs (d :: ds) (u :: us)
theorem clsDs_v : ∀ {ds : List D} {us : List Value} {vs : List V}, RepL K F vs ds → ClsDs ds us → Paired ClsV vs us
  | _, _, _, .nil, .nil => .nil
  | _, _, _, .cons r t, .cons h u => .cons (clsD_v r h) (clsDs_v t u)
/-- list(row), tuple(row) -/
abbrev listN : RDN := fun ds Q => ∃ a xs, ds = [a] ∧ a.its = some xs ∧ Q (.own (.lst xs))
theorem cn_list : CallN K (fun xs H Q => ∃ p ys, xs = [.ref p] ∧ (SqL K H p ys ∨ SqT K H p ys) ∧ ∀ l, H l = none → Q (.ref l) (upd H l (.lst ys))) listN := fun xs ds F H Q Qd s r ⟨a, ys, e1, e2, q⟩ k => by
  subst e1
  cases r with
  | cons r t =>
    cases t
    obtain ⟨p, vs, rfl, h, r2⟩ := r.row e2
    exact ⟨p, vs, rfl, sq_mono s h, fun l n => k _ _ _ _ q (made_list n s r2)⟩
abbrev tupleN : RDN := fun ds Q => ∃ a xs, ds = [a] ∧ (a = .lst xs ∨ a = .ro xs ∨ a = .tup xs) ∧ Q (.d (.tup xs))
theorem cn_tuple : CallN K (fun xs H Q => ∃ p ys, xs = [.ref p] ∧ ((SqL K H p ys ∧ ∀ l, H l = none → Q (.ref l) (upd H l (.tup ys))) ∨ (SqT K H p ys ∧ Q (.ref p) H))) tupleN := fun xs ds F H Q Qd s r ⟨a, ys, e1, e2, q⟩ k => by
  subst e1
  cases r with
  | cons r t =>
    cases t
    rcases e2 with rfl | rfl | rfl
    · cases r with | lst s1 r1 => exact ⟨_, _, rfl, .inl ⟨s.seq (SqL.of s1), fun l n => k _ _ _ _ q (made_tup n s r1)⟩⟩
    · cases r with | ro s1 r1 => exact ⟨_, _, rfl, .inl ⟨s.seq s1, fun l n => k _ _ _ _ q (made_tup n s r1)⟩⟩
    · cases r with | tup s1 r1 => exact ⟨_, _, rfl, .inr ⟨SqT.of (s _ _ s1), k _ _ _ _ q (made_d s (.tup s1 r1))⟩⟩
end
end DL

set_option Elab.async false
set_option linter.all false
set_option maxRecDepth 100000
namespace DL
open PySem PySem.Spec PyProof.Rows L2
section
variable {X : Cx} {c : Fc} {W : WX}
/-! ### displays, unary, chains, truth -/
def tupD (ta : TDA) : TD := fun δ Q E => ta δ (fun as δ1 => ∃ ds, as = ds.map .d ∧ ds.length ≤ sizeLine ∧ Q (.d (.tup ds)) δ1) E
theorem pd_tup {es : List Expr} {ta : TDA} {k : Nat} {pos : Pos} (h : ∀ {t : TA}, PA X es t → PE X (.Tuple es k pos) (tTup t)) (ha : PA X es (LA X.K c W ta)) : PE X (.Tuple es k pos) (LE X.K c W (tupD ta)) :=
  PE_imp (h ha) fun σ H Q ⟨δ, tmp, Qd, Ed, S, t, k, w⟩ => ⟨δ, tmp, _, Ed, S, t, fun vs as δ1 F ow H1 ⟨ds, e, hz, q⟩ S1 ra => by
    subst e
    have r := args_d ra
    exact ⟨by rw [r.len]; exact hz, fun p n => k _ _ _ _ q ((made_tup n S1.fh r).stt S1)⟩, w⟩
def lstD (ta : TDA) : TD := fun δ Q E => ta δ (fun as δ1 => ∃ ds, as = ds.map .d ∧ ds.length ≤ sizeLine ∧ Q (.own (.lst ds)) δ1) E
theorem pd_lst {es : List Expr} {ta : TDA} {pos : Pos} (h : ∀ {t : TA}, PA X es t → PE X (.List es pos) (tLst t)) (ha : PA X es (LA X.K c W ta)) : PE X (.List es pos) (LE X.K c W (lstD ta)) :=
  PE_imp (h ha) fun σ H Q ⟨δ, tmp, Qd, Ed, S, t, k, w⟩ => ⟨δ, tmp, _, Ed, S, t, fun vs as δ1 F ow H1 ⟨ds, e, hz, q⟩ S1 ra => by
    subst e
    have r := args_d ra
    exact ⟨by rw [r.len]; exact hz, fun p n => k _ _ _ _ q ((made_list n S1.fh r).stt S1)⟩, w⟩
def negD (t : TD) : TD := fun δ Q E => t δ (fun x δ1 => ∃ i, x.toD = .int i ∧ Q (.d (.int (-i))) δ1) E
theorem pd_neg {e : Expr} {t : TD} {pos : Pos} (he : PE X e (LE X.K c W t)) : PE X (.UnaryOp .USub e pos) (LE X.K c W (negD t)) :=
  PE_imp (pe_un un_neg he) fun σ H Q ⟨δ, tmp, Qd, Ed, S, t, k, w⟩ => ⟨δ, tmp, _, Ed, S, t, fun v x δ1 H1 ⟨i, e, q⟩ ⟨F, ow, S1⟩ => by
    obtain ⟨F2, S2, _⟩ := S1.top_frz
    rw [e] at S2
    cases S2.top
    exact ⟨i, rfl, k _ _ _ _ q ⟨F2, ow, S2.pop.push (.int _)⟩⟩, w⟩
def chainD (rd rd' : RD2) (ta tb tc : TD) : TD := fun δ Q E => ta δ (fun x δ1 => tb δ1 (fun y δ2 => rd x.toD y.toD fun z => ∃ k, z = .d (.bl k) ∧ if k = true then tc δ2 (fun w δ3 => rd' y.toD w.toD fun z' => Q z' δ3) E else Q (.d (.bl false)) δ2) E) E
theorem pd_chain {a b e : Expr} {op op' : CmpOp} {r r' : R2} {rd rd' : RD2} {ta tb tc : TD} {pos : Pos} (ho : OpR X (compareOp op) r) (hd : Op2 X.K r rd) (ho' : OpR X (compareOp op') r') (hd' : Op2 X.K r' rd') (ha : PE X a (LE X.K c W ta)) (hb : PE X b (LE X.K c W tb)) (hc : PE X e (LE X.K c W tc)) (hm : lastMarks [op, op'] [b, e] = false := by rfl) :
    PE X (.Compare a [op, op'] [b, e] pos) (LE X.K c W (chainD rd rd' ta tb tc)) := PE_imp (pe_chain ho ho' ha hb hc (hm := hm)) fun σ H Q ⟨δ, tmp, Qd, Ed, S, t, k, w⟩ => by
  refine ⟨δ, tmp, _, Ed, S, t, fun x a δ1 H1 t1 S1 => ?_, w⟩
  refine ⟨δ1, _, _, Ed, S1, t1, fun y b δ2 H2 t2 ⟨F, ow, S2⟩ => ?_, w.push⟩
  obtain ⟨F', S3, _⟩ := S2.top_frz2
  refine hd x y _ _ F' H2 _ _ S3.fh S3.pop.top S3.top t2 fun v dv F2 H3 ⟨kk, e, q⟩ m => ?_
  subst e
  cases m with
  | d e r =>
    cases r
    refine ⟨kk, rfl, ?_⟩
    have S4 := S3.ext e
    cases kk with
    | false => exact k _ _ _ _ q ⟨F2, ow, S4.pop.pop.push (.bl _)⟩
    | true =>
      have S5 : SttF X.K c F2 ow δ2 ((y, .d b.toD) :: tmp) σ H3 := S4.pop.pop.push S4.top
      refine ⟨δ2, _, _, Ed, ⟨F2, ow, S5⟩, q, fun u z δ3 H4 q2 ⟨F5, ow5, S6⟩ => ?_, w.push⟩
      obtain ⟨F7, S7, s7⟩ := S6.top_frz
      exact hd' y u _ _ F7 H4 Q _ S7.fh S7.pop.top S7.top q2 fun v dv F8 H5 q3 m => k _ _ _ _ q3 (m.stt S7.pop.pop)
/-- a test whose value is a bool -/
def tvD (t : TD) : TDT := fun δ Q E => boolE t Q E δ
theorem ptd_val {e : Expr} {t : TD} (he : PE X e (LE X.K c W t)) (h : ∀ {t : TE}, PE X e t → PT X e (tB t)) : PT X e (LT X.K c W (tvD t)) :=
  PT_imp (h he) fun σ H Q ⟨δ, tmp, Qd, Ed, S, q, k, w⟩ => ⟨δ, tmp, _, _, S, q, fun v x δ' H' ⟨b, e, q'⟩ ⟨F, ow, S'⟩ => by
    subst e
    cases S'.top
    exact ⟨b, rfl, k _ _ _ q' ⟨F, ow, S'.pop⟩⟩, w⟩
/-! ### what is walked -/
/-- from turn i on the iterator J hands back the items: whatever grows, while src stands for v -/
structure Serve (K : PySem.W.Frag) (J : It) (v : V) (src : D) (items : List D) : Prop where
  go : ∀ (i : Nat) (F H : Hp), Same F H → Rep K F v src → i < items.length → J.go i H
  stop : ∀ (i : Nat) (F H : Hp), Same F H → Rep K F v src → items.length ≤ i → J.stop i H
  yld : ∀ (i : Nat) (F H : Hp) (x : V) (H' : Hp), Same F H → Rep K F v src → J.yld i H x H' → ∀ d, items[i]? = some d → ∃ F', Ext F H F' H' ∧ Rep K F' x d
abbrev TDI := DSt → (List D → DSt → Prop) → XD → Prop
def LI (K : PySem.W.Frag) (c : Fc) (W : WX) (t : TDI) : TI := fun σ H R => ∃ δ tmp Qd Ed, Stt K c δ tmp σ H ∧ t δ Qd Ed ∧ (∀ J v src items δ' H', Qd items δ' → Serve K J v src items → Stt K c δ' ((v, .d src) :: tmp) σ H' → R J H') ∧ WD K c W tmp Ed
theorem PI_imp {tg e : Expr} {t t' : TI} (h : PI X tg e t) (f : ∀ σ H R, t' σ H R → t σ H R) : PI X tg e t' := ⟨fun pins s σ H R I q => h.run pins s σ H R I (f _ _ _ q)⟩
theorem serve_list {K : PySem.W.Frag} {p : Addr} {src : D} {items : List D} (e : src = .lst items ∨ src = .ro items) : Serve K (Itl K p) (.ref p) src items := by
  have sq : ∀ {F H : Hp}, Same F H → Rep K F (.ref p) src → ∃ vs, SqL K H p vs ∧ RepL K F vs items := fun {F H} s r => by
    rcases e with rfl | rfl
    · cases r with | lst s1 r1 => exact ⟨_, s.seq (SqL.of s1), r1⟩
    · cases r with | ro s1 r1 => exact ⟨_, s.seq s1, r1⟩
  refine ⟨fun i F H s r hi => ?_, fun i F H s r hi => ?_, fun i F H x H' s r y d hd => ?_⟩
  · obtain ⟨vs, h, rl⟩ := sq s r
    obtain ⟨v, e, _⟩ := rl.get (List.getElem?_eq_getElem hi)
    exact ⟨vs, v, h, e⟩
  · obtain ⟨vs, h, rl⟩ := sq s r
    exact ⟨vs, h, by rw [rl.len]; exact hi⟩
  · obtain ⟨vs, h, rl⟩ := sq s r
    obtain ⟨rfl, y⟩ := y
    obtain ⟨v, e, rv⟩ := rl.get hd
    rw [y vs h] at e
    cases e
    exact ⟨F, Ext.refl s, rv⟩
theorem serve_tup {K : PySem.W.Frag} {p : Addr} {items : List D} : Serve K (Itt K p) (.ref p) (.tup items) items := by
  have sq : ∀ {F H : Hp}, Same F H → Rep K F (.ref p) (.tup items) → ∃ vs, SqT K H p vs ∧ RepL K F vs items := fun {F H} s r => by
    cases r with | tup s1 r1 => exact ⟨_, SqT.of (s _ _ s1), r1⟩
  refine ⟨fun i F H s r hi => ?_, fun i F H s r hi => ?_, fun i F H x H' s r y d hd => ?_⟩
  · obtain ⟨vs, h, rl⟩ := sq s r
    obtain ⟨v, e, _⟩ := rl.get (List.getElem?_eq_getElem hi)
    exact ⟨vs, v, h, e⟩
  · obtain ⟨vs, h, rl⟩ := sq s r
    exact ⟨vs, h, by rw [rl.len]; exact hi⟩
  · obtain ⟨vs, h, rl⟩ := sq s r
    obtain ⟨rfl, y⟩ := y
    obtain ⟨v, e, rv⟩ := rl.get hd
    rw [y vs h] at e
    cases e
    exact ⟨F, Ext.refl s, rv⟩
def listI (t : TD) : TDI := fun δ Q E => t δ (fun x δ1 => ∃ xs, (x.toD = .lst xs ∨ x.toD = .ro xs) ∧ Q xs δ1) E
def tupI (t : TD) : TDI := fun δ Q E => t δ (fun x δ1 => ∃ xs, x.toD = .tup xs ∧ Q xs δ1) E
def strI (t : TD) : TDI := fun δ Q E => t δ (fun x δ1 => ∃ z, x.toD = .str z ∧ Q (z.cps.toList.map fun ch => .str ⟨#[ch]⟩) δ1) E
theorem pid_list {tg e : Expr} {t : TD} (he : PE X e (LE X.K c W t)) : PI X tg e (LI X.K c W (listI t)) :=
  PI_imp (pi_list he) fun σ H R ⟨δ, tmp, Qd, Ed, S, q, k, w⟩ => ⟨δ, tmp, _, _, S, q, fun v x δ' H' ⟨xs, e, q'⟩ ⟨F, ow, S'⟩ => by
    obtain ⟨F2, S2, _⟩ := S'.top_frz
    obtain ⟨p, vs, rfl, h, r⟩ := S2.top.row (xs := xs) (by rcases e with e | e <;> rw [e] <;> rfl)
    have h' : ∃ xs, SqL X.K H' p xs := by
      have r0 := S2.top
      rcases e with e | e
      · rw [e] at r0; cases r0 with | lst s1 _ => exact ⟨_, S2.fh.seq (SqL.of s1)⟩
      · rw [e] at r0; cases r0 with | ro s1 _ => exact ⟨_, S2.fh.seq s1⟩
    exact ⟨p, rfl, h', k _ _ _ xs _ _ q' (serve_list e) ⟨F2, ow, S2⟩⟩, w⟩
theorem pid_tup {tg e : Expr} {t : TD} (he : PE X e (LE X.K c W t)) : PI X tg e (LI X.K c W (tupI t)) :=
  PI_imp (pi_tup he) fun σ H R ⟨δ, tmp, Qd, Ed, S, q, k, w⟩ => ⟨δ, tmp, _, _, S, q, fun v x δ' H' ⟨xs, e, q'⟩ ⟨F, ow, S'⟩ => by
    obtain ⟨F2, S2, _⟩ := S'.top_frz
    rw [e] at S2
    have r0 := S2.top
    cases r0 with
    | tup s1 _ => exact ⟨_, rfl, ⟨_, SqT.of (S2.fh _ _ s1)⟩, k _ _ _ xs _ _ q' serve_tup ⟨F2, ow, S2⟩⟩, w⟩
theorem pid_str {tg e : Expr} {t : TD} (he : PE X e (LE X.K c W t)) : PI X tg e (LI X.K c W (strI t)) :=
  PI_imp (pi_str he) fun σ H R ⟨δ, tmp, Qd, Ed, S, q, k, w⟩ => ⟨δ, tmp, _, _, S, q, fun v x δ' H' ⟨z, e, q'⟩ ⟨F, ow, S'⟩ => by
    obtain ⟨F2, S2, _⟩ := S'.top_frz
    rw [e] at S2
    have r0 := S2.top
    cases r0 with
    | str k1 =>
      refine ⟨z, rfl, k _ _ _ _ _ _ q' ⟨fun i F H s r hi => ?_, fun i F H s r hi => ?_, fun i F H x H' s r y d hd => ?_⟩ ⟨F2, ow, S2⟩⟩
      · show i < z.cps.size
        simpa using hi
      · show z.cps.size ≤ i
        simpa using hi
      · obtain ⟨rfl, ch, hc, rfl⟩ := y
        have hc' : z.cps.toList[i]? = some ch := by simpa using hc
        rw [List.getElem?_map, hc'] at hd
        cases hd
        exact ⟨F, Ext.refl s, .str (strOk_one k1 (List.mem_of_getElem? hc'))⟩, w⟩
def upto (lo : Int) (n : Nat) : List D := (List.range n).map fun k => .int (lo + (k : Nat))
theorem serve_range {K : PySem.W.Frag} {lo : Int} {n : Nat} {v : V} {src : D} : Serve K (Itr lo n) v src (upto lo n) := by
  have hl : (upto lo n).length = n := by simp [upto]
  refine ⟨fun i F H s r hi => ?_, fun i F H s r hi => ?_, fun i F H x H' s r y d hd => ?_⟩
  · rw [hl] at hi; exact hi
  · rw [hl] at hi; exact hi
  · obtain ⟨rfl, rfl⟩ := y
    unfold upto at hd
    rw [List.getElem?_map] at hd
    cases q : (List.range n)[i]? with
    | none => rw [q] at hd; cases hd
    | some j =>
      rw [q] at hd
      cases hd
      have : j = i := by
        have := (List.getElem?_eq_some_iff.mp q).2
        simpa using this.symm
      subst this
      exact ⟨F, Ext.refl s, .int _⟩
def range1I (ta : TDA) : TDI := fun δ Q E => ta δ (fun as δ1 => ∃ j, as = [.d (.int j)] ∧ -(2 ^ 62) ≤ j ∧ j < 2 ^ 62 ∧ Q (upto 0 j.toNat) δ1) E
def range2I (ta : TDA) : TDI := fun δ Q E => ta δ (fun as δ1 => ∃ i j, as = [.d (.int i), .d (.int j)] ∧ (-(2 ^ 62) ≤ i ∧ i < 2 ^ 62 ∧ -(2 ^ 62) ≤ j ∧ j < 2 ^ 62) ∧ Q (upto i (j - i).toNat) δ1) E
theorem pid_range1 {tg a : Expr} {ta : TDA} {p pos : Pos} (hg : Gl X "range") (hm : X.mg "range" = none) (ha : PA X [a] (LA X.K c W ta)) (hs : starEach [a] X.env = [(false, eval a X.env)] := by rfl) : PI X tg (.Call (.Name "range" p) [a] [] pos) (LI X.K c W (range1I ta)) :=
  PI_imp (pi_range1 hg hm ha hs) fun σ H R ⟨δ, tmp, Qd, Ed, S, q, k, w⟩ => ⟨δ, tmp, _, _, S, q, fun vs as δ' F ow H' ⟨j, e, h1, h2, q'⟩ S' ra => by
    subst e
    cases ra with
    | d h t => cases t; cases h; exact ⟨j, rfl, h1, h2, k _ .non .non _ _ _ q' serve_range ⟨F, ow, S'.push .non⟩⟩, w⟩
theorem pid_range2 {tg a b : Expr} {ta : TDA} {p pos : Pos} (hg : Gl X "range") (hm : X.mg "range" = none) (ha : PA X [a, b] (LA X.K c W ta)) (hs : starEach [a, b] X.env = [(false, eval a X.env), (false, eval b X.env)] := by rfl) (hs2 : starEach [b] X.env = [(false, eval b X.env)] := by rfl) : PI X tg (.Call (.Name "range" p) [a, b] [] pos) (LI X.K c W (range2I ta)) :=
  PI_imp (pi_range2 hg hm ha hs hs2) fun σ H R ⟨δ, tmp, Qd, Ed, S, q, k, w⟩ => ⟨δ, tmp, _, _, S, q, fun vs as δ' F ow H' ⟨i, j, e, h1, q'⟩ S' ra => by
    subst e
    cases ra with
    | d h t => cases t with
      | d h2 t => cases t; cases h; cases h2; exact ⟨i, j, rfl, h1, k _ .non .non _ _ _ q' serve_range ⟨F, ow, S'.push .non⟩⟩, w⟩
/-! ### targets -/
abbrev TDG := D → DSt → (DSt → Prop) → Prop
/-- a target, of frozen things -/
def LG (K : PySem.W.Frag) (c : Fc) (vs : List Nat) (g : TDG) : TG := fun v σ H Q => ∃ δ tmp x Qd, Stt K c δ ((v, .d x) :: tmp) σ H ∧ g x δ Qd ∧ ∀ δ' σ' H', Qd δ' → Stt K c δ' tmp σ' H' → wipe σ' vs = wipe σ vs → Q σ' H'
theorem wipe_set {σ : L2.St} {i : Nat} {x : Option V} : ∀ {vs : List Nat}, i ∈ vs → wipe (σ.set i x) vs = wipe σ vs
  | v :: vs, h => by
    unfold wipe
    by_cases e : i ∈ vs
    · rw [wipe_set e]
    · have : i = v := (List.mem_cons.mp h).elim id fun z => absurd z e
      subst this
      have aux : ∀ (vs : List Nat), (wipe (σ.set i x) vs).set i none = (wipe σ vs).set i none := fun vs => by
        induction vs with
        | nil => unfold wipe; rw [List.set_set]
        | cons a r ih =>
          unfold wipe
          by_cases q : a = i
          · subst q; rw [List.set_set, List.set_set]; exact ih
          · rw [List.set_comm _ _ q, List.set_comm _ _ q, ih]
      exact aux vs
theorem PG_imp {e : Expr} {t t' : TG} (h : PG X e t) (f : ∀ v σ H Q, t' v σ H Q → t v σ H Q) : PG X e t' := ⟨fun pins s σ H x u Q I r q => h.run pins s σ H x u Q I r (f _ _ _ _ q)⟩
def nameG (i : Nat) : TDG := fun x δ Q => Q (δ.set i (some (.d x)))
theorem pgd_name {i : Nat} {vs : List Nat} {e : Expr} (h : PG X e (gName i)) (ni : i ∉ c.sl) (iv : i ∈ vs) : PG X e (LG X.K c vs (nameG i)) :=
  PG_imp h fun v σ H Q ⟨δ, tmp, x, Qd, ⟨F, ow, S⟩, q, k⟩ => k _ _ _ q (S.set' ni) (wipe_set iv)
/-- the items of a tuple to names -/
def namesG : List Nat → List D → DSt → (DSt → Prop) → Prop
  | [], [], δ, Q => Q δ
  | i :: is, x :: xs, δ, Q => namesG is xs (δ.set i (some (.d x))) Q
  | _, _, _, _ => False
def tupG (is : List Nat) : TDG := fun x δ Q => ∃ xs, x = .tup xs ∧ namesG is xs δ Q
def gNames : List Nat → TGs
  | [] => gNil
  | i :: is => gCons (gName i) (gNames is)
theorem names_run {K : PySem.W.Frag} {c : Fc} {Q : L2.St → Hp → Prop} {tmp : List (V × DV)} {ws : List Nat} {w0 : L2.St} : ∀ {is : List Nat} {xs : List D} {vs : List V} {δ : DSt} {σ : L2.St} {F H : Hp} {ow : Addr → Option Hold} {Qd : DSt → Prop}, (∀ i ∈ is, i ∉ c.sl ∧ i ∈ ws) → wipe σ ws = w0 → SttF K c F ow δ tmp σ H → RepL K F vs xs → namesG is xs δ Qd → (∀ δ' σ' H', Qd δ' → Stt K c δ' tmp σ' H' → wipe σ' ws = w0 → Q σ' H') → gNames is vs σ H Q
  | [], [], _, δ, σ, F, H, ow, Qd, _, hw, S, .nil, q, k => ⟨rfl, k _ _ _ q ⟨F, ow, S⟩ hw⟩
  | i :: is, x :: xs, _, δ, σ, F, H, ow, Qd, hn, hw, S, .cons r t, q, k => by
    refine ⟨_, _, rfl, ?_⟩
    show gNames is _ _ H Q
    rcases Nat.lt_or_ge i δ.length with hi | hi
    · obtain ⟨ow', S'⟩ := (S.push r).set hi (hn i List.mem_cons_self).1
      exact names_run (fun j hj => hn j (List.mem_cons_of_mem _ hj)) ((wipe_set (hn i List.mem_cons_self).2).trans hw) S' t q k
    · have q' : namesG is xs (δ.set i (some (.d x))) Qd := q
      rw [List.set_eq_of_length_le hi] at q'
      rw [List.set_eq_of_length_le (by rw [S.len]; exact hi)]
      exact names_run (fun j hj => hn j (List.mem_cons_of_mem _ hj)) hw S t q' k
  | [], _ :: _, _, _, _, _, _, _, _, _, _, _, _, q, _ => q.elim
  | _ :: _, [], _, _, _, _, _, _, _, _, _, _, _, q, _ => q.elim
theorem names_len {Q : DSt → Prop} : ∀ {is : List Nat} {xs : List D} {δ : DSt}, namesG is xs δ Q → xs.length = is.length
  | [], [], _, _ => rfl
  | _ :: is, _ :: xs, _, q => congrArg (· + 1) (names_len (is := is) (xs := xs) q)
  | [], _ :: _, _, q => q.elim
  | _ :: _, [], _, q => q.elim
theorem pgd_tup {is vs : List Nat} {e : Expr} {n : Nat} (h : PG X e (gTup X.K n (gNames is))) (hn : n = is.length) (ni : ∀ i ∈ is, i ∉ c.sl ∧ i ∈ vs) : PG X e (LG X.K c vs (tupG is)) :=
  PG_imp h fun v σ H Q ⟨δ, tmp, x, Qd, ⟨F, ow, S⟩, ⟨xs, e, q⟩, k⟩ => by
    subst e
    have r0 := S.top
    cases r0 with
    | tup s1 r1 =>
      refine ⟨_, _, rfl, SqT.of (S.fh _ _ s1), ?_, names_run ni rfl S.pop r1 q k⟩
      rw [r1.len, hn]
      exact names_len q
/-! ### for -/
def forD (g : TDG) (tb : TDS) (D : EndsD) : List DL.D → DSt → Prop
  | [], δ => D.nx δ
  | x :: xs, δ => g x δ fun δ1 => tb { D with nx := forD g tb D xs, ct := forD g tb D xs, bk := D.nx } δ1
def forS (ti : TDI) (g : TDG) (tb : TDS) : TDS := fun D δ => ti δ (fun xs δ1 => forD g tb D xs δ1) D.ex
theorem psd_for {tg iter : Expr} {body : List Stmt} {ti : TDI} {g : TDG} {tb : TDS} {pos : Pos} (hp : PassesOwn (model X.prog X.w) X.A X.env X.xe) (hc : X.calm = true) (hi : PI X tg iter (LI X.K c W ti)) {vs : List Nat} (hg : PG X tg (LG X.K c vs g)) (hb : PSs X body (LS X.K c W tb))
    (hs : ∀ x, foldedSetIterable iter X.env x = pure x := by intro _; rfl) : PS X (.For tg iter body [] pos) (LS X.K c W (forS ti g tb)) :=
  PS_imp (ps_for hp hc hi hg hb hs) fun D σ H ⟨δ, tmp, Dd, S, q, k, kr, kb, kc, w⟩ => by
    refine ⟨δ, tmp, _, _, S, q, fun J v src items δ1 H1 q1 sv S1 => ?_, w⟩
    refine ⟨fun i m σ H => m = items.length - i ∧ i ≤ items.length ∧ ∃ δ, Stt X.K c δ ((v, .d src) :: tmp) σ H ∧ forD g tb Dd (items.drop i) δ, ⟨items.length, by simp, Nat.zero_le _, δ1, S1, q1⟩, ?_⟩
    rintro i m σ2 H2 ⟨rfl, hi, δ2, ⟨F2, ow2, S2⟩, q2⟩
    by_cases hlt : i < items.length
    · refine .inr ⟨sv.go i F2 H2 S2.fh S2.top hlt, fun σ H => i + 1 ≤ items.length ∧ ∃ δ, Stt X.K c δ ((v, .d src) :: tmp) σ H ∧ forD g tb Dd (items.drop (i + 1)) δ, fun σ' H' h => ⟨items.length - (i + 1), by omega, rfl, h⟩, fun x H' y => ?_⟩
      obtain ⟨F3, e3, r3⟩ := sv.yld i F2 H2 x H' S2.fh S2.top y _ (List.getElem?_eq_getElem hlt)
      rw [List.drop_eq_getElem_cons hlt] at q2
      refine ⟨δ2, (v, .d src) :: tmp, _, _, ⟨F3, ow2, (S2.ext e3).push r3⟩, q2, fun δ4 σ4 H4 q4 S4 _ => ⟨δ4, (v, .d src) :: tmp, _, S4, q4, fun δ5 σ5 H5 q5 S5 => ⟨hlt, δ5, S5, q5⟩, fun u z δ5 σ5 H5 q5 ⟨F5, ow5, S5⟩ => ?_, fun δ5 σ5 H5 q5 ⟨F5, ow5, S5⟩ => k δ5 σ5 H5 q5 ⟨F5, ow5, S5.pop⟩, fun δ5 σ5 H5 q5 S5 => ⟨hlt, δ5, S5, q5⟩, w.push⟩⟩
      -- the answer is on top of what is walked
      obtain ⟨F6, S6⟩ : ∃ F6 ow6, SttF X.K c F6 ow6 δ5 ((u, z) :: tmp) σ5 H5 := by
        have tm := S5.tm
        cases z with
        | d y => exact ⟨F5, ow5, { S5.pop.pop with tm := ⟨tm.1, tm.2.2⟩ }⟩
        | own o =>
          obtain ⟨p, rfl, e, b, n, r⟩ := tm.1
          have S7 := S5.pop.pop.reown (ow' := owSet ow5 p (.t tmp.length)) (fun k a z _ => owSet_ne fun y => by subst y; rw [e] at z; cases z) (fun k a hk z _ => owSet_ne fun y => by
            subst y; rw [e] at z; cases z
            have : tmp.length + 1 < tmp.length := hk
            omega)
          exact ⟨F5, _, { S7 with tm := ⟨⟨p, rfl, owSet_at, b, .inl n.t, r⟩, S7.tm⟩ }⟩
      exact kr u z δ5 σ5 H5 q5 ⟨F6, S6⟩
    · have e : i = items.length := by omega
      subst e
      rw [List.drop_length] at q2
      exact .inl ⟨sv.stop _ F2 H2 S2.fh S2.top (Nat.le_refl _), k _ _ _ q2 ⟨F2, ow2, S2.pop⟩⟩
/-! ### while: the invariant is the reader's -/
def whileD (tc : TDT) (tb : TDS) : TDS := fun D δ => ∃ I : Nat → DSt → Prop, (∃ m, I m δ) ∧ ∀ m δ, I m δ → tc δ (fun b δ1 => if b = true then tb { D with nx := fun δ2 => ∃ m', m' < m ∧ I m' δ2, ct := fun δ2 => ∃ m', m' < m ∧ I m' δ2, bk := D.nx } δ1 else D.nx δ1) D.ex
theorem psd_while {e : Expr} {body : List Stmt} {tc : TDT} {tb : TDS} {pos : Pos} (hp : PassesOwn (model X.prog X.w) X.A X.env X.xe) (hc : PT X e (LT X.K c W tc)) (hb : PSs X body (LS X.K c W tb)) : PS X (.While e body [] pos) (LS X.K c W (whileD tc tb)) :=
  PS_imp (ps_while hp hc hb) fun D σ H ⟨δ, tmp, Dd, S, ⟨I, ⟨m0, i0⟩, turn⟩, k, kr, kb, kc, w⟩ => by
    refine ⟨fun m σ H => ∃ δ, Stt X.K c δ tmp σ H ∧ I m δ, ⟨m0, δ, S, i0⟩, ?_⟩
    rintro m σ2 H2 ⟨δ2, S2, i2⟩
    refine ⟨δ2, tmp, _, _, S2, turn m δ2 i2, fun b δ3 H3 q3 S3 => ?_, w⟩
    cases b with
    | false => exact k _ _ _ q3 S3
    | true => exact ⟨fun σ H => ∃ δ m', m' < m ∧ Stt X.K c δ tmp σ H ∧ I m' δ, fun σ' H' ⟨δ, m', h1, h2, h3⟩ => ⟨m', h1, δ, h2, h3⟩, δ3, tmp, _, S3, q3, fun δ4 σ4 H4 ⟨m', h1, h2⟩ S4 => ⟨δ4, m', h1, S4, h2⟩, kr, fun δ4 σ4 H4 q4 S4 => k _ _ _ q4 S4, fun δ4 σ4 H4 ⟨m', h1, h2⟩ S4 => ⟨δ4, m', h1, S4, h2⟩, w⟩
/-! ### list comprehensions -/
def wipeD (δ : DSt) : List Nat → DSt
  | [] => δ
  | v :: vs => (wipeD δ vs).set v none
abbrev W0 : WX := fun _ _ _ _ => False
abbrev noX : XD := fun _ _ => False
def lcD (g : TDG) (tt : TDT) (te : TD) (vs : List Nat) : List DL.D → List DL.D → DSt → (List DL.D → DSt → Prop) → Prop
  | [], acc, δ, Q => Q acc δ
  | x :: xs, acc, δ, Q => g x δ fun δ1 => tt δ1 (fun b δ2 => if b = true then te δ2 (fun y δ3 => acc.length < sizeLine ∧ lcD g tt te vs xs (acc ++ [y.toD]) (wipeD δ3 vs) Q) noX else lcD g tt te vs xs acc (wipeD δ2 vs) Q) noX
def compD (ti : TDI) (g : TDG) (tt : TDT) (te : TD) (vs : List Nat) : TD := fun δ Q E => ti δ (fun xs δ1 => lcD g tt te vs xs [] (wipeD δ1 vs) fun acc δ2 => Q (.own (.lst acc)) δ2) E
def yesD : TDT := fun δ Q _ => Q true δ
end
section
variable {K : PySem.W.Frag} {c : Fc} {F F' H H' : Hp} {ow : Addr → Option Hold} {δ : DSt} {tmp : List (V × DV)} {σ : L2.St} {i : Nat} {p : Addr}
theorem SttF.del (S : SttF K c F ow δ tmp σ H) (ni : i ∉ c.sl) : SttF K c F ow (δ.set i none) tmp (σ.set i none) H := by
  refine { S with len := by rw [List.length_set, List.length_set]; exact S.len, sl := fun j z q => ?_, ps := fun k j p q1 q2 => ?_ }
  · by_cases e : i = j
    · subst e
      rcases Nat.lt_or_ge i δ.length with h | h
      · rw [List.getElem?_set_self h] at q; cases q
      · rw [List.getElem?_eq_none (by rw [List.length_set]; exact h)] at q; cases q
    · rw [List.getElem?_set_ne e] at q ⊢
      exact S.sl j z q
  · rw [List.getElem?_set_ne (fun z => ni (by rw [z]; exact List.mem_of_getElem? q1))]
    exact S.ps k j p q1 q2
theorem SttF.wipe (S : SttF K c F ow δ tmp σ H) : ∀ {vs : List Nat}, (∀ i ∈ vs, i ∉ c.sl) → SttF K c F ow (wipeD δ vs) tmp (L2.wipe σ vs) H
  | [], _ => S
  | v :: vs, h => (S.wipe fun i hi => h i (List.mem_cons_of_mem _ hi)).del (h v List.mem_cons_self)
theorem wipeD_get : ∀ {vs : List Nat} {i : Nat} {x : DV}, (wipeD δ vs)[i]? = some (some x) → i ∉ vs
  | [], _, _, _ => fun h => nomatch h
  | v :: vs, i, x, e => fun h => by
    have e : ((wipeD δ vs).set v none)[i]? = some (some x) := e
    by_cases q : v = i
    · subst q
      rcases Nat.lt_or_ge v (wipeD δ vs).length with z | z
      · rw [List.getElem?_set_self z] at e; cases e
      · rw [List.getElem?_eq_none (by rw [List.length_set]; exact z)] at e; cases e
    · rw [List.getElem?_set_ne q] at e
      exact wipeD_get e ((List.mem_cons.mp h).elim (fun z => absurd z.symm q) id)
/-- the slots that are forgotten may be anything -/
theorem SttF.unwipe {vs : List Nat} (S : SttF K c F ow (wipeD δ vs) tmp (L2.wipe σ vs) H) (h : ∀ i ∈ vs, i ∉ c.sl) : SttF K c F ow (wipeD δ vs) tmp σ H := by
  refine { S with len := by rw [← S.len, wipe_length], sl := fun j z q => ?_, ps := fun k j p q1 q2 => ?_ }
  · obtain ⟨v, e, r⟩ := S.sl j z q
    rw [wipe_out (wipeD_get q)] at e
    exact ⟨v, e, r⟩
  · have := S.ps k j p q1 q2
    rwa [wipe_out fun z => h j z (List.mem_of_getElem? q1)] at this
/-- the own object on top of the stack is changed -/
theorem SttF.writeT {o o' : OC} {ob : HO} (S : SttF K c F ow δ ((.ref p, .own o) :: tmp) σ H) (r' : OwnRep K F (upd H p ob) p o') : SttF K c F ow δ ((.ref p, .own o') :: tmp) σ (upd H p ob) := by
  obtain ⟨p', e0, e, b, w, r⟩ := S.tm.1
  cases e0
  have keep : ∀ {h : Hold} {v : V} {x : DV}, RepV K c F H ow h v x → h ≠ .t tmp.length → RepV K c F (upd H p ob) ow h v x := fun {h v x} y ne => by
    cases x with
    | d z => exact y
    | own z =>
      obtain ⟨a, rfl, ea, ba, wa, ra⟩ := y
      exact ⟨a, rfl, ea, ba, wa, ra.mono (Same.refl F) (upd_ne fun t => by subst t; rw [e] at ea; cases ea; exact ne rfl)⟩
  have keepT : ∀ {l : List (V × DV)}, l.length ≤ tmp.length → RepTmp K c F H ow l → RepTmp K c F (upd H p ob) ow l := fun {l} => by
    induction l with
    | nil => exact fun _ _ => True.intro
    | cons a r ih =>
      obtain ⟨v, x⟩ := a
      exact fun hl y => ⟨keep y.1 (fun z => by have := Hold.t.inj z; have : r.length + 1 ≤ tmp.length := hl; omega), ih (Nat.le_of_succ_le hl) y.2⟩
  refine ⟨fun a u z => ?_, S.f0, S.fn, fun a u z n => ?_, fun a z => ?_, S.len, fun j z qz => ?_, ⟨⟨p, rfl, e, b, w, r'⟩, keepT (Nat.le_refl _) S.tm.2⟩, S.ps⟩
  · rw [upd_ne (ne_of_none z b)]
    exact S.fh _ _ z
  · rw [upd_ne (fun t => by subst t; rw [w.t] at z; cases z)]
    exact S.fr a u z n
  · by_cases t : a = p
    · subst t; rw [upd_same] at z; cases z
    · rw [upd_ne t] at z; exact S.up a z
  · obtain ⟨v, e2, r2⟩ := S.sl j z qz
    exact ⟨v, e2, keep r2 fun t => nomatch t⟩
end
section
variable {X : Cx} {c : Fc} {W : WX}
theorem lift_comp {K : PySem.W.Frag} {ti : TDI} {g : TDG} {tt : TDT} {te : TD} {vs : List Nat} (hv : ∀ i ∈ vs, i ∉ c.sl) : ∀ σ H Q, LE K c W (compD ti g tt te vs) σ H Q → tLc (LI K c W ti) (LG K c vs g) (LT K c W0 tt) (LE K c W0 te) vs σ H Q := fun σ H Q ⟨δ, tmp, Qd, Ed, S, q, k, w⟩ => by
  refine ⟨δ, tmp, _, _, S, q, fun J v src items δ1 H1 q1 sv ⟨F1, ow1, S1⟩ => ?_, w⟩
  intro D nD
  have S2 := (S1.wipe hv).pushNew (o := .lst []) nD ⟨[], upd_same, .nil⟩
  refine ⟨fun i m H => m = items.length - i ∧ i ≤ items.length ∧ ∃ δ acc, Stt K c (wipeD δ vs) ((.ref D, .own (.lst acc)) :: (v, .d src) :: tmp) (wipe σ vs) H ∧ lcD g tt te vs (items.drop i) acc (wipeD δ vs) fun acc δ2 => Qd (.own (.lst acc)) δ2,
    ⟨items.length, by simp, Nat.zero_le _, δ1, [], ⟨_, _, S2⟩, q1⟩, ?_⟩
  rintro i m H2 ⟨rfl, hi, δ2, acc, ⟨F2, ow2, S3⟩, q2⟩
  have src2 : Rep K F2 v src := S3.tm.2.1
  by_cases hlt : i < items.length
  · refine .inr ⟨sv.go i F2 H2 S3.fh src2 hlt, fun H => i + 1 ≤ items.length ∧ ∃ δ acc, Stt K c (wipeD δ vs) ((.ref D, .own (.lst acc)) :: (v, .d src) :: tmp) (wipe σ vs) H ∧ lcD g tt te vs (items.drop (i + 1)) acc (wipeD δ vs) fun acc δ2 => Qd (.own (.lst acc)) δ2,
      fun H' h => ⟨items.length - (i + 1), by omega, rfl, h⟩, fun x H' y => ?_⟩
    obtain ⟨F3, e3, r3⟩ := sv.yld i F2 H2 x H' S3.fh src2 y _ (List.getElem?_eq_getElem hlt)
    rw [List.drop_eq_getElem_cons hlt] at q2
    refine ⟨wipeD δ2 vs, (.ref D, .own (.lst acc)) :: (v, .d src) :: tmp, _, _, ⟨F3, ow2, (S3.ext e3).push r3⟩, q2, fun δ4 σ4 H4 q4 S4 hw => ?_⟩
    have hw' : wipe σ4 vs = wipe σ vs := by
      rw [hw]
      have idem : ∀ (l : List Nat), (∀ i ∈ l, i ∈ vs) → wipe (wipe σ l) vs = wipe σ vs := fun l => by
        induction l with
        | nil => exact fun _ => rfl
        | cons a r ih =>
          intro h
          show wipe ((wipe σ r).set a none) vs = _
          rw [wipe_set (h a List.mem_cons_self)]
          exact ih fun i hi => h i (List.mem_cons_of_mem _ hi)
      exact idem vs fun _ h => h
    refine ⟨hw', δ4, _, _, noX, S4, q4, fun b δ5 H5 q5 ⟨F5, ow5, S5⟩ => ?_, fun _ _ _ _ _ _ _ _ z => z.elim⟩
    cases b with
    | false =>
      have S6 := S5.wipe hv
      rw [hw'] at S6
      exact ⟨hlt, δ5, acc, ⟨_, _, S6⟩, q5⟩
    | true =>
      refine ⟨δ5, _, _, noX, ⟨F5, ow5, S5⟩, q5, fun u z δ6 H6 ⟨hz, q6⟩ ⟨F6, ow6, S6⟩ => ?_, fun _ _ _ _ _ _ _ _ z => z.elim⟩
      obtain ⟨F7, S7, s7⟩ := S6.top_frz
      obtain ⟨p', e0, _, _, _, ws, ep, rw'⟩ := S7.tm.2.1
      cases e0
      have S8 := S7.pop.writeT (o' := .lst (acc ++ [z.toD])) (ob := .lst (ws ++ [u])) ⟨_, upd_same, rw'.app (.cons S7.top .nil)⟩
      have S9 := S8.wipe hv
      rw [hw'] at S9
      exact ⟨ws, ep, by rw [rw'.len]; exact hz, hlt, δ6, _, ⟨_, _, S9⟩, q6⟩
  · have e : i = items.length := by omega
    subst e
    rw [List.drop_length] at q2
    refine .inl ⟨sv.stop _ F2 H2 S3.fh src2 (Nat.le_refl _), k _ _ _ _ q2 ?_⟩
    have S4 := S3.unwipe hv
    -- the list is moved down on the stack
    obtain ⟨p', e0, e, b, n, r⟩ := S4.tm.1
    cases e0
    have S5 := S4.pop.pop.reown (ow' := owSet ow2 D (.t tmp.length)) (fun k a z _ => owSet_ne fun y => by subst y; rw [e] at z; cases z) (fun k a hk z _ => owSet_ne fun y => by
      subst y; rw [e] at z; cases z
      have : tmp.length + 1 < tmp.length := hk
      omega)
    exact ⟨F2, _, { S5 with tm := ⟨⟨D, rfl, owSet_at, b, .inl n.t, r⟩, S5.tm⟩ }⟩
theorem PTs_imp {e : List Expr} {t t' : TT} (h : PTs X e t) (f : ∀ σ H Q, t' σ H Q → t σ H Q) : PTs X e t' := ⟨fun pins s σ H Q I q => h.run pins s σ H Q I (f _ _ _ q)⟩
theorem ptsd_nil : PTs X [] (LT X.K c W yesD) := PTs_imp pts_nil fun σ H Q ⟨δ, tmp, Qd, Ed, S, q, k, w⟩ => k _ _ _ q S
theorem ptsd_one {e : Expr} {t : TDT} (h : PT X e (LT X.K c W t)) : PTs X [e] (LT X.K c W t) := pts_one h
theorem pd_lc {elt tg iter : Expr} {ifs : List Expr} {scope : Scope} {own : List (Str × Nat)} {pos : Pos} {ti : TDI} {g : TDG} {tt : TDT} {te : TD} (hc : X.calm = true) (hN : X.N.Nodup) (hi : PI X tg iter (LI X.K c W ti)) (ok : BlkOk X.N X.env.scope scope own)
    (hg : ∀ (s : Shared) (H : Hp) (C : Addr) (cl : List (Str × Addr)) (fp : List Addr), PG (X.blk s H scope (compEnvC scope cl C X.env) fp) tg (LG X.K c (own.map (·.2)) g)) (ht : ∀ (s : Shared) (H : Hp) (C : Addr) (cl : List (Str × Addr)) (fp : List Addr), PTs (X.blk s H scope (compEnvC scope cl C X.env) fp) ifs (LT X.K c W0 tt))
    (he : ∀ (s : Shared) (H : Hp) (C : Addr) (cl : List (Str × Addr)) (fp : List Addr), PE (X.blk s H scope (compEnvC scope cl C X.env) fp) elt (LE X.K c W0 te)) (hv : ∀ i ∈ own.map (·.2), i ∉ c.sl) (hs : ∀ x, foldedSetIterable iter X.env x = pure x := by intro _; rfl) :
    PE X (.ListComp elt [⟨tg, iter, ifs, 0⟩] scope pos) (LE X.K c W (compD ti g tt te (own.map (·.2)))) := PE_imp (pe_lc hc hN hi ok hg ht he hs) (lift_comp hv)
/-- x = [..] on one line: the list is x's own, or frozen -/
def setLcD (i : Nat) (o : Bool) (t : TD) : TDS := fun D δ => t δ (fun x δ1 => D.nx (δ1.set i (some (asD o x)))) D.ex
theorem psd_setLc {i : Nat} {o : Bool} {y : Str} {py : Pos} {elt tg iter : Expr} {ifs : List Expr} {scope : Scope} {own : List (Str × Nat)} {pos spos : Pos} {ti : TDI} {g : TDG} {tt : TDT} {te : TD} (ni : i ∉ c.sl) (hc : X.calm = true) (hN : X.N.Nodup) (hy : X.N[i]? = some y) (hyl : X.env.scope.names.lookup y = some .local)
    (hsw : swapsWith (.ListComp elt [⟨tg, iter, ifs, 0⟩] scope pos) (some (.Name y py)) spos.line X.env = pure true) (hi : PI X tg iter (LI X.K c W ti)) (ok : BlkOk X.N X.env.scope scope own)
    (hg : ∀ (s : Shared) (H : Hp) (C : Addr) (cl : List (Str × Addr)) (fp : List Addr), PG (X.blk s H scope (compEnvC scope cl C X.env) fp) tg (LG X.K c (own.map (·.2)) g)) (ht : ∀ (s : Shared) (H : Hp) (C : Addr) (cl : List (Str × Addr)) (fp : List Addr), PTs (X.blk s H scope (compEnvC scope cl C X.env) fp) ifs (LT X.K c W0 tt))
    (he : ∀ (s : Shared) (H : Hp) (C : Addr) (cl : List (Str × Addr)) (fp : List Addr), PE (X.blk s H scope (compEnvC scope cl C X.env) fp) elt (LE X.K c W0 te)) (hv : ∀ i ∈ own.map (·.2), i ∉ c.sl) (hs : ∀ x, foldedSetIterable iter X.env x = pure x := by intro _; rfl) :
    PS X (.Assign [.Name y py] (.ListComp elt [⟨tg, iter, ifs, 0⟩] scope pos) spos) (LS X.K c W (setLcD i o (compD ti g tt te (own.map (·.2))))) :=
  PS_imp (ps_setLc (i := i) hc hN hy hyl hsw hi ok hg ht he hs) fun D σ H ⟨δ, tmp, Dd, S, q, k, kr, kb, kc, w⟩ => by
    show tLc _ _ _ _ _ σ H fun x H1 => gName i x σ H1 D.nx
    refine lift_comp hv _ _ _ ⟨δ, tmp, _, _, S, q, fun v x δ' H' q' ⟨F, ow, S'⟩ => ?_, w⟩
    obtain ⟨F', S2⟩ := S'.top_as o
    exact k _ _ _ q' (S2.set' ni)
end
end DL

set_option Elab.async false
set_option linter.all false
set_option maxRecDepth 100000
namespace DL
open PySem PySem.Spec PyProof.Rows L2
/-! ### a def's body keeps its promise -/
/-- the slots of the arguments that may change -/
def ownIx : List DV → Nat → List Nat
  | [], _ => []
  | .d _ :: r, k => ownIx r (k + 1)
  | .own _ :: r, k => k :: ownIx r (k + 1)
def startD (n : Nat) (as : List DV) : DSt := as.map some ++ List.replicate (n - as.length) none
def takeB (δ : DSt) : List Nat → List OC → Prop
  | [], os => os = []
  | i :: is, os => ∃ o r, os = o :: r ∧ δ[i]? = some (some (.own o)) ∧ takeB δ is r
def owOf : List DV → List V → Nat → Addr → Option Hold
  | .own _ :: as, .ref p :: vs, k => fun a => if a = p then some (.s k) else owOf as vs (k + 1) a
  | _ :: as, _ :: vs, k => owOf as vs (k + 1)
  | _, _, _ => fun _ => none
section
variable {K : PySem.W.Frag} {c : Fc} {F H : Hp}
theorem ArgsRep.len : ∀ {vs : List V} {as : List DV} {ps : List Addr}, ArgsRep K F H vs as ps → vs.length = as.length
  | _, _, _, .nil => rfl
  | _, _, _, .d _ t => congrArg (· + 1) t.len
  | _, _, _, .own _ _ _ t => congrArg (· + 1) t.len
theorem ArgsRep.plen : ∀ {vs : List V} {as : List DV} {ps : List Addr} {k : Nat}, ArgsRep K F H vs as ps → ps.length = (ownIx as k).length
  | _, _, _, _, .nil => rfl
  | _, _, _, k, .d _ t => t.plen (k := k + 1)
  | _, _, _, k, .own _ _ _ t => congrArg (· + 1) (t.plen (k := k + 1))
theorem owOf_in : ∀ {vs : List V} {as : List DV} {ps : List Addr} {k : Nat} {a : Addr} {h : Hold}, ArgsRep K F H vs as ps → owOf as vs k a = some h → a ∈ ps
  | _, _, _, _, _, _, .nil, e => nomatch e
  | _, _, _, k, a, h, .d _ t, e => owOf_in (k := k + 1) t e
  | _, _, _, k, a, h, .own (p := p) _ _ _ t, e => by
    have e : (if a = p then some (Hold.s k) else owOf _ _ (k + 1) a) = some h := e
    by_cases q : a = p
    · subst q; exact List.mem_cons_self
    · rw [if_neg q] at e; exact List.mem_cons_of_mem _ (owOf_in t e)
theorem ArgsRep.at' : ∀ {vs : List V} {as : List DV} {ps : List Addr} {k j : Nat} {x : DV}, ArgsRep K F H vs as ps → (∀ p ∈ ps, p ∈ c.ad) → (∀ i ∈ ownIx as k, i ∈ c.sl) → as[j]? = some x → ∃ v, vs[j]? = some v ∧ RepV K c F H (owOf as vs k) (.s (k + j)) v x
  | _, _, _, _, 0, _, .d h _, _, _, e => by cases e; exact ⟨_, rfl, h⟩
  | _, _, _, k, 0, _, .own n h _ _, hp, hs, e => by
    cases e
    exact ⟨_, rfl, _, rfl, if_pos rfl, n, .inr ⟨hp _ List.mem_cons_self, k, rfl, hs k List.mem_cons_self⟩, h⟩
  | _, _, _, k, j + 1, x, .d _ t, hp, hs, e => by
    obtain ⟨v, e1, r⟩ := t.at' (k := k + 1) (j := j) hp hs e
    refine ⟨v, e1, ?_⟩
    rw [show k + (j + 1) = k + 1 + j by omega]
    exact r
  | _, _, _, k, j + 1, x, .own (p := p) n h np t, hp, hs, e => by
    obtain ⟨v, e1, r⟩ := t.at' (k := k + 1) (j := j) (fun p hq => hp p (List.mem_cons_of_mem _ hq)) (fun i hi => hs i (List.mem_cons_of_mem _ hi)) e
    refine ⟨v, e1, ?_⟩
    rw [show k + (j + 1) = k + 1 + j by omega]
    refine r.reown fun q _ eq _ => ?_
    have : q ≠ p := fun z => np (by rw [← z]; exact owOf_in t eq)
    exact if_neg this
theorem ArgsRep.ix : ∀ {vs : List V} {as : List DV} {ps : List Addr} {k m i : Nat} {p : Addr}, ArgsRep K F H vs as ps → (ownIx as k)[m]? = some i → ps[m]? = some p → k ≤ i ∧ vs[i - k]? = some (.ref p)
  | _, _, _, k, m, i, p, .nil, e, _ => by simp [ownIx] at e
  | _, _, _, k, m, i, p, .d _ t, e, e' => by
    obtain ⟨h1, h2⟩ := t.ix (k := k + 1) e e'
    refine ⟨by omega, ?_⟩
    rw [show i - k = (i - (k + 1)) + 1 by omega]
    exact h2
  | _, _, _, k, 0, i, p, .own _ _ _ _, e, e' => by
    cases e; cases e'
    rw [Nat.sub_self]
    exact ⟨Nat.le_refl _, rfl⟩
  | _, _, _, k, m + 1, i, p, .own _ _ _ t, e, e' => by
    obtain ⟨h1, h2⟩ := t.ix (k := k + 1) (m := m) e e'
    refine ⟨by omega, ?_⟩
    rw [show i - k = (i - (k + 1)) + 1 by omega]
    exact h2
/-- at the entry -/
theorem entry {N : List Str} {vs : List V} {as : List DV} {ps : List Addr} (s : Same F H) (A : ArgsRep K F H vs as ps) : SttF K ⟨ownIx as 0, ps, F, H⟩ F (owOf as vs 0) (startD N.length as) [] (L2.start N vs) H := by
  have hl := A.len
  refine ⟨s, Same.refl F, fun a h => .inl h, fun a o e _ => e, fun a e => e, ?_, fun i x e => ?_, True.intro, fun m i p e1 e2 => ?_⟩
  · unfold L2.start startD
    rw [List.length_append, List.length_append, List.length_map, List.length_map, List.length_replicate, List.length_replicate, hl]
  · unfold startD at e
    rcases Nat.lt_or_ge i as.length with h | h
    · rw [List.getElem?_append_left (by rw [List.length_map]; exact h), List.getElem?_map, List.getElem?_eq_getElem h] at e
      have e := Option.some.inj (Option.some.inj e)
      obtain ⟨v, e1, r⟩ := A.at' (c := ⟨ownIx as 0, ps, F, H⟩) (k := 0) (j := i) (fun _ h => h) (fun _ h => h) (by rw [List.getElem?_eq_getElem h, e])
      refine ⟨v, ?_, by rw [Nat.zero_add] at r; exact r⟩
      unfold L2.start
      rw [List.getElem?_append_left (by rw [List.length_map, hl]; exact h), List.getElem?_map, e1]
      rfl
    · rw [List.getElem?_append_right (by rw [List.length_map]; exact h)] at e
      cases q : (List.replicate (N.length - as.length) (none : Option DV))[i - (as.map some).length]? with
      | none => rw [q] at e; cases e
      | some z =>
        rw [q] at e
        have := List.mem_of_getElem? q
        rw [(List.mem_replicate.mp this).2] at e
        cases e
  · obtain ⟨_, h⟩ := A.ix (k := 0) e1 e2
    have h : vs[i]? = some (.ref p) := h
    unfold L2.start
    rw [List.getElem?_append_left (by rw [List.length_map]; exact set_lt h), List.getElem?_map, h]
    rfl
theorem takeB_reps {F' H' : Hp} {ow : Addr → Option Hold} {δ : DSt} {tmp : List (V × DV)} {σ : L2.St} (S : SttF K c F' ow δ tmp σ H') : ∀ {is : List Nat} {ps : List Addr} {os : List OC}, ps.length = is.length → (∀ (k i : Nat) (p : Addr), is[k]? = some i → ps[k]? = some p → σ[i]? = some (some (.ref p))) → takeB δ is os → OwnsRep K F' H' ps os
  | [], [], _, _, _, e => by cases e; exact .nil
  | i :: is, p :: ps, _, hl, hs, ⟨o, r, e, ei, t⟩ => by
    subst e
    obtain ⟨v, e1, p', rfl, _, n, _, q⟩ := S.sl _ _ ei
    have e2 := hs 0 i p rfl rfl
    rw [e1] at e2
    cases e2
    exact .cons n q (takeB_reps S (Nat.succ.inj hl) (fun k i p a b => hs (k + 1) i p a b) t)
  | [], _ :: _, _, h, _, _ => nomatch h
  | _ :: _, [], _, h, _, _ => nomatch h
end
/-- what a def's end must bring -/
def endsD (sl : List Nat) (Qd : DV → List OC → Prop) (Ed : Ex → List OC → Prop) : EndsD where
  nx := fun δ => ∃ os, takeB δ sl os ∧ Qd (.d .non) os
  rt := fun x δ => ∃ os, takeB δ sl os ∧ Qd x os
  ex := fun x δ => ∃ os, takeB δ sl os ∧ Ed x os
section
variable {P : Program} {w : World} {K : PySem.W.Frag} {mg : Str → Option Value} {base : Heap}
theorem okD {x qual : Str} {st : Stmt} {f : Addr} {fd : FuncData} {N ps : List Str} {k : Nat} {sd : SpD} (G : Fun K x qual st f fd) (S : FnScope N ps (defScope st)) (sl : List Nat) (len : ∀ as Q E, sd as Q E → as.length = ps.length ∧ ownIx as 0 = sl)
    (hbody : ∃ t : TDS, (∀ (cdv : Value) (A : Around) (outer : List Env) (s : Shared) (H : Hp) (E : XK) (ad : List Addr) (F0 H0 : Hp), Room k (A.deeper (envOfC qual (defScope st) s.heap.objs.size f cdv)) →
        PSs (cxOf (L2.CX P w) P w K mg base N qual (defScope st) f cdv A outer s H E) (defBody st) (LS K ⟨sl, ad, F0, H0⟩ (fun cls d _ H => E cls d H) t)) ∧
      ∀ as Qd Ed, sd as Qd Ed → t (endsD sl Qd Ed) (startD N.length as)) :
    FnOk P w K mg base (L2.CX P w) (k + 1) f fd ps (spOf K sd) := by
  obtain ⟨t, ht, hq⟩ := hbody
  refine G.okX S (fun vs H Q E ⟨F, as, qs, Qd, Ed, _, A, h, _⟩ => by rw [A.len]; exact (len _ _ _ h).1) fun cdv A outer s H vs Q E hr ⟨F, as, qs, Qd, Ed, sm, ar, h, kq, ke⟩ => ?_
  have hsl := (len _ _ _ h).2
  have S0 := entry (N := N) sm ar
  rw [hsl] at S0
  have hpl : qs.length = sl.length := by rw [← hsl]; exact ar.plen
  have post : ∀ {δ' : DSt} {tmp : List (V × DV)} {σ' : L2.St} {F' H' : Hp} {ow' : Addr → Option Hold} {os : List OC}, SttF K ⟨sl, qs, F, H⟩ F' ow' δ' tmp σ' H' → takeB δ' sl os → Post K F H qs os F' H' := fun {δ' tmp σ' F' H' ow' os} S' tb =>
    ⟨S'.f0, S'.fh, S'.fr, S'.up, S'.fn, takeB_reps S' hpl S'.ps tb⟩
  refine ⟨_, ht cdv A outer s H E qs F H hr, startD N.length as, [], endsD sl Qd Ed, ⟨F, _, S0⟩, hq as Qd Ed h, fun δ' σ' H' ⟨os, tb, q⟩ ⟨F', ow', S'⟩ => ?_, fun v x δ' σ' H' ⟨os, tb, q⟩ ⟨F', ow', S'⟩ => ?_, fun _ _ _ z => z.elim, fun _ _ _ z => z.elim, fun x δ' σ' H' F' ow' cls d ⟨os, tb, q⟩ S' er => ?_⟩
  · exact kq .non (.d .non) os F' H' q (post S' tb) .non
  · refine kq v x os F' H' q (post S' tb) ?_
    cases x with
    | d y => exact S'.top
    | own o =>
      obtain ⟨p, rfl, e, b, n, r⟩ := S'.tm.1
      exact ⟨p, rfl, n.t, b, r⟩
  · exact ke cls d x os F' H' q (post S' tb) er
end
/-! ### own lists that change -/
section
variable {X : Cx} {c : Fc} {W : WX}
/-- xs[i] = e, xs the own list in slot j -/
def setItem (j : Nat) (ti te : TD) : TDS := fun D δ => ∃ o, δ[j]? = some (some (.own o)) ∧ te δ (fun y δ1 => ti δ1 (fun k δ2 => ∃ xs n m, δ2[j]? = some (some (.own (.lst xs))) ∧ k.toD = .int n ∧ ixN xs.length n = some m ∧ D.nx (δ2.set j (some (.own (.lst (xs.set m y.toD)))))) D.ex) D.ex
theorem psd_setItem {j : Nat} {x : Str} {e ei : Expr} {te ti : TD} {pos p2 p3 : Pos} (h : ∀ {te : TE} {g : TG}, PE X e te → PG X (.Subscript (.Name x p3) ei p2) g → PS X (.Assign [.Subscript (.Name x p3) ei p2] e pos) (tAsg te g))
    (hg : ∀ {to ti : TE} {t : TSet}, PE X (.Name x p3) to → PE X ei ti → PSet X t → PG X (.Subscript (.Name x p3) ei p2) (gSub to ti t)) (hv : PE X (.Name x p3) (tVar j)) (he : PE X e (LE X.K c W te)) (hi : PE X ei (LE X.K c W ti)) :
    PS X (.Assign [.Subscript (.Name x p3) ei p2] e pos) (LS X.K c W (setItem j ti te)) :=
  PS_imp (h he (hg hv hi set_list)) fun D σ H ⟨δ, tmp, Dd, ⟨F, ow, S⟩, ⟨o, eo, q⟩, k, kr, kb, kc, w⟩ => by
    obtain ⟨v, e1, p, rfl, _⟩ := S.sl _ _ eo
    refine ⟨δ, tmp, _, _, ⟨F, ow, S⟩, q, fun y d δ1 H1 q1 ⟨F1, ow1, S1⟩ => ?_, w⟩
    obtain ⟨F2, S2, _⟩ := S1.top_frz
    refine ⟨_, e1, δ1, _, _, _, ⟨F2, ow1, S2⟩, q1, fun u z δ2 H2 ⟨xs, n, m, ej, ek, em, q2⟩ ⟨F3, ow3, S3⟩ => ?_, w.push⟩
    obtain ⟨F4, S4, _⟩ := S3.top_frz
    rw [ek] at S4
    cases S4.top
    obtain ⟨v', e2, p', rfl, _, _, _, vs, ep, r⟩ := S4.sl _ _ ej
    rw [e1] at e2
    cases e2
    refine ⟨p, vs, n, m, rfl, rfl, ep, by rw [r.len]; exact em, k _ _ _ q2 ⟨F4, ow3, ?_⟩⟩
    exact (S4.pop.write (o' := .lst (xs.set m d.toD)) ej e1 ⟨_, upd_same, r.set S4.pop.top m⟩).pop
/-- a method of the own list in slot j: it changes, a value comes back -/
abbrev RDM := List D → List D → (D → List D → Prop) → Prop
def MtO (K : PySem.W.Frag) (r : V → List V → Hp → VK → Prop) (rd : RDM) : Prop := ∀ (p : Addr) (vs us : List V) (xs ds : List D) (F H : Hp) (Q : VK) (Qd : D → List D → Prop), Same F H → H p = some (.lst vs) → RepL K F vs xs → RepL K F us ds → rd xs ds Qd →
  (∀ v z ws zs, Qd z zs → Rep K F v z → RepL K F ws zs → Q v (upd H p (.lst ws))) → r (.ref p) us H Q
def methO (j : Nat) (rd : RDM) (ta : TDA) : TD := fun δ Q E => ∃ x0, δ[j]? = some (some (.own (.lst x0))) ∧ ta δ (fun as δ1 => ∃ ds xs, as = ds.map .d ∧ δ1[j]? = some (some (.own (.lst xs))) ∧ rd xs ds fun z zs => Q (.d z) (δ1.set j (some (.own (.lst zs))))) E
theorem pd_methO {j : Nat} {x m : Str} {es : List Expr} {ta : TDA} {r : V → List V → Hp → VK → Prop} {rd : RDM} {pos p2 p3 : Pos} (h : ∀ {to : TE} {t : TA}, PE X (.Name x p3) to → PA X es t → PE X (.Call (.Attribute (.Name x p3) m p2) es [] pos) (tBM X.K "list" r to t)) (hr : MtO X.K r rd)
    (hv : PE X (.Name x p3) (tVar j)) (ha : PA X es (LA X.K c W ta)) : PE X (.Call (.Attribute (.Name x p3) m p2) es [] pos) (LE X.K c W (methO j rd ta)) :=
  PE_imp (h hv ha) fun σ H Q ⟨δ, tmp, Qd, Ed, ⟨F, ow, S⟩, ⟨o, eo, q⟩, k, w⟩ => by
    obtain ⟨v, e1, p, rfl, _, _, _, vs0, ep0, _⟩ := S.sl _ _ eo
    refine ⟨_, e1, .inl ⟨rfl, vs0, SqL.of ep0⟩, δ, tmp, _, Ed, ⟨F, ow, S⟩, q, fun us as δ1 F1 ow1 H1 ⟨ds, xs, ea, ej, q1⟩ S1 ra => ?_, w⟩
    subst ea
    obtain ⟨v', e2, p', rfl, _, n, _, vs, ep, rr⟩ := S1.sl _ _ ej
    rw [e1] at e2
    cases e2
    exact hr p vs us xs ds F1 H1 Q _ S1.fh ep rr (args_d ra) q1 fun v z ws zs qz rz rws => k _ _ _ _ qz ⟨F1, ow1, (S1.write (o' := .lst zs) ej e1 ⟨_, upd_same, rws⟩).push rz⟩
end
section
variable {K : PySem.W.Frag}
abbrev appM : RDM := fun xs ds Q => ∃ d, ds = [d] ∧ xs.length < sizeLine ∧ Q .non (xs ++ [d])
theorem mo_append : MtO K rAppend appM := fun p vs us xs ds F H Q Qd s ep r ra ⟨d, e, hz, q⟩ k => by
  subst e
  cases ra with
  | cons ra t => cases t; exact ⟨p, vs, _, rfl, rfl, ep, by rw [r.len]; exact hz, k _ _ _ _ q .non (r.app (.cons ra .nil))⟩
abbrev popM : RDM := fun xs ds Q => ∃ i k d, ds = [.int i] ∧ -(2 ^ 63) ≤ i ∧ i < 2 ^ 63 ∧ seqIndex? i xs.length = some k ∧ xs[k]? = some d ∧ Q d (xs.eraseIdx k)
theorem mo_pop : MtO K rPopAt popM := fun p vs us xs ds F H Q Qd s ep r ra ⟨i, j, d, e, h1, h2, hk, hd, q⟩ k => by
  subst e
  cases ra with
  | cons ra t =>
    cases t; cases ra
    obtain ⟨v, ev, rv⟩ := r.get hd
    exact ⟨p, vs, i, j, v, rfl, rfl, ep, h1, h2, by rw [r.len]; exact hk, ev, k _ _ _ _ q rv (r.erase j)⟩
abbrev insM : RDM := fun xs ds Q => ∃ (i : Int) (d : DL.D), ds = [.int i, d] ∧ xs.length < sizeLine ∧ 0 ≤ i ∧ i < 2 ^ 63 ∧ Q .non (xs.take i.toNat ++ [d] ++ xs.drop i.toNat)
theorem mo_insert : MtO K (fun x vs H Q => ∃ (l : Addr) (xs : List V) (i : Int) (y : V), x = .ref l ∧ vs = [.int i, y] ∧ H l = some (.lst xs) ∧ xs.length < sizeLine ∧ 0 ≤ i ∧ i < 2 ^ 63 ∧
    Q .non (upd H l (.lst (xs.take i.toNat ++ [y] ++ xs.drop i.toNat)))) insM := fun p vs us xs ds F H Q Qd s ep r ra ⟨i, d, e, hz, h0, h1, q⟩ k => by
  subst e
  cases ra with
  | cons ra t =>
    cases t with
    | cons rd t => cases t; cases ra; exact ⟨p, vs, i, _, rfl, rfl, ep, by rw [r.len]; exact hz, h0, h1, k _ _ _ _ q .non (((r.take _).app (.cons rd .nil)).app (r.drop _))⟩
end
/-! ### what is raised -/
section
variable {X : Cx} {c : Fc} {W : WX}
/-- fields by the names, in their order -/
def ErrInit (K : PySem.W.Frag) (B : Addr) (ns : List Str) : Sp := fun vs H Q _ => ∃ (a : Addr) (xs : List V), vs = .ref a :: xs ∧ xs.length = ns.length ∧ H a = some (exo a B none) ∧ ∀ d, H d = none → d ≠ a → Q .non (upd (upd H d (exd d (ns.zip xs))) a (exo a B (some d)))
theorem repF_zip {K : PySem.W.Frag} {F : Hp} : ∀ {ns : List Str} {vs : List V} {ds : List D}, RepL K F vs ds → RepF K F (ns.zip vs) (ns.zip ds)
  | [], _, _, .nil => .nil
  | [], _, _, .cons _ _ => .nil
  | n :: ns, _, _, .nil => .nil
  | n :: ns, _, _, .cons h t => .cons h (repF_zip t)
def raiseD (B : Addr) (ns : List Str) (ta : TDA) : TDS := fun D δ => ta δ (fun as δ1 => ∃ ds, as = ds.map .d ∧ ds.length = ns.length ∧ ds.length ≤ 1000 ∧ D.ex ⟨B, some (ns.zip ds)⟩ δ1) D.ex
theorem psd_raise {x : Str} {B fI : Addr} {k : Nat} {fd : FuncData} {ps ns : List Str} {e : Expr} {es : List Expr} {ta : TDA} {p pos pos2 : Pos} (hc : X.calm = true) (tk : Takes X W)
    (hk : ∀ {ta : TA}, PA X (e :: es) ta → PMk X (.Call (.Name x p) (e :: es) [] pos) (tMkO B (ErrInit X.K B ns) [] ta)) (ha : PA X (e :: es) (LA X.K c W ta)) :
    PS X (.Raise (some (.Call (.Name x p) (e :: es) [] pos)) none pos2) (LS X.K c W (raiseD B ns ta)) :=
  PS_imp (ps_raise hc tk (hk ha)) fun D σ H ⟨δ, tmp, Dd, S, q, k, kr, kb, kc, w⟩ => ⟨δ, tmp, _, _, S, q, fun vs as δ1 F ow H1 ⟨ds, ea, hl, hz, q1⟩ S1 ra => by
    subst ea
    have r := args_d ra
    refine ⟨by rw [r.len]; exact hz, fun a na => ?_⟩
    refine ⟨a, vs, by rw [List.append_nil], by rw [r.len]; exact hl, upd_same, fun d nd ne => ⟨rfl, d, ns.zip vs, upd_same, by rw [upd_ne ne, upd_same], by rwa [upd_ne ne] at nd, ?_⟩⟩
    have nd1 : H1 d = none := by rwa [upd_ne ne] at nd
    have eH : upd (del (upd (upd (upd H1 a (exo a B none)) d (exd d (ns.zip vs))) a (exo a B (some d))) a) d (.xd (ns.zip vs)) = upd H1 d (.xd (ns.zip vs)) := by
      funext b
      by_cases h1 : b = d
      · subst h1; rw [upd_same, upd_same]
      · rw [upd_ne h1, upd_ne h1]
        by_cases h2 : b = a
        · subst h2; rw [del_same]; exact na.symm
        · rw [del_ne h2, upd_ne h2, upd_ne h1, upd_ne h2]
    rw [eH]
    exact w _ _ _ _ _ ow _ _ q1 (S1.ext (Ext.new S1.fh nd1)) ⟨rfl, d, _, rfl, upd_same, repF_zip (r.mono (same_upd (Same.refl F) (S1.fh.free nd1)))⟩, w⟩
/-- an own exception without an __init__ of its own -/
def raise0D (B : Addr) : TDS := fun D δ => D.ex ⟨B, none⟩ δ
theorem psd_raise0 {e : Expr} {B : Addr} {pos2 : Pos} (hc : X.calm = true) (tk : Takes X W) (hk : PMk X e (fun _ H Q => Q (.ref B) none H)) : PS X (.Raise (some e) none pos2) (LS X.K c W (raise0D B)) :=
  PS_imp (ps_raise hc tk hk) fun D σ H ⟨δ, tmp, Dd, ⟨F, ow, S⟩, q, k, kr, kb, kc, w⟩ => w _ _ _ _ F ow _ _ q S ⟨rfl, rfl⟩
/-! ### try -/
def tryD (K : PySem.W.Frag) (cv : Value) (i : Nat) (tb : TDS) (ts : TDS) : TDS := fun D δ =>
  tb { D with ex := fun x δ1 => ∃ b, PySem.W.exmOne K (.ref x.C) cv = some b ∧
    (b = true → ∀ a dd, ts { nx := fun δ2 => D.nx (δ2.set i none), rt := D.rt, ex := noX, bk := fun δ2 => D.bk (δ2.set i none), ct := fun δ2 => D.ct (δ2.set i none) } (δ1.set i (some (.d (.exc a (.ref x.C) dd x.C x.fs))))) ∧ (b = false → D.ex x δ1) } δ
theorem psd_try {x n : Str} {cv : Value} {i : Nat} {body suite : List Stmt} {b₀ : Stmt} {np pos pos' : Pos} {tb ts : TDS} (ni : i ∉ c.sl) (hs : X.stack = X.env :: X.outer) (hf : X.env.frame = some X.env.locals) (hN : X.N.Nodup) (hi : X.N[i]? = some n) (hln : X.env.kindOf n = some .local) (hc : Names X x cv) (tk : Takes X W)
    (hb : ∀ (W : WX) (pn : List (Addr × Obj)) (xe : Value → Shared → Prop), Takes (X.tr pn xe) W → PassesOwn (model X.prog X.w) X.A X.env xe → PSs (X.tr pn xe) body (LS X.K c W tb))
    (hsu : ∀ (a : Addr) (oe : Obj) (cls : Value) (d : Option Addr) (pn : List (Addr × Obj)), Zc cls d oe → (∃ vs, oe.data = .fields vs) → PSs (X.suite a ((a, oe) :: pn)) (b₀ :: suite) (LS X.K c W0 ts)) :
    PS X (.Try body [.ExceptHandler (some (.Name x np)) (some n) (b₀ :: suite) pos'] [] [] pos) (LS X.K c W (tryD X.K cv i tb ts)) :=
  PS_imp (ps_try_as (tb := fun W => LS X.K c W tb) (ts := fun _ _ _ => LS X.K c W0 ts) hs hf hN hi hln hc tk hb hsu) fun D σ H ⟨δ, tmp, Dd, S, q, k, kr, kb, kc, w⟩ => by
    refine ⟨δ, tmp, _, S, q, k, kr, kb, kc, fun y δ1 σ1 H1 F ow cls d ⟨b, eb, yes, no⟩ S1 er => ?_⟩
    obtain ⟨C, fs⟩ := y
    obtain ⟨rfl, er'⟩ := id er
    refine ⟨b, eb, fun hb a na => ?_, fun hb => w _ _ _ _ F ow _ d (no hb) S1 er⟩
    have rx : Rep X.K F (.ref a) (.exc a (.ref C) d C fs) := by
      cases fs with
      | none => obtain rfl : d = none := er'; exact .exc0
      | some fs => obtain ⟨dd, vs, rfl, e2, e3⟩ := er'; exact .exc e2 e3
    exact ⟨_, tmp, _, (S1.push rx).set' ni, yes hb a d, fun δ2 σ2 H2 q2 ⟨F2, ow2, S2⟩ => k _ _ _ q2 ⟨F2, ow2, S2.del ni⟩, kr, fun δ2 σ2 H2 q2 ⟨F2, ow2, S2⟩ => kb _ _ _ q2 ⟨F2, ow2, S2.del ni⟩, fun δ2 σ2 H2 q2 ⟨F2, ow2, S2⟩ => kc _ _ _ q2 ⟨F2, ow2, S2.del ni⟩, fun _ _ _ _ _ _ _ _ z => z.elim⟩
end
end DL

set_option Elab.async false
set_option linter.all false
set_option maxRecDepth 100000
namespace DL
open PySem PySem.Spec PyProof.Rows L2
section
variable {X : Cx} {c : Fc} {W : WX}
/-! ### comparisons as tests -/
theorem ptd_cmp {a b : Expr} {op : CmpOp} {r : R2} {rd : RD2} {ta tb : TD} {pos : Pos} (ho : OpR X (compareOp op) r) (hd : Op2 X.K r rd) (ha : PE X a (LE X.K c W ta)) (hb : PE X b (LE X.K c W tb)) (hm : behindInMarks op b = false) : PT X (.Compare a [op] [b] pos) (LT X.K c W (tvD (opD rd ta tb))) :=
  PT_imp (pt_cmpR ho ha hb hm) fun σ H Q ⟨δ, tmp, Qd, Ed, S, q, k, w⟩ => lift_op hd σ H _ ⟨δ, tmp, _, Ed, S, q, fun v x δ' H' ⟨b, e, q'⟩ ⟨F, ow, S'⟩ => by
    subst e
    cases S'.top
    exact ⟨b, rfl, k _ _ _ q' ⟨F, ow, S'.pop⟩⟩, w⟩
theorem lift_chain {K : PySem.W.Frag} {r r' : R2} {rd rd' : RD2} {ta tb tc : TD} (hd : Op2 K r rd) (hd' : Op2 K r' rd') : ∀ σ H Q, LE K c W (chainD rd rd' ta tb tc) σ H Q → tChain r r' (LE K c W ta) (LE K c W tb) (LE K c W tc) σ H Q := fun σ H Q ⟨δ, tmp, Qd, Ed, S, t, k, w⟩ => by
  refine ⟨δ, tmp, _, Ed, S, t, fun x a δ1 H1 t1 S1 => ?_, w⟩
  refine ⟨δ1, _, _, Ed, S1, t1, fun y b δ2 H2 t2 ⟨F, ow, S2⟩ => ?_, w.push⟩
  obtain ⟨F', S3, _⟩ := S2.top_frz2
  refine hd x y _ _ F' H2 _ _ S3.fh S3.pop.top S3.top t2 fun v dv F2 H3 ⟨kk, e, q⟩ m => ?_
  subst e
  cases m with
  | d e r =>
    cases r
    refine ⟨kk, rfl, ?_⟩
    have S4 := S3.ext e
    cases kk with
    | false => exact k _ _ _ _ q ⟨F2, ow, S4.pop.pop.push (.bl _)⟩
    | true =>
      have S5 : SttF K c F2 ow δ2 ((y, .d b.toD) :: tmp) σ H3 := S4.pop.pop.push S4.top
      refine ⟨δ2, _, _, Ed, ⟨F2, ow, S5⟩, q, fun u z δ3 H4 q2 ⟨F5, ow5, S6⟩ => ?_, w.push⟩
      obtain ⟨F7, S7, s7⟩ := S6.top_frz
      exact hd' y u _ _ F7 H4 Q _ S7.fh S7.pop.top S7.top q2 fun v dv F8 H5 q3 m => k _ _ _ _ q3 (m.stt S7.pop.pop)
theorem ptd_chain {a b e : Expr} {op op' : CmpOp} {r r' : R2} {rd rd' : RD2} {ta tb tc : TD} {pos : Pos} (ho : OpR X (compareOp op) r) (hd : Op2 X.K r rd) (ho' : OpR X (compareOp op') r') (hd' : Op2 X.K r' rd') (ha : PE X a (LE X.K c W ta)) (hb : PE X b (LE X.K c W tb)) (hc : PE X e (LE X.K c W tc)) (hm : lastMarks [op, op'] [b, e] = false) :
    PT X (.Compare a [op, op'] [b, e] pos) (LT X.K c W (tvD (chainD rd rd' ta tb tc))) :=
  PT_imp (pt_chain ho ho' ha hb hc (hm := hm)) fun σ H Q ⟨δ, tmp, Qd, Ed, S, q, k, w⟩ => lift_chain hd hd' σ H _ ⟨δ, tmp, _, Ed, S, q, fun v x δ' H' ⟨b, e, q'⟩ ⟨F, ow, S'⟩ => by
    subst e
    cases S'.top
    exact ⟨b, rfl, k _ _ _ q' ⟨F, ow, S'.pop⟩⟩, w⟩
/-! ### a, b = e -/
def unpackD (t : TD) (g : TDG) : TDS := fun D δ => t δ (fun x δ1 => g x.toD δ1 D.nx) D.ex
theorem psd_unpack {tg e : Expr} {t : TD} {g : TDG} {vs : List Nat} {pos : Pos} (he : PE X e (LE X.K c W t)) (hg : PG X tg (LG X.K c vs g)) (h : ∀ {te : TE} {g : TG}, PE X e te → PG X tg g → PS X (.Assign [tg] e pos) (tAsg te g)) : PS X (.Assign [tg] e pos) (LS X.K c W (unpackD t g)) :=
  PS_imp (h he hg) fun D σ H ⟨δ, tmp, Dd, S, q, k, kr, kb, kc, w⟩ => ⟨δ, tmp, _, _, S, q, fun v x δ' H' q' ⟨F, ow, S'⟩ => by
    obtain ⟨F2, S2, _⟩ := S'.top_frz
    exact ⟨δ', tmp, _, _, ⟨F2, ow, S2⟩, q', fun δ3 σ3 H3 q3 S3 _ => k _ _ _ q3 S3⟩, w⟩
/-! ### lists and tuples, whichever it is -/
def seqI (t : TD) : TDI := fun δ Q E => t δ (fun x δ1 => ∃ xs, (x.toD = .lst xs ∨ x.toD = .ro xs ∨ x.toD = .tup xs) ∧ Q xs δ1) E
/-! ### enumerate, zip: pairs -/
def enumL (xs : List D) : List D := xs.zipIdx.map fun p => .tup [.int (p.2 : Nat), p.1]
def zipL (xs ys : List D) : List D := (xs.zip ys).map fun p => .tup [p.1, p.2]
theorem serve_enum {K : PySem.W.Frag} {p : Addr} {src : D} {items : List D} (e : src = .lst items ∨ src = .ro items) : Serve K (Ite K p) (.ref p) src (enumL items) := by
  have sq : ∀ {F H : Hp}, Same F H → Rep K F (.ref p) src → ∃ vs, SqL K H p vs ∧ RepL K F vs items := fun {F H} s r => by
    rcases e with rfl | rfl
    · cases r with | lst s1 r1 => exact ⟨_, s.seq (SqL.of s1), r1⟩
    · cases r with | ro s1 r1 => exact ⟨_, s.seq s1, r1⟩
  have hl : (enumL items).length = items.length := by simp [enumL]
  refine ⟨fun i F H s r hi => ?_, fun i F H s r hi => ?_, fun i F H x H' s r y d hd => ?_⟩
  · obtain ⟨vs, h, rl⟩ := sq s r
    rw [hl] at hi
    obtain ⟨v, e, _⟩ := rl.get (List.getElem?_eq_getElem hi)
    exact ⟨vs, v, h, e⟩
  · obtain ⟨vs, h, rl⟩ := sq s r
    exact ⟨vs, h, by rw [rl.len, ← hl]; exact hi⟩
  · obtain ⟨vs, h, rl⟩ := sq s r
    obtain ⟨T, z, rfl, nT, rfl, y⟩ := y
    have hi : i < items.length := by rw [← hl]; exact set_lt hd
    obtain ⟨v, e, rv⟩ := rl.get (List.getElem?_eq_getElem hi)
    rw [y vs h] at e
    cases e
    have : d = .tup [.int (i : Nat), items[i]] := by
      unfold enumL at hd
      rw [List.getElem?_map, List.getElem?_zipIdx, List.getElem?_eq_getElem hi] at hd
      simpa using hd.symm
    subst this
    exact ⟨_, Ext.new s nT, .tup upd_same (.cons (.int _) (.cons (rv.mono (same_upd (Same.refl F) (s.free nT))) .nil))⟩
def enumI (ta : TDA) : TDI := fun δ Q E => ta δ (fun as δ1 => ∃ x xs, as = [.d x] ∧ (x = .lst xs ∨ x = .ro xs) ∧ Q (enumL xs) δ1) E
theorem pid_enum {e : Expr} {ta : TDA} {p pos tpos : Pos} {elts : List Expr} {kk : Nat} (hg : Gl X "enumerate") (hm : X.mg "enumerate" = none) (ha : PA X [e] (LA X.K c W ta)) (hs : starEach [e] X.env = [(false, eval e X.env)] := by rfl) : PI X (.Tuple elts kk tpos) (.Call (.Name "enumerate" p) [e] [] pos) (LI X.K c W (enumI ta)) :=
  PI_imp (pi_enum hg hm ha hs) fun σ H R ⟨δ, tmp, Qd, Ed, S, q, k, w⟩ => ⟨δ, tmp, _, _, S, q, fun vs as δ' F ow H' ⟨x, xs, e, hx, q'⟩ S' ra => by
    subst e
    cases ra with
    | d h t =>
      cases t
      have h0 := h
      rcases hx with rfl | rfl
      · cases h with | lst s1 r1 => exact ⟨_, _, rfl, S'.fh.seq (SqL.of s1), k _ _ _ _ _ _ q' (serve_enum (.inl rfl)) ⟨F, ow, S'.push h0⟩⟩
      · cases h with | ro s1 r1 => exact ⟨_, _, rfl, S'.fh.seq s1, k _ _ _ _ _ _ q' (serve_enum (.inr rfl)) ⟨F, ow, S'.push h0⟩⟩, w⟩
/-! ### slices -/
abbrev TDO := DSt → (Option Int → DSt → Prop) → XD → Prop
def LO (K : PySem.W.Frag) (c : Fc) (W : WX) (t : TDO) : TO := fun σ H Q => ∃ δ tmp Qd Ed, Stt K c δ tmp σ H ∧ t δ Qd Ed ∧ (∀ i δ' H', Qd i δ' → Stt K c δ' tmp σ H' → Q i H') ∧ WD K c W tmp Ed
theorem PO_imp {e : Option Expr} {t t' : TO} (h : PO X e t) (f : ∀ σ H Q, t' σ H Q → t σ H Q) : PO X e t' := ⟨fun pins s σ H Q I q => h.run pins s σ H Q I (f _ _ _ q)⟩
def noneO : TDO := fun δ Q _ => Q none δ
def someO (t : TD) : TDO := fun δ Q E => t δ (fun x δ1 => ∃ i, x.toD = .int i ∧ Q (some i) δ1) E
theorem pod_none : PO X none (LO X.K c W noneO) := PO_imp po_none fun σ H Q ⟨δ, tmp, Qd, Ed, S, q, k, w⟩ => k _ _ _ q S
theorem pod_some {e : Expr} {t : TD} (he : PE X e (LE X.K c W t)) : PO X (some e) (LO X.K c W (someO t)) := PO_imp (po_some he) fun σ H Q ⟨δ, tmp, Qd, Ed, S, q, k, w⟩ =>
  ⟨δ, tmp, _, Ed, S, q, fun v x δ' H' ⟨i, e, q'⟩ ⟨F, ow, S'⟩ => by
    obtain ⟨F2, S2, _⟩ := S'.top_frz
    rw [e] at S2
    cases S2.top
    exact ⟨i, rfl, k _ _ _ q' ⟨F2, ow, S2.pop⟩⟩, w⟩
abbrev RDS := D → Option Int → Option Int → (DV → Prop) → Prop
def SlD (K : PySem.W.Frag) (r : V → Option Int → Option Int → Hp → VK → Prop) (rd : RDS) : Prop := ∀ x a lo hi F H Q Qd, Same F H → Rep K F x a → rd a lo hi Qd → (∀ v dv F' H', Qd dv → Made K F H F' H' v dv → Q v H') → r x lo hi H Q
def sliceD (rd : RDS) (t : TD) (tl th : TDO) : TD := fun δ Q E => t δ (fun x δ1 => tl δ1 (fun l δ2 => th δ2 (fun h δ3 => rd x.toD l h fun z => Q z δ3) E) E) E
theorem pd_sliceR {e : Expr} {lo hi : Option Expr} {r : V → Option Int → Option Int → Hp → VK → Prop} {rd : RDS} {t : TD} {tl th : TDO} {p2 pos : Pos} (hr : SlR X r) (hd : SlD X.K r rd) (he : PE X e (LE X.K c W t)) (hl : PO X lo (LO X.K c W tl)) (hh : PO X hi (LO X.K c W th)) :
    PE X (.Subscript e (.Slice lo hi none p2) pos) (LE X.K c W (sliceD rd t tl th)) := PE_imp (pe_slice hr he hl hh) fun σ H Q ⟨δ, tmp, Qd, Ed, S, q, k, w⟩ =>
  ⟨δ, tmp, _, Ed, S, q, fun v x δ1 H1 q1 S1 => ⟨δ1, _, _, Ed, S1, q1, fun l δ2 H2 q2 S2 => ⟨δ2, _, _, Ed, S2, q2, fun h δ3 H3 q3 ⟨F, ow, S3⟩ => by
    obtain ⟨F2, S4, _⟩ := S3.top_frz
    exact hd v _ l h F2 H3 Q _ S4.fh S4.top q3 fun u dv F5 H5 q5 m => k _ _ _ _ q5 (m.stt S4.pop), w.push⟩, w.push⟩, w⟩
abbrev sliceL : RDS := fun a lo hi Q => ∃ xs, (a = .lst xs ∨ a = .ro xs) ∧ Q (.own (.lst (cutD xs lo hi)))
theorem sld_list {K : PySem.W.Frag} : SlD K (rSlL K) sliceL := fun x a lo hi F H Q Qd s r ⟨xs, e, q⟩ k => by
  rcases e with rfl | rfl
  · cases r with | lst s1 r1 => exact ⟨_, _, rfl, s.seq (SqL.of s1), fun p n => k _ _ _ _ q (made_list n s (r1.cut lo hi))⟩
  · cases r with | ro s1 r1 => exact ⟨_, _, rfl, s.seq s1, fun p n => k _ _ _ _ q (made_list n s (r1.cut lo hi))⟩
theorem pd_slice {e : Expr} {lo hi : Option Expr} {t : TD} {tl th : TDO} {p2 pos : Pos} (he : PE X e (LE X.K c W t)) (hl : PO X lo (LO X.K c W tl)) (hh : PO X hi (LO X.K c W th)) : PE X (.Subscript e (.Slice lo hi none p2) pos) (LE X.K c W (sliceD sliceL t tl th)) := pd_sliceR sl_list sld_list he hl hh
/-! ### dicts by tuples of ints and texts -/
/-- a tuple of ints and texts as a key -/
def keyD : List Key → D := fun ks => .tup (ks.map fun | .inl i => .int i | .inr x => .str x)
theorem keyD_V {K : PySem.W.Frag} {F H : Hp} {v : V} {ks : List Key} (s : Same F H) (r : Rep K F v (keyD ks)) : ∃ b, v = .ref b ∧ H b = some (.tup (ks.map kV)) := by
  unfold keyD at r
  cases r with
  | tup s1 r1 =>
    refine ⟨_, rfl, ?_⟩
    rw [s _ _ s1]
    congr 2
    exact repL_map (f := kV) (fun {F v a} r => by cases a <;> (cases r; rfl)) r1
def valD (kvs : List (List Key × D)) (k : List Key) : Option D := (kvs.find? fun p => decide (p.1 = k)).map (·.2)
def putT (kvs : List (List Key × D)) (k : List Key) (d : D) : List (List Key × D) := if (valD kvs k).isSome then kvs.map (fun p => if p.1 = k then (p.1, d) else p) else kvs ++ [(k, d)]
end
end DL

set_option Elab.async false
set_option linter.all false
set_option maxRecDepth 100000
/-! readings step by step -/
namespace DR
open PySem PySem.Spec PyProof.Rows L2 DL
section
variable {δ : DSt} {Q : DK} {E : XD} {D : EndsD}
theorem seq {t u : TDS} (h : t { D with nx := u D } δ) : seqD t u D δ := h
theorem next (h : D.nx δ) : nextD D δ := h
theorem brk (h : D.bk δ) : breakD D δ := h
theorem cont (h : D.ct δ) : contD D δ := h
theorem drop {t : TD} (h : t δ (fun _ δ1 => D.nx δ1) D.ex) : dropD t D δ := h
theorem ret {t : TD} (h : t δ D.rt D.ex) : retD t D δ := h
theorem retN (h : D.rt (.d .non) δ) : retND D δ := h
theorem set {i : Nat} {t : TD} (h : t δ (fun x δ1 => D.nx (δ1.set i (some (.d x.toD)))) D.ex) : setD i t D δ := h
theorem setO {i : Nat} {t : TD} (h : t δ (fun x δ1 => D.nx (δ1.set i (some x))) D.ex) : DL.setO i t D δ := h
theorem setLc {i : Nat} {o : Bool} {t : TD} (h : t δ (fun x δ1 => D.nx (δ1.set i (some (asD o x)))) D.ex) : setLcD i o t D δ := h
theorem par {i j : Nat} {oi oj : Bool} {t : TDK} (h : t δ (fun xs δ1 => ∃ x y, xs = [x, y] ∧ D.nx ((δ1.set j (some (asD oj y))).set i (some (asD oi x)))) D.ex) : parD i j oi oj t D δ := h
theorem unpack {t : TD} {g : TDG} (h : t δ (fun x δ1 => g x.toD δ1 D.nx) D.ex) : unpackD t g D δ := h
theorem nilk {Q : List DV → DSt → Prop} (h : Q [] δ) : nilK δ Q E := h
theorem consk {t : TD} {r : TDK} {Q : List DV → DSt → Prop} (h : t δ (fun x δ1 => r δ1 (fun xs δ2 => Q (x :: xs) δ2) E) E) : consK t r δ Q E := h
theorem if_ {c : TDT} {t u : TDS} (h : c δ (fun b δ1 => if b = true then t D δ1 else u D δ1) D.ex) : ifD c t u D δ := h
theorem ifE {c : TDT} {t u : TD} (h : c δ (fun b δ1 => if b = true then t δ1 Q E else u δ1 Q E) E) : ifExpD c t u δ Q E := h
theorem not {t : TDT} {Q : Bool → DSt → Prop} (h : t δ (fun b δ1 => Q (!b) δ1) E) : notD t δ Q E := h
theorem and {t u : TDT} {Q : Bool → DSt → Prop} (h : t δ (fun b δ1 => if b = true then u δ1 Q E else Q false δ1) E) : andD t u δ Q E := h
theorem or {t u : TDT} {Q : Bool → DSt → Prop} (h : t δ (fun b δ1 => if b = true then Q true δ1 else u δ1 Q E) E) : orD t u δ Q E := h
theorem tv {t : TD} {Q : Bool → DSt → Prop} (h : t δ (fun x δ1 => ∃ b, x = .d (.bl b) ∧ Q b δ1) E) : tvD t δ Q E := h
theorem boolE {t : TD} {k : Bool → DSt → Prop} (h : t δ (fun x δ1 => ∃ b, x = .d (.bl b) ∧ k b δ1) E) : DL.boolE t k E δ := h
theorem notv {t : TD} (h : t δ (fun x δ1 => ∃ b, x = .d (.bl b) ∧ Q (.d (.bl (!b))) δ1) E) : notV t δ Q E := h
theorem andv {t u : TD} (h : t δ (fun x δ1 => ∃ b, x = .d (.bl b) ∧ if b = true then u δ1 Q E else Q (.d (.bl false)) δ1) E) : andV t u δ Q E := h
theorem orv {t u : TD} (h : t δ (fun x δ1 => ∃ b, x = .d (.bl b) ∧ if b = true then Q (.d (.bl true)) δ1 else u δ1 Q E) E) : orV t u δ Q E := h
theorem const {d : DL.D} (h : Q (.d d) δ) : constD d δ Q E := h
theorem var {i : Nat} {x : DL.D} (e : δ[i]? = some (some (.d x))) (h : Q (.d x) δ) : varD i δ Q E := ⟨x, e, h⟩
theorem fvar {i : Nat} {x : DV} (e : δ[i]? = some (some x)) (h : Q (.d x.toD) (δ.set i (some (.d x.toD)))) : fvarD i δ Q E := ⟨x, e, h⟩
theorem mvar {i : Nat} {x : DV} (e : δ[i]? = some (some x)) (h : Q x (δ.set i none)) : mvarD i δ Q E := ⟨x, e, h⟩
theorem op {rd : RD2} {ta tb : TD} (h : ta δ (fun x δ1 => tb δ1 (fun y δ2 => rd x.toD y.toD fun z => Q z δ2) E) E) : opD rd ta tb δ Q E := h
theorem chain {rd rd' : RD2} {ta tb tc : TD} (h : ta δ (fun x δ1 => tb δ1 (fun y δ2 => rd x.toD y.toD fun z => ∃ k, z = .d (.bl k) ∧ if k = true then tc δ2 (fun w δ3 => rd' y.toD w.toD fun z' => Q z' δ3) E else Q (.d (.bl false)) δ2) E) E) : chainD rd rd' ta tb tc δ Q E := h
theorem neg {t : TD} (h : t δ (fun x δ1 => ∃ i, x.toD = .int i ∧ Q (.d (.int (-i))) δ1) E) : negD t δ Q E := h
theorem nil {Q : List AV → DSt → Prop} (h : Q [] δ) : nilD δ Q E := h
theorem cons {t : TD} {r : TDA} {Q : List AV → DSt → Prop} (h : t δ (fun x δ1 => r δ1 (fun as δ2 => Q (.d x.toD :: as) δ2) E) E) : consD t r δ Q E := h
theorem consO {i : Nat} {r : TDA} {Q : List AV → DSt → Prop} (h : r δ (fun as δ2 => Q (.o i :: as) δ2) E) : DL.consO i r δ Q E := h
theorem call {sd : SpD} {ta : TDA} (h : ta δ (fun as δ1 => ∃ xs, argsOf δ1 as xs ∧ (slotsOf as).Nodup ∧ sd xs (fun r os => Q r (putBack δ1 (slotsOf as) os)) (fun x os => E x (putBack δ1 (slotsOf as) os))) E) : callD sd ta δ Q E := h
theorem built {rd : RDN} {ta : TDA} (h : ta δ (fun as δ1 => ∃ ds, as = ds.map .d ∧ rd ds fun z => Q z δ1) E) : builtD rd ta δ Q E := h
theorem builtO {i : Nat} {rd : RDNs} {xs : List DL.D} (e : δ[i]? = some (some (.own (.lst xs)))) (h : rd [.lst xs] fun z => NoStr z ∧ Q (.d z) δ) : DL.builtO i rd δ Q E := ⟨xs, e, h⟩
theorem tup {ta : TDA} (h : ta δ (fun as δ1 => ∃ ds, as = ds.map .d ∧ ds.length ≤ sizeLine ∧ Q (.d (.tup ds)) δ1) E) : tupD ta δ Q E := h
theorem lst {ta : TDA} (h : ta δ (fun as δ1 => ∃ ds, as = ds.map .d ∧ ds.length ≤ sizeLine ∧ Q (.own (.lst ds)) δ1) E) : lstD ta δ Q E := h
theorem ixo {i : Nat} {t : TD} {o : OC} (e : δ[i]? = some (some (.own o))) (h : t δ (fun k δ1 => ∃ xs j d, δ1[i]? = some (some (.own (.lst xs))) ∧ k.toD = .int j ∧ atI xs j = some d ∧ Q (.d d) δ1) E) : ixO i t δ Q E := ⟨o, e, h⟩
theorem setItem {j : Nat} {ti te : TD} {o : OC} (e : δ[j]? = some (some (.own o))) (h : te δ (fun y δ1 => ti δ1 (fun k δ2 => ∃ xs n m, δ2[j]? = some (some (.own (.lst xs))) ∧ k.toD = .int n ∧ ixN xs.length n = some m ∧ D.nx (δ2.set j (some (.own (.lst (xs.set m y.toD)))))) D.ex) D.ex) : DL.setItem j ti te D δ := ⟨o, e, h⟩
theorem meth {j : Nat} {rd : RDM} {ta : TDA} {x0 : List DL.D} (e : δ[j]? = some (some (.own (.lst x0)))) (h : ta δ (fun as δ1 => ∃ ds xs, as = ds.map .d ∧ δ1[j]? = some (some (.own (.lst xs))) ∧ rd xs ds fun z zs => Q (.d z) (δ1.set j (some (.own (.lst zs))))) E) : methO j rd ta δ Q E := ⟨x0, e, h⟩
theorem fld {C : Addr} {f : Str} {t : TD} (h : t δ (fun o δ1 => ∃ fs d, o.toD = .obj C fs ∧ fs.lookup f = some d ∧ Q (.d d) δ1) E) : fldD C f t δ Q E := h
theorem fldo {C : Addr} {i : Nat} {f : Str} {fs : List (Str × DL.D)} {d : DL.D} (e : δ[i]? = some (some (.own (.ins C fs)))) (l : fs.lookup f = some d) (h : Q (.d d) δ) : fldO C i f δ Q E := ⟨fs, d, e, l, h⟩
theorem fldset {C : Addr} {i : Nat} {f : Str} {t : TD} (h : t δ (fun y δ1 => ∃ fs, δ1[i]? = some (some (.own (.ins C fs))) ∧ fs.length < 1000 ∧ D.nx (δ1.set i (some (.own (.ins C (putD f y.toD fs)))))) D.ex) : fldSet C i f t D δ := h
theorem make {C : Addr} {sd : SpD} {ta : TDA} (h : ta δ (fun as δ1 => ∃ xs, argsOf δ1 as xs ∧ (slotsOf as).Nodup ∧ sd (.own (.ins C []) :: xs)
  (fun r os => r = .d .non ∧ ∃ fs os', os = .ins C fs :: os' ∧ Q (.d (.obj C fs)) (putBack δ1 (slotsOf as) os')) (fun x os => ∃ o os', os = o :: os' ∧ E x (putBack δ1 (slotsOf as) os'))) E) : makeD C sd ta δ Q E := h
theorem methd {C : Addr} {m : Str} {sd : SpD} {to : TD} {ta : TDA} (h : to δ (fun o δ1 => ∃ fs, o.toD = .obj C fs ∧ fs.lookup m = none ∧ ta δ1 (fun as δ2 => ∃ xs, argsOf δ2 as xs ∧ (slotsOf as).Nodup ∧
  sd (.d (.obj C fs) :: xs) (fun r os => Q r (putBack δ2 (slotsOf as) os)) (fun x os => E x (putBack δ2 (slotsOf as) os))) E) E) : methD C m sd to ta δ Q E := h
theorem for_ {ti : TDI} {g : TDG} {tb : TDS} (h : ti δ (fun xs δ1 => forD g tb D xs δ1) D.ex) : forS ti g tb D δ := h
theorem comp {ti : TDI} {g : TDG} {tt : TDT} {te : TD} {vs : List Nat} (h : ti δ (fun xs δ1 => lcD g tt te vs xs [] (wipeD δ1 vs) fun acc δ2 => Q (.own (.lst acc)) δ2) E) : compD ti g tt te vs δ Q E := h
theorem yes {Q : Bool → DSt → Prop} (h : Q true δ) : yesD δ Q E := h
theorem nameg {i : Nat} {x : DL.D} {Q : DSt → Prop} (h : Q (δ.set i (some (.d x)))) : nameG i x δ Q := h
theorem tupg {is : List Nat} {xs : List DL.D} {Q : DSt → Prop} (h : namesG is xs δ Q) : tupG is (.tup xs) δ Q := ⟨xs, rfl, h⟩
theorem namesC {i : Nat} {is : List Nat} {x : DL.D} {xs : List DL.D} {Q : DSt → Prop} (h : namesG is xs (δ.set i (some (.d x))) Q) : namesG (i :: is) (x :: xs) δ Q := h
theorem namesN {Q : DSt → Prop} (h : Q δ) : namesG [] [] δ Q := h
theorem listi {t : TD} {Q : List DL.D → DSt → Prop} (h : t δ (fun x δ1 => ∃ xs, (x.toD = .lst xs ∨ x.toD = .ro xs) ∧ Q xs δ1) E) : listI t δ Q E := h
theorem tupi {t : TD} {Q : List DL.D → DSt → Prop} (h : t δ (fun x δ1 => ∃ xs, x.toD = .tup xs ∧ Q xs δ1) E) : tupI t δ Q E := h
theorem stri {t : TD} {Q : List DL.D → DSt → Prop} (h : t δ (fun x δ1 => ∃ z, x.toD = .str z ∧ Q (z.cps.toList.map fun ch => .str ⟨#[ch]⟩) δ1) E) : strI t δ Q E := h
theorem range1 {ta : TDA} {Q : List DL.D → DSt → Prop} (h : ta δ (fun as δ1 => ∃ j, as = [.d (.int j)] ∧ -(2 ^ 62) ≤ j ∧ j < 2 ^ 62 ∧ Q (upto 0 j.toNat) δ1) E) : range1I ta δ Q E := h
theorem raise {B : Addr} {ns : List Str} {ta : TDA} (h : ta δ (fun as δ1 => ∃ ds, as = ds.map .d ∧ ds.length = ns.length ∧ ds.length ≤ 1000 ∧ D.ex ⟨B, some (ns.zip ds)⟩ δ1) D.ex) : raiseD B ns ta D δ := h
theorem iteT {A B : Prop} (h : A) : if true = true then A else B := h
theorem iteF {A B : Prop} (h : B) : if false = true then A else B := h
theorem nit {A B : Prop} (h : B) : if (!true) = true then A else B := h
theorem nif {A B : Prop} (h : A) : if (!false) = true then A else B := h
/-- an open test -/
theorem split {p : Prop} [Decidable p] {A B : Prop} (h1 : p → A) (h2 : ¬ p → B) : if decide p = true then A else B := by
  by_cases h : p
  · rw [if_pos (decide_eq_true h)]; exact h1 h
  · rw [if_neg (by rw [decide_eq_false h]; exact Bool.false_ne_true)]; exact h2 h
theorem splitN {p : Prop} [Decidable p] {A B : Prop} (h1 : p → B) (h2 : ¬ p → A) : if (!decide p) = true then A else B := by
  by_cases h : p
  · rw [if_neg (by rw [decide_eq_true h]; exact Bool.false_ne_true)]; exact h1 h
  · rw [if_pos (by rw [decide_eq_false h]; rfl)]; exact h2 h
theorem splitB {b : Bool} {A B : Prop} (h1 : b = true → A) (h2 : b = false → B) : if b = true then A else B := by
  cases b
  · exact h2 rfl
  · exact h1 rfl
end
theorem args_n {δ : DSt} : argsOf δ [] [] := rfl
theorem args_d {δ : DSt} {x : DL.D} {r : List AV} {t : List DV} (h : argsOf δ r t) : argsOf δ (.d x :: r) (.d x :: t) := ⟨t, rfl, h⟩
theorem args_o {δ : DSt} {i : Nat} {o : OC} {r : List AV} {t : List DV} (e : δ[i]? = some (some (.own o))) (h : argsOf δ r t) : argsOf δ (.o i :: r) (.own o :: t) := ⟨o, t, e, rfl, h⟩
theorem nost_i {i : Int} : NoStr (.int i) := fun _ e => nomatch e
theorem nost_b {b : Bool} : NoStr (.bl b) := fun _ e => nomatch e
theorem nost_n : NoStr .non := fun _ e => nomatch e
theorem start {t : TDS} {D : EndsD} {δ δ' : DSt} (e : δ = δ') (h : t D δ') : t D δ := by rw [e]; exact h
theorem tk_n {δ : DSt} : takeB δ [] [] := rfl
theorem tk_c {δ : DSt} {i : Nat} {is : List Nat} {o : OC} {os : List OC} (e : δ[i]? = some (some (.own o))) (h : takeB δ is os) : takeB δ (i :: is) (o :: os) := ⟨o, os, rfl, e, h⟩
theorem rt {sl : List Nat} {Qd : DV → List OC → Prop} {Ed : Ex → List OC → Prop} {x : DV} {δ : DSt} {os : List OC} (t : takeB δ sl os) (q : Qd x os) : (endsD sl Qd Ed).rt x δ := ⟨os, t, q⟩
theorem nx {sl : List Nat} {Qd : DV → List OC → Prop} {Ed : Ex → List OC → Prop} {δ : DSt} {os : List OC} (t : takeB δ sl os) (q : Qd (.d .non) os) : (endsD sl Qd Ed).nx δ := ⟨os, t, q⟩
theorem ex {sl : List Nat} {Qd : DV → List OC → Prop} {Ed : Ex → List OC → Prop} {x : Ex} {δ : DSt} {os : List OC} (t : takeB δ sl os) (q : Ed x os) : (endsD sl Qd Ed).ex x δ := ⟨os, t, q⟩
theorem map1 {a : DL.D} : [AV.d a] = [a].map .d := rfl
end DR
namespace DL
open PySem PySem.Spec PyProof.Rows L2
/-- a def as its callers know it -/
structure DefD (P : Program) (w : World) (K : PySem.W.Frag) (mg : Str → Option Value) (base : Heap) (x : Str) (k : Nat) (ps : List Str) (sd : SpD) where
  f : Addr
  fd : FuncData
  ok : FnOk P w K mg base (L2.CX P w) k f fd ps (spOf K sd)
  mg : mg x = some (.ref f)
  kp : PySem.W.keepIn K (.ref f) = true
  b : Binds K fd ps []
end DL

set_option Elab.async false
set_option linter.all false
set_option maxRecDepth 100000
namespace DL
open PySem PySem.Spec PyProof.Rows L2
/-! ### dicts by tuples -/
section
variable {K : PySem.W.Frag} {F H : Hp}
theorem repT_get {k : List Key} : ∀ {vs : List (List Key × V)} {ds : List (List Key × D)}, RepT K F vs ds → (valD ds k = none → valV vs k = none) ∧ ∀ d, valD ds k = some d → ∃ v, valV vs k = some v ∧ Rep K F v d
  | _, _, .nil => ⟨fun _ => rfl, fun d h => nomatch h⟩
  | _, _, .cons (n := n) (v := v) (d := d) (vs := vs) (ds := ds) h t => by
    by_cases e : n = k
    · have e1 : valD ((n, d) :: ds) k = some d := by simp [valD, List.find?_cons, e]
      rw [e1, valV_pos (p := (n, v)) e]
      exact ⟨(fun z => nomatch z), fun d z => by cases z; exact ⟨v, rfl, h⟩⟩
    · have e1 : valD ((n, d) :: ds) k = valD ds k := by simp [valD, List.find?_cons, e]
      rw [e1, valV_neg (p := (n, v)) e]
      exact repT_get t
theorem repT_some {k : List Key} {vs : List (List Key × V)} {ds : List (List Key × D)} (r : RepT K F vs ds) : (valV vs k).isSome = (valD ds k).isSome := by
  cases q : valD ds k with
  | none => rw [(repT_get r).1 q]; rfl
  | some d => obtain ⟨v, e, _⟩ := (repT_get r).2 d q; rw [e]; rfl
theorem repT_len : ∀ {vs : List (List Key × V)} {ds : List (List Key × D)}, RepT K F vs ds → vs.length = ds.length
  | _, _, .nil => rfl
  | _, _, .cons _ t => congrArg (· + 1) (repT_len t)
theorem repT_map {k : List Key} {v : V} {d : D} (h : Rep K F v d) : ∀ {vs : List (List Key × V)} {ds : List (List Key × D)}, RepT K F vs ds → RepT K F (vs.map fun kv => if kv.1 = k then (kv.1, v) else kv) (ds.map fun p => if p.1 = k then (p.1, d) else p)
  | _, _, .nil => .nil
  | _, _, .cons (n := n) a t => by
    rw [List.map_cons, List.map_cons]
    by_cases e : n = k
    · rw [if_pos (show (n, _).1 = k from e), if_pos (show (n, _).1 = k from e)]; exact .cons h (repT_map h t)
    · rw [if_neg (show ¬ (n, _).1 = k from e), if_neg (show ¬ (n, _).1 = k from e)]; exact .cons a (repT_map h t)
theorem repT_app {k : List Key} {v : V} {d : D} (h : Rep K F v d) : ∀ {vs : List (List Key × V)} {ds : List (List Key × D)}, RepT K F vs ds → RepT K F (vs ++ [(k, v)]) (ds ++ [(k, d)])
  | _, _, .nil => .cons h .nil
  | _, _, .cons a t => .cons a (repT_app h t)
theorem repT_put {k : List Key} {v : V} {d : D} {vs : List (List Key × V)} {ds : List (List Key × D)} (h : Rep K F v d) (r : RepT K F vs ds) : RepT K F (putK vs k v) (putT ds k d) := by
  unfold putK putT
  rw [valV_any, repT_some r]
  cases (valD ds k).isSome
  · rw [if_neg Bool.false_ne_true, if_neg Bool.false_ne_true]; exact repT_app h r
  · rw [if_pos rfl, if_pos rfl]; exact repT_map h r
end
section
variable {X : Cx} {c : Fc} {W : WX}
def newTD : TD := fun δ Q _ => Q (.own (.dT [])) δ
theorem pd_newT {e : Expr} (h : PE X e tDNewT) : PE X e (LE X.K c W newTD) := PE_imp h fun σ H Q ⟨δ, tmp, Qd, Ed, ⟨F, ow, S⟩, q, k, w⟩ => fun p n =>
  k _ _ _ _ q ⟨F, _, S.pushNew (o := .dT []) n ⟨[], upd_same, .nil⟩⟩
def getO (j : Nat) (ti : TD) : TD := fun δ Q E => ∃ o, δ[j]? = some (some (.own o)) ∧ ti δ (fun k δ1 => ∃ kvs ks d, δ1[j]? = some (some (.own (.dT kvs))) ∧ k.toD = keyD ks ∧ valD kvs ks = some d ∧ Q (.d d) δ1) E
theorem pd_getO {j : Nat} {x : Str} {i : Expr} {ti : TD} {pos px : Pos} (h : ∀ {to ti : TE}, PE X (.Name x px) to → PE X i ti → PE X (.Subscript (.Name x px) i pos) (tDGet to ti)) (hv : PE X (.Name x px) (tVar j)) (hi : PE X i (LE X.K c W ti)) : PE X (.Subscript (.Name x px) i pos) (LE X.K c W (getO j ti)) :=
  PE_imp (h hv hi) fun σ H Q ⟨δ, tmp, Qd, Ed, ⟨F, ow, S⟩, ⟨o, eo, q⟩, k, w⟩ => by
    obtain ⟨v, e1, p, rfl, _⟩ := S.sl _ _ eo
    refine ⟨_, e1, δ, tmp, _, Ed, ⟨F, ow, S⟩, q, fun u y δ1 H1 ⟨kvs, ks, d, ej, ek, ed, q1⟩ ⟨F1, ow1, S1⟩ => ?_, w⟩
    obtain ⟨F2, S2, _⟩ := S1.top_frz
    obtain ⟨v', e2, p', rfl, _, _, _, vs, ep, r⟩ := S2.sl _ _ ej
    rw [e1] at e2
    cases e2
    rw [ek] at S2
    obtain ⟨b, rfl, eb⟩ := keyD_V S2.fh S2.top
    obtain ⟨z, ez, rz⟩ := (repT_get r).2 d ed
    refine ⟨p, z, rfl, ?_, k _ _ _ _ q1 ⟨F2, ow1, S2.pop.push rz⟩⟩
    rw [← ez]
    exact DGet.t ep eb
def getF (to ti : TD) : TD := fun δ Q E => to δ (fun o δ1 => ti δ1 (fun k δ2 => ∃ kvs ks d, o.toD = .dT kvs ∧ k.toD = keyD ks ∧ valD kvs ks = some d ∧ Q (.d d) δ2) E) E
theorem pd_get {o i : Expr} {to ti : TD} {pos : Pos} (h : ∀ {to ti : TE}, PE X o to → PE X i ti → PE X (.Subscript o i pos) (tDGet to ti)) (ho : PE X o (LE X.K c W to)) (hi : PE X i (LE X.K c W ti)) : PE X (.Subscript o i pos) (LE X.K c W (getF to ti)) :=
  PE_imp (h ho hi) fun σ H Q ⟨δ, tmp, Qd, Ed, S, q, k, w⟩ => ⟨δ, tmp, _, Ed, S, q, fun u x δ1 H1 q1 S1 => ⟨δ1, _, _, Ed, S1, q1, fun t y δ2 H2 ⟨kvs, ks, d, eo, ek, ed, q2⟩ ⟨F, ow, S2⟩ => by
    obtain ⟨F3, S3, _⟩ := S2.top_frz2
    rw [eo, ek] at S3
    obtain ⟨b, rfl, eb⟩ := keyD_V S3.fh S3.top
    have r0 := S3.pop.top
    cases r0 with
    | dT s r =>
      obtain ⟨z, ez, rz⟩ := (repT_get r).2 d ed
      exact ⟨_, z, rfl, .inr ⟨_, ks, b, rd_mono S3.fh s, rfl, eb, ez.symm⟩, k _ _ _ _ q2 ⟨F3, ow, S3.pop.pop.push rz⟩⟩, w.push⟩, w⟩
def putS (j : Nat) (te ti : TD) : TDS := fun D δ => te δ (fun v δ1 => (∃ o, δ1[j]? = some (some (.own o))) ∧ ti δ1 (fun k δ2 => ∃ kvs ks, δ2[j]? = some (some (.own (.dT kvs))) ∧ k.toD = keyD ks ∧ kvs.length < sizeLine ∧ D.nx (δ2.set j (some (.own (.dT (putT kvs ks v.toD)))))) D.ex) D.ex
theorem psd_put {j : Nat} {x : Str} {i e : Expr} {te ti : TD} {A : Prop} {pos pos' px : Pos} (hu : A) (h : ∀ {to ti tv : TE}, PE X (.Name x px) to → PE X i ti → PE X e tv → PS X (.Assign [.Subscript (.Name x px) i pos'] e pos) (sDPut to ti tv)) (hv : PE X (.Name x px) (tVar j)) (he : PE X e (LE X.K c W te)) (hi : PE X i (LE X.K c W ti)) :
    PS X (.Assign [.Subscript (.Name x px) i pos'] e pos) (LS X.K c W (putS j te ti)) :=
  PS_imp (h hv hi he) fun D σ H ⟨δ, tmp, Dd, S, q, k, kr, kb, kc, w⟩ => ⟨δ, tmp, _, _, S, q, fun u y δ1 H1 ⟨⟨o, eo⟩, q1⟩ ⟨F1, ow1, S1⟩ => by
    obtain ⟨F2, S2, _⟩ := S1.top_frz
    obtain ⟨v, e1, p, rfl, _⟩ := S2.sl _ _ eo
    refine ⟨_, e1, δ1, _, _, _, ⟨F2, ow1, S2⟩, q1, fun t z δ2 H2 ⟨kvs, ks, ej, ek, hl, q2⟩ ⟨F3, ow3, S3⟩ => ?_, w.push⟩
    obtain ⟨F4, S4, _⟩ := S3.top_frz
    rw [ek] at S4
    obtain ⟨b, rfl, eb⟩ := keyD_V S4.fh S4.top
    obtain ⟨v', e2, p', rfl, _, _, _, vs, ep, r⟩ := S4.sl _ _ ej
    rw [e1] at e2
    cases e2
    refine ⟨p, _, rfl, DPut.t ep eb (by rw [repT_len r]; exact hl), k _ _ _ q2 ⟨F4, ow3, ?_⟩⟩
    exact (S4.pop.write (o' := .dT (putT kvs ks y.toD)) ej e1 ⟨_, upd_same, repT_put S4.pop.top r⟩).pop, w⟩
def inO (j : Nat) (n : Bool) (ti : TD) : TD := fun δ Q E => ti δ (fun k δ1 => ∃ kvs ks, δ1[j]? = some (some (.own (.dT kvs))) ∧ k.toD = keyD ks ∧ Q (.d (.bl (n != (valD kvs ks).isSome))) δ1) E
theorem dget_o {K : PySem.W.Frag} {F H : Hp} {p b : Addr} {ks : List Key} {vs : List (List Key × V)} {ds : List (List Key × D)} (r : RepT K F vs ds) (ep : Rd H p (.dT vs)) (eb : H b = some (.tup (ks.map kV))) : ∃ o, DGet H p (.ref b) o ∧ o.isSome = (valD ds ks).isSome :=
  ⟨_, .inr ⟨vs, ks, b, ep, rfl, eb, rfl⟩, repT_some r⟩
theorem inO_run {K : PySem.W.Frag} {j : Nat} {n : Bool} {ti : TD} {f : Bool → Bool} (hf : ∀ b, f b = (n != b)) : ∀ σ H Q, LE K c W (inO j n ti) σ H Q → (LE K c W ti) σ H fun y H1 => tVar j σ H1 fun x H2 => ∃ a o, x = .ref a ∧ DGet H2 a y o ∧ Q (.bl (f o.isSome)) H2 := fun σ H Q ⟨δ, tmp, Qd, Ed, S, q, k, w⟩ =>
  ⟨δ, tmp, _, Ed, S, q, fun u y δ1 H1 ⟨kvs, ks, ej, ek, q1⟩ ⟨F1, ow1, S1⟩ => by
    obtain ⟨F2, S2, _⟩ := S1.top_frz
    rw [ek] at S2
    obtain ⟨b, rfl, eb⟩ := keyD_V S2.fh S2.top
    obtain ⟨v', e2, p', rfl, _, _, _, vs, ep, r⟩ := S2.sl _ _ ej
    obtain ⟨o, g, eo⟩ := dget_o r (.inl ep) eb
    exact ⟨_, e2, p', o, rfl, g, k _ _ _ _ (by rw [hf, eo]; exact q1) ⟨F2, ow1, S2.pop.push (.bl _)⟩⟩, w⟩
theorem pd_inO_t {j : Nat} {x : Str} {i : Expr} {ti : TD} {pos px : Pos} (h : ∀ {ty td : TE}, PE X i ty → PE X (.Name x px) td → PE X (.Compare i [.In] [.Name x px] pos) (tDIn ty td)) (hi : PE X i (LE X.K c W ti)) (hv : PE X (.Name x px) (tVar j)) : PE X (.Compare i [.In] [.Name x px] pos) (LE X.K c W (inO j false ti)) :=
  PE_imp (h hi hv) (inO_run (f := id) (fun b => by cases b <;> rfl))
theorem ptd_inO_t {j : Nat} {x : Str} {i : Expr} {ti : TD} {pos px : Pos} (h : ∀ {ty td : TE}, PE X i ty → PE X (.Name x px) td → PT X (.Compare i [.In] [.Name x px] pos) (tB (tDIn ty td))) (hi : PE X i (LE X.K c W ti)) (hv : PE X (.Name x px) (tVar j)) : PT X (.Compare i [.In] [.Name x px] pos) (LT X.K c W (tvD (inO j false ti))) :=
  PT_imp (h hi hv) fun σ H Q ⟨δ, tmp, Qd, Ed, S, q, k, w⟩ => inO_run (j := j) (n := false) (ti := ti) (f := id) (fun b => by cases b <;> rfl) σ H (fun v H1 => ∃ b, v = .bl b ∧ Q b H1) ⟨δ, tmp, (fun x δ1 => ∃ b, x = .d (.bl b) ∧ Qd b δ1), Ed, S, q, fun v x δ' H' ⟨b, e, q'⟩ ⟨F, ow, S'⟩ => by
    subst e
    cases S'.top
    exact ⟨b, rfl, k _ _ _ q' ⟨F, ow, S'.pop⟩⟩, w⟩
theorem ptd_inO_f {j : Nat} {x : Str} {i : Expr} {ti : TD} {pos px : Pos} (h : ∀ {ty td : TE}, PE X i ty → PE X (.Name x px) td → PT X (.Compare i [.NotIn] [.Name x px] pos) (tB (tDNotIn ty td))) (hi : PE X i (LE X.K c W ti)) (hv : PE X (.Name x px) (tVar j)) : PT X (.Compare i [.NotIn] [.Name x px] pos) (LT X.K c W (tvD (inO j true ti))) :=
  PT_imp (h hi hv) fun σ H Q ⟨δ, tmp, Qd, Ed, S, q, k, w⟩ => inO_run (j := j) (n := true) (ti := ti) (f := fun b => !b) (fun b => by cases b <;> rfl) σ H (fun v H1 => ∃ b, v = .bl b ∧ Q b H1) ⟨δ, tmp, (fun x δ1 => ∃ b, x = .d (.bl b) ∧ Qd b δ1), Ed, S, q, fun v x δ' H' ⟨b, e, q'⟩ ⟨F, ow, S'⟩ => by
    subst e
    cases S'.top
    exact ⟨b, rfl, k _ _ _ q' ⟨F, ow, S'.pop⟩⟩, w⟩
/-- a dict that changes no more -/
def inF (n : Bool) (ti td : TD) : TD := fun δ Q E => ti δ (fun k δ1 => td δ1 (fun o δ2 => ∃ kvs ks, o.toD = .dT kvs ∧ k.toD = keyD ks ∧ Q (.d (.bl (n != (valD kvs ks).isSome))) δ2) E) E
theorem inF_run {K : PySem.W.Frag} {n : Bool} {ti td : TD} {f : Bool → Bool} (hf : ∀ b, f b = (n != b)) : ∀ σ H Q, LE K c W (inF n ti td) σ H Q → (LE K c W ti) σ H fun y H1 => (LE K c W td) σ H1 fun x H2 => ∃ a o, x = .ref a ∧ DGet H2 a y o ∧ Q (.bl (f o.isSome)) H2 := fun σ H Q ⟨δ, tmp, Qd, Ed, S, q, k, w⟩ =>
  ⟨δ, tmp, _, Ed, S, q, fun u y δ1 H1 q1 S1 => ⟨δ1, _, _, Ed, S1, q1, fun t o δ2 H2 ⟨kvs, ks, eo, ek, q2⟩ ⟨F2, ow2, S2⟩ => by
    obtain ⟨F3, S3, _⟩ := S2.top_frz2
    rw [eo, ek] at S3
    obtain ⟨b, rfl, eb⟩ := keyD_V S3.fh S3.pop.top
    have r0 := S3.top
    cases r0 with
    | dT s r =>
      obtain ⟨ov, g, eov⟩ := dget_o r (rd_mono S3.fh s) eb
      exact ⟨_, ov, rfl, g, k _ _ _ _ (by rw [hf, eov]; exact q2) ⟨F3, ow2, S3.pop.pop.push (.bl _)⟩⟩, w.push⟩, w⟩
theorem ptd_inF_t {i o : Expr} {ti td : TD} {pos : Pos} (h : ∀ {ty td : TE}, PE X i ty → PE X o td → PT X (.Compare i [.In] [o] pos) (tB (tDIn ty td))) (hi : PE X i (LE X.K c W ti)) (ho : PE X o (LE X.K c W td)) : PT X (.Compare i [.In] [o] pos) (LT X.K c W (tvD (inF false ti td))) :=
  PT_imp (h hi ho) fun σ H Q ⟨δ, tmp, Qd, Ed, S, q, k, w⟩ => inF_run (n := false) (ti := ti) (td := td) (f := id) (fun b => by cases b <;> rfl) σ H (fun v H1 => ∃ b, v = .bl b ∧ Q b H1) ⟨δ, tmp, (fun x δ1 => ∃ b, x = .d (.bl b) ∧ Qd b δ1), Ed, S, q, fun v x δ' H' ⟨b, e, q'⟩ ⟨F, ow, S'⟩ => by
    subst e
    cases S'.top
    exact ⟨b, rfl, k _ _ _ q' ⟨F, ow, S'.pop⟩⟩, w⟩
theorem ptd_inF_f {i o : Expr} {ti td : TD} {pos : Pos} (h : ∀ {ty td : TE}, PE X i ty → PE X o td → PT X (.Compare i [.NotIn] [o] pos) (tB (tDNotIn ty td))) (hi : PE X i (LE X.K c W ti)) (ho : PE X o (LE X.K c W td)) : PT X (.Compare i [.NotIn] [o] pos) (LT X.K c W (tvD (inF true ti td))) :=
  PT_imp (h hi ho) fun σ H Q ⟨δ, tmp, Qd, Ed, S, q, k, w⟩ => inF_run (n := true) (ti := ti) (td := td) (f := fun b => !b) (fun b => by cases b <;> rfl) σ H (fun v H1 => ∃ b, v = .bl b ∧ Q b H1) ⟨δ, tmp, (fun x δ1 => ∃ b, x = .d (.bl b) ∧ Qd b δ1), Ed, S, q, fun v x δ' H' ⟨b, e, q'⟩ ⟨F, ow, S'⟩ => by
    subst e
    cases S'.top
    exact ⟨b, rfl, k _ _ _ q' ⟨F, ow, S'.pop⟩⟩, w⟩
/-! ### a property that raises nothing -/
def propD (C : Addr) (sd : SpD) (to : TD) : TD := fun δ Q E => to δ (fun o δ1 => ∃ fs, o.toD = .obj C fs ∧ sd [.d (.obj C fs)] (fun r os => Q r δ1) (fun _ _ => False)) E
theorem pd_prop {e : Expr} {C p f0 : Addr} {f : Str} {k : Nat} {fd : FuncData} {ps : List Str} {sd : SpD} {to : TD} {pos : Pos} (he : PE X e (LE X.K c W to)) (cl : Cls X.K C) (hp : PropOf X.K C f p f0) (G : FnOk X.prog X.w X.K X.mg X.base (L2.CX X.prog X.w) k f0 fd ps (spOf X.K sd)) (hr : Room (k + 1) X.A) (hb : Binds X.K fd ps [])
    (hab : attributeBase e f X.env (eval e X.env) = eval e X.env) : PE X (.Attribute e f pos) (LE X.K c W (propD C sd to)) :=
  PE_imp (pe_prop he cl hp G hr hb .nil (passL (X := X.nox)) hab) fun σ H Q ⟨δ, tmp, Qd, Ed, S, q, k, w⟩ => ⟨δ, tmp, _, Ed, S, q, fun v o δ1 H1 ⟨fs, eo, q1⟩ ⟨F, ow, S1⟩ => by
    obtain ⟨F2, S2, _⟩ := S1.top_frz
    rw [eo] at S2
    have r0 := S2.top
    cases r0 with
    | @obj a _ dx vs _ s h =>
      exact ⟨a, dx, vs, rfl, S2.fh _ _ s, F2, _, [], _, _, S2.fh, .d S2.top .nil, q1, fun v r os F' H' q P rr => k v r _ H' q (ret_push (is := []) S2.pop rfl (fun k i p e => by simp at e) List.nodup_nil P rr), fun _ _ _ _ _ _ z _ _ => z.elim⟩, w⟩
end
end DL

set_option Elab.async false
set_option linter.all false
set_option maxRecDepth 100000
/-! loops by what stays true -/
namespace DR
open PySem PySem.Spec PyProof.Rows L2 DL
theorem cut {t u : TDS} {D : EndsD} {δ : DSt} (I : DSt → Prop) (h1 : ∀ N : DSt → Prop, (∀ δ, I δ → N δ) → t { D with nx := N } δ) (h2 : ∀ δ, I δ → u D δ) : seqD t u D δ := h1 _ h2
theorem icut {ti : TDI} {E : XD} {δ : DSt} {Q : List DL.D → DSt → Prop} (I : List DL.D → DSt → Prop) (h1 : ∀ N : List DL.D → DSt → Prop, (∀ xs δ, I xs δ → N xs δ) → ti δ N E) (h2 : ∀ xs δ, I xs δ → Q xs δ) : ti δ Q E := h1 _ h2
theorem vcut {t : TD} {E : XD} {δ : DSt} {Q : DK} (I : DV → DSt → Prop) (h1 : ∀ N : DK, (∀ x δ, I x δ → N x δ) → t δ N E) (h2 : ∀ x δ, I x δ → Q x δ) : t δ Q E := h1 _ h2
theorem bcut {t : TDT} {E : XD} {δ : DSt} {Q : Bool → DSt → Prop} (I : Bool → DSt → Prop) (h1 : ∀ N : Bool → DSt → Prop, (∀ x δ, I x δ → N x δ) → t δ N E) (h2 : ∀ x δ, I x δ → Q x δ) : t δ Q E := h1 _ h2
theorem for_inv {g : TDG} {tb : TDS} {D : EndsD} {xs : List DL.D} {δ : DSt} (I : Nat → DSt → Prop) (h0 : I 0 δ)
    (hs : ∀ i x δ (N : DSt → Prop), xs[i]? = some x → I i δ → (∀ δ', I (i + 1) δ' → N δ') → g x δ (fun δ1 => tb { D with nx := N, ct := N, bk := D.nx } δ1))
    (hn : ∀ δ, I xs.length δ → D.nx δ) : forD g tb D xs δ := by
  have go : ∀ (m i : Nat) δ, i + m = xs.length → I i δ → forD g tb D (xs.drop i) δ := fun m => by
    induction m with
    | zero =>
      intro i δ e h
      have e : i = xs.length := e
      subst e
      rw [List.drop_length]
      exact hn δ h
    | succ m ih =>
      intro i δ e h
      have hl : i < xs.length := by omega
      rw [List.drop_eq_getElem_cons hl]
      exact hs i _ δ _ (List.getElem?_eq_getElem hl) h fun δ' h' => ih (i + 1) δ' (by omega) h'
  exact go xs.length 0 δ (Nat.zero_add _) h0
theorem lc_inv {g : TDG} {tt : TDT} {te : TD} {vs : List Nat} {xs : List DL.D} {δ : DSt} {Q : List DL.D → DSt → Prop} (J : Nat → List DL.D → DSt → Prop) (h0 : J 0 [] δ)
    (hs : ∀ i x acc δ (N : List DL.D → DSt → Prop), xs[i]? = some x → J i acc δ → (∀ acc' δ', J (i + 1) acc' δ' → N acc' δ') →
      g x δ (fun δ1 => tt δ1 (fun b δ2 => if b = true then te δ2 (fun y δ3 => acc.length < sizeLine ∧ N (acc ++ [y.toD]) (wipeD δ3 vs)) noX else N acc (wipeD δ2 vs)) noX))
    (hn : ∀ acc δ, J xs.length acc δ → Q acc δ) : lcD g tt te vs xs [] δ Q := by
  have go : ∀ (m i : Nat) acc δ, i + m = xs.length → J i acc δ → lcD g tt te vs (xs.drop i) acc δ Q := fun m => by
    induction m with
    | zero =>
      intro i acc δ e h
      have e : i = xs.length := e
      subst e
      rw [List.drop_length]
      exact hn acc δ h
    | succ m ih =>
      intro i acc δ e h
      have hl : i < xs.length := by omega
      rw [List.drop_eq_getElem_cons hl]
      exact hs i _ acc δ (fun a d => lcD g tt te vs (xs.drop (i + 1)) a d Q) (List.getElem?_eq_getElem hl) h fun acc' δ' h' => ih (i + 1) acc' δ' (by omega) h'
  exact go xs.length 0 [] δ (Nat.zero_add _) h0
/-- each item gives one or none, and nothing else changes -/
theorem lc_filter {g : TDG} {tt : TDT} {te : TD} {vs : List Nat} {xs : List DL.D} {δ : DSt} {Q : List DL.D → DSt → Prop} (f : DL.D → Option DL.D)
    (hs : ∀ x (acc : List DL.D) (N : List DL.D → DSt → Prop), x ∈ xs → acc.length < xs.length → N (acc ++ (f x).toList) δ →
      g x δ (fun δ1 => tt δ1 (fun b δ2 => if b = true then te δ2 (fun y δ3 => acc.length < sizeLine ∧ N (acc ++ [y.toD]) (wipeD δ3 vs)) noX else N acc (wipeD δ2 vs)) noX))
    (hn : Q (xs.filterMap f) δ) : lcD g tt te vs xs [] δ Q := by
  refine lc_inv (fun i acc δ' => δ' = δ ∧ acc = (xs.take i).filterMap f) ⟨rfl, by rw [List.take_zero]; rfl⟩ (fun i x acc δ' N hx ⟨e1, e2⟩ k => ?_) fun acc δ' ⟨e1, e2⟩ => by subst e1; rw [e2, List.take_length]; exact hn
  subst e1
  have hl : i < xs.length := by
    rcases Nat.lt_or_ge i xs.length with h | h
    · exact h
    · rw [List.getElem?_eq_none h] at hx; cases hx
  have hle : acc.length ≤ i := by
    rw [e2]
    exact Nat.le_trans (List.length_filterMap_le ..) (by rw [List.length_take]; exact Nat.min_le_left ..)
  refine hs x acc N (List.mem_of_getElem? hx) (by omega) (k _ _ ⟨rfl, ?_⟩)
  rw [List.take_succ, hx, List.filterMap_append, ← e2]
  show _ = acc ++ [x].filterMap f
  cases e : f x <;> simp [e]
theorem lc_map {g : TDG} {tt : TDT} {te : TD} {vs : List Nat} {xs : List DL.D} {δ : DSt} {Q : List DL.D → DSt → Prop} (f : DL.D → DL.D)
    (hs : ∀ x (acc : List DL.D) (N : List DL.D → DSt → Prop), x ∈ xs → acc.length < xs.length → N (acc ++ [f x]) δ →
      g x δ (fun δ1 => tt δ1 (fun b δ2 => if b = true then te δ2 (fun y δ3 => acc.length < sizeLine ∧ N (acc ++ [y.toD]) (wipeD δ3 vs)) noX else N acc (wipeD δ2 vs)) noX))
    (hn : Q (xs.map f) δ) : lcD g tt te vs xs [] δ Q :=
  lc_filter (fun x => some (f x)) (fun x acc N hx hl n => hs x acc N hx hl n) (by rw [List.filterMap_eq_map']; exact hn)
end DR

set_option Elab.async false
set_option linter.all false
set_option maxRecDepth 100000
namespace DR
open PySem PySem.Spec PyProof.Rows L2 DL
theorem map_at {α β : Type} {f : α → β} {l : List α} {i : Nat} {y : β} (h : (l.map f)[i]? = some y) : ∃ x, l[i]? = some x ∧ y = f x := by
  rw [List.getElem?_map] at h
  cases q : l[i]? with
  | none => rw [q] at h; cases h
  | some x => rw [q] at h; cases h; exact ⟨x, rfl, rfl⟩
theorem at_lt {α : Type} {l : List α} {i : Nat} {x : α} (h : l[i]? = some x) : i < l.length := by
  rcases Nat.lt_or_ge i l.length with h1 | h1
  · exact h1
  · rw [List.getElem?_eq_none h1] at h; cases h
/-- the items stand for others -/
theorem lc_filterM {α : Type} {g : TDG} {tt : TDT} {te : TD} {vs : List Nat} {l : List α} {r : α → DL.D} {δ : DSt} {Q : List DL.D → DSt → Prop} (f : α → Option DL.D)
    (hs : ∀ x (acc : List DL.D) (N : List DL.D → DSt → Prop), x ∈ l → acc.length < l.length → N (acc ++ (f x).toList) δ →
      g (r x) δ (fun δ1 => tt δ1 (fun b δ2 => if b = true then te δ2 (fun y δ3 => acc.length < sizeLine ∧ N (acc ++ [y.toD]) (wipeD δ3 vs)) noX else N acc (wipeD δ2 vs)) noX))
    (hn : Q (l.filterMap f) δ) : lcD g tt te vs (l.map r) [] δ Q := by
  refine lc_inv (fun i acc δ' => δ' = δ ∧ acc = (l.take i).filterMap f) ⟨rfl, by rw [List.take_zero]; rfl⟩ (fun i x acc δ' N hx ⟨e1, e2⟩ k => ?_) fun acc δ' ⟨e1, e2⟩ => by subst e1; rw [e2, List.length_map, List.take_length]; exact hn
  subst e1
  obtain ⟨x, hy, rfl⟩ := map_at hx
  have hl := at_lt hy
  have hle : acc.length ≤ i := by
    rw [e2]
    exact Nat.le_trans (List.length_filterMap_le ..) (by rw [List.length_take]; exact Nat.min_le_left ..)
  refine hs x acc N (List.mem_of_getElem? hy) (by omega) (k _ _ ⟨rfl, ?_⟩)
  rw [List.take_succ, hy, List.filterMap_append, ← e2]
  show _ = acc ++ [x].filterMap f
  cases e : f x <;> simp [e]
theorem lc_mapM {α : Type} {g : TDG} {tt : TDT} {te : TD} {vs : List Nat} {l : List α} {r : α → DL.D} {δ : DSt} {Q : List DL.D → DSt → Prop} (f : α → DL.D)
    (hs : ∀ x (acc : List DL.D) (N : List DL.D → DSt → Prop), x ∈ l → acc.length < l.length → N (acc ++ [f x]) δ →
      g (r x) δ (fun δ1 => tt δ1 (fun b δ2 => if b = true then te δ2 (fun y δ3 => acc.length < sizeLine ∧ N (acc ++ [y.toD]) (wipeD δ3 vs)) noX else N acc (wipeD δ2 vs)) noX))
    (hn : Q (l.map f) δ) : lcD g tt te vs (l.map r) [] δ Q :=
  lc_filterM (fun x => some (f x)) (fun x acc N hx hl n => hs x acc N hx hl n) (by rw [List.filterMap_eq_map']; exact hn)
end DR
namespace DR
open PySem PySem.Spec PyProof.Rows L2 DL
section
variable {δ : DSt} {Q : DK} {E : XD} {D : EndsD}
theorem newT (h : Q (.own (.dT [])) δ) : newTD δ Q E := h
theorem getO {j : Nat} {ti : TD} {o : OC} (e : δ[j]? = some (some (.own o))) (h : ti δ (fun k δ1 => ∃ kvs ks d, δ1[j]? = some (some (.own (.dT kvs))) ∧ k.toD = keyD ks ∧ valD kvs ks = some d ∧ Q (.d d) δ1) E) : DL.getO j ti δ Q E := ⟨o, e, h⟩
theorem getF {to ti : TD} (h : to δ (fun o δ1 => ti δ1 (fun k δ2 => ∃ kvs ks d, o.toD = .dT kvs ∧ k.toD = keyD ks ∧ valD kvs ks = some d ∧ Q (.d d) δ2) E) E) : DL.getF to ti δ Q E := h
theorem put {j : Nat} {te ti : TD} (h : te δ (fun v δ1 => (∃ o, δ1[j]? = some (some (.own o))) ∧ ti δ1 (fun k δ2 => ∃ kvs ks, δ2[j]? = some (some (.own (.dT kvs))) ∧ k.toD = keyD ks ∧ kvs.length < sizeLine ∧ D.nx (δ2.set j (some (.own (.dT (putT kvs ks v.toD)))))) D.ex) D.ex) : putS j te ti D δ := h
theorem inO {j : Nat} {n : Bool} {ti : TD} (h : ti δ (fun k δ1 => ∃ kvs ks, δ1[j]? = some (some (.own (.dT kvs))) ∧ k.toD = keyD ks ∧ Q (.d (.bl (n != (valD kvs ks).isSome))) δ1) E) : DL.inO j n ti δ Q E := h
theorem inF {n : Bool} {ti td : TD} (h : ti δ (fun k δ1 => td δ1 (fun o δ2 => ∃ kvs ks, o.toD = .dT kvs ∧ k.toD = keyD ks ∧ Q (.d (.bl (n != (valD kvs ks).isSome))) δ2) E) E) : DL.inF n ti td δ Q E := h
theorem prop {C : Addr} {sd : SpD} {to : TD} (h : to δ (fun o δ1 => ∃ fs, o.toD = .obj C fs ∧ sd [.d (.obj C fs)] (fun r os => Q r δ1) (fun _ _ => False)) E) : propD C sd to δ Q E := h
theorem key2 {a b : Str} : (DV.d (DL.D.tup [.str a, .str b])).toD = keyD [.inr a, .inr b] := rfl
theorem key1 {a b : Str} : (DV.d (DL.D.tup [(DV.d (.str a)).toD, (DV.d (.str b)).toD])).toD = keyD [.inr a, .inr b] := rfl
end
end DR
/-! own objects lent to a def that doesn't change them, for an answer without addresses -/
namespace DL
open PySem PySem.Spec PyProof.Rows L2
def Pln : D → Prop
  | .non => True
  | .bl _ => True
  | .int _ => True
  | .str _ => True
  | .ty _ => True
  | .adr _ => True
  | _ => False
def PlnV : DV → Prop
  | .d x => Pln x
  | .own (.lst ds) => ∀ d ∈ ds, Pln d
  | .own (.ins _ fs) => ∀ p ∈ fs, Pln p.2
  | .own (.dT kvs) => ∀ p ∈ kvs, Pln p.2
  | .own (.dK kvs) => ∀ p ∈ kvs, Pln p.2
section
variable {K : PySem.W.Frag} {F F' F'' H H' : Hp}
theorem Pln.rep {v : V} {d : D} (p : Pln d) (r : Rep K F v d) : Rep K F' v d := by
  cases r with
  | non => exact .non
  | bl b => exact .bl b
  | int i => exact .int i
  | str k => exact .str k
  | ty n => exact .ty n
  | adr a => exact .adr a
  | _ => exact p.elim
theorem pln_l : ∀ {vs : List V} {ds : List D}, (∀ d ∈ ds, Pln d) → RepL K F vs ds → RepL K F' vs ds
  | _, _, _, .nil => .nil
  | _, _, h, .cons r t => .cons ((h _ List.mem_cons_self).rep r) (pln_l (fun d hd => h d (List.mem_cons_of_mem _ hd)) t)
theorem pln_f : ∀ {vs : List (Str × V)} {ds : List (Str × D)}, (∀ p ∈ ds, Pln p.2) → RepF K F vs ds → RepF K F' vs ds
  | _, _, _, .nil => .nil
  | _, _, h, .cons r t => .cons ((h _ List.mem_cons_self).rep r) (pln_f (fun d hd => h d (List.mem_cons_of_mem _ hd)) t)
theorem pln_t : ∀ {vs : List (List Key × V)} {ds : List (List Key × D)}, (∀ p ∈ ds, Pln p.2) → RepT K F vs ds → RepT K F' vs ds
  | _, _, _, .nil => .nil
  | _, _, h, .cons r t => .cons ((h _ List.mem_cons_self).rep r) (pln_t (fun d hd => h d (List.mem_cons_of_mem _ hd)) t)
theorem pln_k : ∀ {vs : List (Key × V)} {ds : List (Key × D)}, (∀ p ∈ ds, Pln p.2) → RepK K F vs ds → RepK K F' vs ds
  | _, _, _, .nil => .nil
  | _, _, h, .cons r t => .cons ((h _ List.mem_cons_self).rep r) (pln_k (fun d hd => h d (List.mem_cons_of_mem _ hd)) t)
theorem PlnV.own {p : Addr} {o : OC} (h : PlnV (.own o)) (r : OwnRep K F H p o) : OwnRep K F' H p o := by
  cases o with
  | lst ds => obtain ⟨vs, e, r⟩ := r; exact ⟨vs, e, pln_l h r⟩
  | ins C fs => obtain ⟨dx, vs, e, r⟩ := r; exact ⟨dx, vs, e, pln_f h r⟩
  | dT kvs => obtain ⟨vs, e, r⟩ := r; exact ⟨vs, e, pln_t h r⟩
  | dK kvs => obtain ⟨vs, e, r⟩ := r; exact ⟨vs, e, pln_k h r⟩
/-- the own objects among the arguments -/
def ownsIn : List DV → List OC
  | [] => []
  | .d _ :: r => ownsIn r
  | .own o :: r => o :: ownsIn r
def frzV (x : DV) : DV := .d x.toD
theorem lend : ∀ {vs : List V} {as : List DV} {ps : List Addr}, Same F H → ArgsRep K F H vs as ps →
    ∃ F1, Same F F1 ∧ Same F1 H ∧ ArgsRep K F1 H vs (as.map frzV) [] ∧ (∀ a, F1 a ≠ none → F a ≠ none ∨ a ∈ ps) ∧ OwnsRep K F H ps (ownsIn as) ∧ (∀ p ∈ ps, F p = none)
  | _, _, _, s, .nil => ⟨F, Same.refl F, s, .nil, fun a h => .inl h, .nil, fun p h => nomatch h⟩
  | _, _, _, s, .d h t => by
    obtain ⟨F1, s1, s2, a, n, o, q⟩ := lend s t
    exact ⟨F1, s1, s2, .d (h.mono s1) a, n, o, q⟩
  | _, _, _, s, .own (p := p) (o := o) n h np t => by
    obtain ⟨F1, s1, s2, a, n1, os, q⟩ := lend s t
    have hp : F1 p = none := by
      cases z : F1 p with
      | none => rfl
      | some u => exact ((n1 p (by rw [z]; exact fun y => nomatch y)).elim (fun y => y n) np).elim
    obtain ⟨u, eu, r⟩ := (h.mono (H' := H) s1 rfl).freeze hp s2
    have sF : Same F1 (upd F1 p u) := same_upd (Same.refl F1) hp
    refine ⟨upd F1 p u, s1.trans sF, same_upd1 s2 eu, .d r ?_, fun b hb => ?_, .cons n h os, fun b hb => (List.mem_cons.mp hb).elim (fun e => by rw [e]; exact n) (q b)⟩
    · exact go sF a
    · by_cases e : b = p
      · exact .inr (by rw [e]; exact List.mem_cons_self)
      · rw [upd_ne e] at hb
        exact (n1 b hb).imp id (List.mem_cons_of_mem _)
where
  go {F1 F2 : Hp} (s : Same F1 F2) : ∀ {vs : List V} {as : List DV} {ps : List Addr}, ArgsRep K F1 H vs (as.map frzV) ps → ArgsRep K F2 H vs (as.map frzV) ps
    | _, [], _, .nil => .nil
    | _, _ :: _, _, .d h t => .d (h.mono s) (go s t)
/-- a promise for lent arguments -/
def lent (sd : SpD) : SpD := fun as Q _ => sd (as.map frzV) (fun r os => os = [] ∧ PlnV r ∧ Q r (ownsIn as)) (fun _ _ => False)
theorem spOf_lent {sd : SpD} (vs : List V) (H : Hp) (Q : VK) (E : XK) (h : spOf K (lent sd) vs H Q E) : spOf K sd vs H Q E := by
  obtain ⟨F, as, ps, Qd, Ed, s, ar, hs, kq, ke⟩ := h
  obtain ⟨F1, s1, s2, a, n1, os, np⟩ := lend s ar
  refine ⟨F1, as.map frzV, [], _, _, s2, a, hs, fun v x os' F' H' ⟨_, hp, hq⟩ P r => ?_, fun _ _ _ _ _ _ z _ _ => z.elim⟩
  have sFF' := s1.trans P.f
  let F'' : Hp := fun b => if b ∈ ps then none else F' b
  have f1 : ∀ b, b ∈ ps → F'' b = none := fun b h => if_pos h
  have f2 : ∀ b, b ∉ ps → F'' b = F' b := fun b h => if_neg h
  have sF : Same F F'' := fun b u e => by
    have hb : b ∉ ps := fun z => by rw [np b z] at e; cases e
    rw [f2 b hb]
    exact sFF' _ _ e
  refine kq v x _ F'' H' hq ⟨sF, fun b u e => ?_, fun b u e _ => P.fr b u e (fun z => nomatch z), P.up, fun b hb => ?_, ?_⟩ ?_
  · by_cases hb : b ∈ ps
    · rw [f1 b hb] at e; cases e
    · rw [f2 b hb] at e; exact P.fh _ _ e
  · by_cases hb' : b ∈ ps
    · rw [f1 b hb'] at hb; exact (hb rfl).elim
    · rw [f2 b hb'] at hb
      exact (P.nw b hb).elim (fun z => (n1 b z).elim .inl fun y => (hb' y).elim) .inr
  · have go : ∀ {qs : List Addr} {us : List OC}, (∀ q ∈ qs, q ∈ ps) → OwnsRep K F H qs us → OwnsRep K F'' H' qs us := fun {qs us} hq o => by
      induction o with
      | nil => exact .nil
      | @cons q o qs us n h t ih =>
        refine .cons (f1 _ (hq _ List.mem_cons_self)) (h.mono sF ?_) (ih fun q h => hq q (List.mem_cons_of_mem _ h))
        cases e : H q with
        | none => exact absurd e h.has
        | some u => exact P.fr q u e (fun z => nomatch z)
    exact go (fun _ h => h) os
  · cases x with
    | d y => exact hp.rep r
    | own o =>
      obtain ⟨p, e, n, b, q⟩ := r
      refine ⟨p, e, n, ?_, hp.own q⟩
      by_cases hb : p ∈ ps
      · exact f1 p hb
      · rw [f2 p hb]; exact b
theorem FnOk.lent {P : Program} {w : World} {mg : Str → Option Value} {base : Heap} {k : Nat} {f : Addr} {fd : FuncData} {ps : List Str} {sd : SpD} (G : FnOk P w K mg base (L2.CX P w) k f fd ps (spOf K sd)) : FnOk P w K mg base (L2.CX P w) k f fd ps (spOf K (lent sd)) := G.imp spOf_lent
end
end DL

set_option Elab.async false
set_option linter.all false
set_option maxRecDepth 100000
namespace DL
open PySem PySem.Spec PyProof.Rows L2
section
variable {X : Cx} {c : Fc} {W : WX}
/-! ### a list or a tuple -/
def seqO (t : TD) : TDI := fun δ Q E => listI t δ Q E ∨ tupI t δ Q E
theorem pid_seq {tg e : Expr} {t : TD} (he : PE X e (LE X.K c W t)) : PI X tg e (LI X.K c W (seqO t)) :=
  ⟨fun pins s σ H R I ⟨δ, tmp, Qd, Ed, S, q, k, w⟩ => q.elim (fun q => (pid_list he).run pins s σ H R I ⟨δ, tmp, Qd, Ed, S, q, k, w⟩) fun q => (pid_tup he).run pins s σ H R I ⟨δ, tmp, Qd, Ed, S, q, k, w⟩⟩
/-! ### zip -/
theorem zip_at {xs ys : List D} {i : Nat} {d : D} (h : (zipL xs ys)[i]? = some d) : ∃ x y, xs[i]? = some x ∧ ys[i]? = some y ∧ d = .tup [x, y] := by
  unfold zipL at h
  rw [List.getElem?_map] at h
  cases q : (xs.zip ys)[i]? with
  | none => rw [q] at h; cases h
  | some p =>
    rw [q] at h
    cases h
    obtain ⟨a, b⟩ := p
    obtain ⟨h1, h2⟩ := List.getElem?_zip_eq_some.mp q
    exact ⟨a, b, h1, h2, rfl⟩
theorem zip_len {xs ys : List D} : (zipL xs ys).length = min xs.length ys.length := by simp [zipL]
theorem row_l {K : PySem.W.Frag} {F H : Hp} {p : Addr} {x : D} {xs : List D} (e : x = .lst xs ∨ x = .ro xs) (s : Same F H) (r : Rep K F (.ref p) x) : ∃ vs, SqL K H p vs ∧ RepL K F vs xs := by
  rcases e with rfl | rfl
  · cases r with | lst s1 r1 => exact ⟨_, s.seq (SqL.of s1), r1⟩
  · cases r with | ro s1 r1 => exact ⟨_, s.seq s1, r1⟩
theorem row_t {K : PySem.W.Frag} {F H : Hp} {p : Addr} {xs : List D} (s : Same F H) (r : Rep K F (.ref p) (.tup xs)) : ∃ vs, SqT K H p vs ∧ RepL K F vs xs := by
  cases r with | tup s1 r1 => exact ⟨_, SqT.of (s _ _ s1), r1⟩
theorem gho2 {K : PySem.W.Frag} {F : Hp} {v : V} {a b : V} {x y : D} (r : Rep K F v (.gho [a, b] [x, y])) : Rep K F a x ∧ Rep K F b y := by
  cases r with
  | gho h =>
    cases h with
    | cons h1 t =>
      cases t with
      | cons h2 t => exact ⟨h1, h2⟩
theorem serve_zip {K : PySem.W.Frag} {a b : Addr} {x y : D} {xs ys : List D} (ex : x = .lst xs ∨ x = .ro xs) (ey : y = .lst ys ∨ y = .ro ys) : Serve K (Itz K a b) (.int 0) (.gho [.ref a, .ref b] [x, y]) (zipL xs ys) := by
  refine ⟨fun i F H s r hi => ?_, fun i F H s r hi => ?_, fun i F H z H' s r q d hd => ?_⟩
  · obtain ⟨vs, h1, l1⟩ := row_l ex s (gho2 r).1
    obtain ⟨us, h2, l2⟩ := row_l ey s (gho2 r).2
    rw [zip_len] at hi
    obtain ⟨v, e1, _⟩ := l1.get (List.getElem?_eq_getElem (show i < xs.length by omega))
    obtain ⟨u, e2, _⟩ := l2.get (List.getElem?_eq_getElem (show i < ys.length by omega))
    exact ⟨vs, us, v, u, h1, h2, e1, e2⟩
  · obtain ⟨vs, h1, l1⟩ := row_l ex s (gho2 r).1
    obtain ⟨us, h2, l2⟩ := row_l ey s (gho2 r).2
    rw [zip_len] at hi
    exact ⟨vs, us, h1, h2, by rw [l1.len, l2.len]; omega⟩
  · obtain ⟨vs, h1, l1⟩ := row_l ex s (gho2 r).1
    obtain ⟨us, h2, l2⟩ := row_l ey s (gho2 r).2
    obtain ⟨T, v, u, rfl, nT, rfl, y1, y2⟩ := q
    obtain ⟨d1, d2, g1, g2, rfl⟩ := zip_at hd
    obtain ⟨v', e1, r1⟩ := l1.get g1
    obtain ⟨u', e2, r2⟩ := l2.get g2
    rw [y1 vs h1] at e1
    rw [y2 us h2] at e2
    cases e1; cases e2
    have sF : Same F (upd F T (.tup [v, u])) := same_upd (Same.refl F) (s.free nT)
    exact ⟨_, Ext.new s nT, .tup upd_same (.cons (r1.mono sF) (.cons (r2.mono sF) .nil))⟩
theorem serve_zipT {K : PySem.W.Frag} {a b : Addr} {xs ys : List D} : Serve K (RZ.ItzT K a b) (.int 0) (.gho [.ref a, .ref b] [.tup xs, .tup ys]) (zipL xs ys) := by
  refine ⟨fun i F H s r hi => ?_, fun i F H s r hi => ?_, fun i F H z H' s r q d hd => ?_⟩
  · obtain ⟨vs, h1, l1⟩ := row_t s (gho2 r).1
    obtain ⟨us, h2, l2⟩ := row_t s (gho2 r).2
    rw [zip_len] at hi
    obtain ⟨v, e1, _⟩ := l1.get (List.getElem?_eq_getElem (show i < xs.length by omega))
    obtain ⟨u, e2, _⟩ := l2.get (List.getElem?_eq_getElem (show i < ys.length by omega))
    exact ⟨vs, us, v, u, h1, h2, e1, e2⟩
  · obtain ⟨vs, h1, l1⟩ := row_t s (gho2 r).1
    obtain ⟨us, h2, l2⟩ := row_t s (gho2 r).2
    rw [zip_len] at hi
    exact ⟨vs, us, h1, h2, by rw [l1.len, l2.len]; omega⟩
  · obtain ⟨vs, h1, l1⟩ := row_t s (gho2 r).1
    obtain ⟨us, h2, l2⟩ := row_t s (gho2 r).2
    obtain ⟨T, v, u, rfl, nT, rfl, y1, y2⟩ := q
    obtain ⟨d1, d2, g1, g2, rfl⟩ := zip_at hd
    obtain ⟨v', e1, r1⟩ := l1.get g1
    obtain ⟨u', e2, r2⟩ := l2.get g2
    rw [y1 vs h1] at e1
    rw [y2 us h2] at e2
    cases e1; cases e2
    have sF : Same F (upd F T (.tup [v, u])) := same_upd (Same.refl F) (s.free nT)
    exact ⟨_, Ext.new s nT, .tup upd_same (.cons (r1.mono sF) (.cons (r2.mono sF) .nil))⟩
def zipI (ta : TDA) : TDI := fun δ Q E => ta δ (fun as δ1 => ∃ x y xs ys, as = [.d x, .d y] ∧ (((x = .lst xs ∨ x = .ro xs) ∧ (y = .lst ys ∨ y = .ro ys)) ∨ (x = .tup xs ∧ y = .tup ys)) ∧ Q (zipL xs ys) δ1) E
theorem pid_zip {e e2 : Expr} {ta : TDA} {p pos tpos : Pos} {elts : List Expr} {kk : Nat} (hg : Gl X "zip") (hm : X.mg "zip" = none) (ha : PA X [e, e2] (LA X.K c W ta))
    (hs : starEach [e, e2] X.env = (false, eval e X.env) :: starEach [e2] X.env := by rfl) (hpl : (backTo pos (starEach [e2] X.env)).any (·.1) = false := by rfl) : PI X (.Tuple elts kk tpos) (.Call (.Name "zip" p) [e, e2] [] pos) (LI X.K c W (zipI ta)) :=
  PI_imp (RZ.pi_zipA hg hm ha hs hpl) fun σ H R ⟨δ, tmp, Qd, Ed, S, q, k, w⟩ => ⟨δ, tmp, _, _, S, q, fun vs as δ' F ow H' ⟨x, y, xs, ys, e, hx, q'⟩ S' ra => by
    subst e
    cases ra with
    | d h t =>
      cases t with
      | d h2 t =>
        cases t
        rcases hx with ⟨hx, hy⟩ | ⟨rfl, rfl⟩
        · have h0 := h
          have h20 := h2
          obtain ⟨a, us, rfl, g1, _⟩ := h.row (xs := xs) (by rcases hx with e | e <;> rw [e] <;> rfl)
          obtain ⟨b, ws, rfl, g2, _⟩ := h2.row (xs := ys) (by rcases hy with e | e <;> rw [e] <;> rfl)
          obtain ⟨us, g1, _⟩ := row_l hx S'.fh h
          obtain ⟨ws, g2, _⟩ := row_l hy S'.fh h2
          exact ⟨a, b, us, ws, rfl, .inl ⟨g1, g2, k _ _ _ _ _ _ q' (serve_zip hx hy) ⟨F, ow, S'.push (.gho (.cons h0 (.cons h20 .nil)))⟩⟩⟩
        · have h0 := h
          have h20 := h2
          cases h with
          | tup s1 r1 =>
            cases h2 with
            | tup s2 r2 => exact ⟨_, _, _, _, rfl, .inr ⟨SqT.of (S'.fh _ _ s1), SqT.of (S'.fh _ _ s2), k _ _ _ _ _ _ q' serve_zipT ⟨F, ow, S'.push (.gho (.cons h0 (.cons h20 .nil)))⟩⟩⟩, w⟩
end
end DL
namespace DR
open PySem PySem.Spec PyProof.Rows L2 DL
section
variable {δ : DSt} {E : XD} {Q : List DL.D → DSt → Prop}
theorem zipi {ta : TDA} (h : ta δ (fun as δ1 => ∃ x y xs ys, as = [.d x, .d y] ∧ (((x = .lst xs ∨ x = .ro xs) ∧ (y = .lst ys ∨ y = .ro ys)) ∨ (x = .tup xs ∧ y = .tup ys)) ∧ Q (zipL xs ys) δ1) E) : zipI ta δ Q E := h
theorem seqL {t : TD} (h : listI t δ Q E) : seqO t δ Q E := .inl h
theorem seqT {t : TD} (h : tupI t δ Q E) : seqO t δ Q E := .inr h
end
end DR

set_option Elab.async false
set_option linter.all false
set_option maxRecDepth 100000
namespace DL
open PySem PySem.Spec PyProof.Rows L2
section
variable {K : PySem.W.Frag} {F : Hp}
abbrev isiTS (K : PySem.W.Frag) : RDNs := fun ds Q => ∃ x cs t us b, ds = [x, .tup cs] ∧ ClsDs cs us ∧ TyD K x t ∧ PySem.W.kitAny K t us = some b ∧ Q (.bl b)
theorem cn_isiT : CallNs K (rIsiT K) (isiTS K) := fun xs ds F H Q Qd s r ⟨x, cs, t, us, b, e, hc, ht, hk, q⟩ k => by
  subst e
  cases r with
  | cons r t =>
    cases t with
    | cons r2 t =>
      cases t
      cases r2 with
      | tup s1 r1 => exact ⟨_, _, _, _, us, b, rfl, s _ _ s1, clsDs_v r1 hc, tyD_x s r ht, hk, k _ _ q rfl⟩
end
end DL

set_option Elab.async false
set_option linter.all false
set_option maxRecDepth 100000
namespace DL
open PySem PySem.Spec PyProof.Rows L2
theorem repL_str {K : PySem.W.Frag} {F : Hp} {l : List Str} {vs : List V} (r : RepL K F vs (l.map .str)) : vs = l.map V.str := repL_map (fun r => by cases r; rfl) r
section
variable {X : Cx} {c : Fc} {W : WX}
/-- len(set(t)) of a tuple of texts -/
def lenSetD (t : TD) : TD := fun δ Q E => t δ (fun x δ1 => ∃ xs : List Str, x.toD = .tup (xs.map .str) ∧ xs.length ≤ 1000 ∧ Q (.d (.int ((RS.uniq xs).length : Nat))) δ1) E
theorem pd_lenSet {e a : Expr} {t : TD} (h : ∀ {ta : TE}, PE X a ta → PE X e (RS.tLenSetT X.K ta)) (ha : PE X a (LE X.K c W t)) : PE X e (LE X.K c W (lenSetD t)) :=
  PE_imp (h ha) fun σ H Q ⟨δ, tmp, Qd, Ed, S, q, k, w⟩ => ⟨δ, tmp, _, Ed, S, q, fun v x δ1 H1 ⟨xs, ex, hl, q1⟩ ⟨F, ow, S1⟩ => by
    obtain ⟨F2, S2, _⟩ := S1.top_frz
    rw [ex] at S2
    have r := S2.top
    cases r with
    | tup s1 r1 =>
      have e := repL_str r1
      subst e
      exact ⟨_, xs, rfl, SqT.of (S2.fh _ _ s1), hl, k _ _ _ _ q1 ⟨F2, ow, S2.pop.push (.int _)⟩⟩, w⟩
end
end DL
namespace DR
open PySem PySem.Spec PyProof.Rows L2 DL
theorem lenSet {δ : DSt} {Q : DK} {E : XD} {t : TD} (h : t δ (fun x δ1 => ∃ xs : List Str, x.toD = .tup (xs.map .str) ∧ xs.length ≤ 1000 ∧ Q (.d (.int ((RS.uniq xs).length : Nat))) δ1) E) : lenSetD t δ Q E := h
end DR

set_option Elab.async false
set_option linter.all false
set_option maxRecDepth 100000
namespace DL
open PySem PySem.Spec PyProof.Rows L2
def lc2D (g : TDG) (tt : TDT) (ti1 : TDI) (g1 : TDG) (tt1 : TDT) (te : TD) (vs vs1 : List Nat) : List DL.D → List DL.D → DSt → (List DL.D → DSt → Prop) → Prop
  | [], acc, δ, Q => Q acc δ
  | x :: xs, acc, δ, Q => g x δ fun δ1 => tt δ1 (fun b δ2 => if b = true then ti1 δ2 (fun ys δ3 => lcD g1 tt1 te vs1 ys acc (wipeD δ3 vs1) fun acc' δ4 => lc2D g tt ti1 g1 tt1 te vs vs1 xs acc' (wipeD δ4 vs) Q) noX else lc2D g tt ti1 g1 tt1 te vs vs1 xs acc (wipeD δ2 vs) Q) noX
def comp2D (ti : TDI) (g : TDG) (tt : TDT) (ti1 : TDI) (g1 : TDG) (tt1 : TDT) (te : TD) (vs vs1 : List Nat) : TD := fun δ Q E => ti δ (fun xs δ1 => lc2D g tt ti1 g1 tt1 te vs vs1 xs [] (wipeD δ1 vs) fun acc δ2 => Q (.own (.lst acc)) δ2) E
section
variable {K : PySem.W.Frag} {c : Fc} {W : WX} {F H : Hp} {ow : Addr → Option Hold} {δ : DSt} {tmp : List (V × DV)} {σ : L2.St} {p : Addr} {o : OC} {v : V} {d : D}
/-- data beneath an own object -/
theorem SttF.swap (S : SttF K c F ow δ ((v, .d d) :: (.ref p, .own o) :: tmp) σ H) : ∃ ow', SttF K c F ow' δ ((.ref p, .own o) :: (v, .d d) :: tmp) σ H := by
  obtain ⟨p', e0, e, b, n, r⟩ := S.tm.2.1
  cases e0
  have S5 := S.pop.pop.reown (ow' := owSet ow p (.t (tmp.length + 1))) (fun k a z _ => owSet_ne fun y => by subst y; rw [e] at z; cases z) (fun k a hk z _ => owSet_ne fun y => by
    subst y; rw [e] at z; cases z
    exact absurd hk (Nat.lt_irrefl _))
  have S6 := S5.push S.top
  exact ⟨_, { S6 with tm := ⟨⟨p, rfl, owSet_at, b, .inl n.t, r⟩, S6.tm⟩ }⟩
/-- the own object on top moves down over data -/
theorem SttF.down (S : SttF K c F ow δ ((.ref p, .own o) :: (v, .d d) :: tmp) σ H) : ∃ ow', SttF K c F ow' δ ((.ref p, .own o) :: tmp) σ H := by
  obtain ⟨p', e0, e, b, n, r⟩ := S.tm.1
  cases e0
  have S5 := S.pop.pop.reown (ow' := owSet ow p (.t tmp.length)) (fun k a z _ => owSet_ne fun y => by subst y; rw [e] at z; cases z) (fun k a hk z _ => owSet_ne fun y => by
    subst y; rw [e] at z; cases z
    have : tmp.length + 1 < tmp.length := hk
    omega)
  exact ⟨_, { S5 with tm := ⟨⟨p, rfl, owSet_at, b, .inl n.t, r⟩, S5.tm⟩ }⟩
theorem wipe_idem {σ : L2.St} {vs : List Nat} : ∀ (l : List Nat), (∀ i ∈ l, i ∈ vs) → wipe (wipe σ l) vs = wipe σ vs := fun l => by
  induction l with
  | nil => exact fun _ => rfl
  | cons a r ih =>
    intro h
    show wipe ((wipe σ r).set a none) vs = _
    rw [wipe_set (h a List.mem_cons_self)]
    exact ih fun i hi => h i (List.mem_cons_of_mem _ hi)
/-- the loop of a comprehension, the list on top of the stack -/
theorem lc_loop {g : TDG} {tt : TDT} {te : TD} {vs : List Nat} {J : It} {src : D} {items acc0 : List D} {δ0 : DSt} {Qf : List D → DSt → Prop} {Nx : Hp → Prop} {D : Addr} (hv : ∀ i ∈ vs, i ∉ c.sl) (sv : Serve K J v src items)
    (S0 : Stt K c (wipeD δ0 vs) ((.ref D, .own (.lst acc0)) :: (v, .d src) :: tmp) (wipe σ vs) H) (q0 : lcD g tt te vs items acc0 (wipeD δ0 vs) Qf)
    (fin : ∀ acc δ H', Qf acc (wipeD δ vs) → Stt K c (wipeD δ vs) ((.ref D, .own (.lst acc)) :: (v, .d src) :: tmp) (wipe σ vs) H' → Nx H') :
    ∃ W1 : Nat → Nat → Hp → Prop, (∃ m, W1 0 m H) ∧ ∀ j k H, W1 j k H →
      (J.stop j H ∧ Nx H) ∨ (J.go j H ∧ ∃ Nx1 : Hp → Prop, (∀ H', Nx1 H' → ∃ k', k' < k ∧ W1 (j + 1) k' H') ∧ ∀ x H', J.yld j H x H' → LG K c vs g x (wipe σ vs) H' fun σ3 H5 => wipe σ3 vs = wipe σ vs ∧ LT K c W0 tt σ3 H5 fun b H6 =>
        if b = true then LE K c W0 te σ3 H6 fun y H7 => ∃ acc, H7 D = some (.lst acc) ∧ acc.length < sizeLine ∧ Nx1 (upd H7 D (.lst (acc ++ [y]))) else Nx1 H6) := by
  refine ⟨fun i m H => m = items.length - i ∧ i ≤ items.length ∧ ∃ δ acc, Stt K c (wipeD δ vs) ((.ref D, .own (.lst acc)) :: (v, .d src) :: tmp) (wipe σ vs) H ∧ lcD g tt te vs (items.drop i) acc (wipeD δ vs) Qf,
    ⟨items.length, by simp, Nat.zero_le _, δ0, acc0, S0, q0⟩, ?_⟩
  rintro i m H2 ⟨rfl, hi, δ2, acc, ⟨F2, ow2, S3⟩, q2⟩
  have src2 : Rep K F2 v src := S3.tm.2.1
  by_cases hlt : i < items.length
  · refine .inr ⟨sv.go i F2 H2 S3.fh src2 hlt, fun H => i + 1 ≤ items.length ∧ ∃ δ acc, Stt K c (wipeD δ vs) ((.ref D, .own (.lst acc)) :: (v, .d src) :: tmp) (wipe σ vs) H ∧ lcD g tt te vs (items.drop (i + 1)) acc (wipeD δ vs) Qf,
      fun H' h => ⟨items.length - (i + 1), by omega, rfl, h⟩, fun x H' y => ?_⟩
    obtain ⟨F3, e3, r3⟩ := sv.yld i F2 H2 x H' S3.fh src2 y _ (List.getElem?_eq_getElem hlt)
    rw [List.drop_eq_getElem_cons hlt] at q2
    refine ⟨wipeD δ2 vs, (.ref D, .own (.lst acc)) :: (v, .d src) :: tmp, _, _, ⟨F3, ow2, (S3.ext e3).push r3⟩, q2, fun δ4 σ4 H4 q4 S4 hw => ?_⟩
    have hw' : wipe σ4 vs = wipe σ vs := by
      rw [hw]
      exact wipe_idem vs fun _ h => h
    refine ⟨hw', δ4, _, _, noX, S4, q4, fun b δ5 H5 q5 ⟨F5, ow5, S5⟩ => ?_, fun _ _ _ _ _ _ _ _ z => z.elim⟩
    cases b with
    | false =>
      have S6 := S5.wipe hv
      rw [hw'] at S6
      exact ⟨hlt, δ5, acc, ⟨_, _, S6⟩, q5⟩
    | true =>
      refine ⟨δ5, _, _, noX, ⟨F5, ow5, S5⟩, q5, fun u z δ6 H6 ⟨hz, q6⟩ ⟨F6, ow6, S6⟩ => ?_, fun _ _ _ _ _ _ _ _ z => z.elim⟩
      obtain ⟨F7, S7, s7⟩ := S6.top_frz
      obtain ⟨p', e0, _, _, _, ws, ep, rw'⟩ := S7.tm.2.1
      cases e0
      have S8 := S7.pop.writeT (o' := .lst (acc ++ [z.toD])) (ob := .lst (ws ++ [u])) ⟨_, upd_same, rw'.app (.cons S7.top .nil)⟩
      have S9 := S8.wipe hv
      rw [hw'] at S9
      exact ⟨ws, ep, by rw [rw'.len]; exact hz, hlt, δ6, _, ⟨_, _, S9⟩, q6⟩
  · have e : i = items.length := by omega
    subst e
    rw [List.drop_length] at q2
    exact .inl ⟨sv.stop _ F2 H2 S3.fh src2 (Nat.le_refl _), fin acc δ2 H2 q2 ⟨_, _, S3⟩⟩
theorem lift_comp2 {ti ti1 : TDI} {g g1 : TDG} {tt tt1 : TDT} {te : TD} {vs vs1 : List Nat} (hv : ∀ i ∈ vs, i ∉ c.sl) (h1 : ∀ i ∈ vs1, i ∈ vs) : ∀ σ H Q, LE K c W (comp2D ti g tt ti1 g1 tt1 te vs vs1) σ H Q →
    tLc2 (LI K c W ti) (LG K c vs g) (LT K c W0 tt) (LI K c W0 ti1) (LG K c vs1 g1) (LT K c W0 tt1) (LE K c W0 te) vs vs1 σ H Q := fun σ H Q ⟨δ, tmp, Qd, Ed, S, q, k, w⟩ => by
  have hv1 : ∀ i ∈ vs1, i ∉ c.sl := fun i hi => hv i (h1 i hi)
  refine ⟨δ, tmp, _, _, S, q, fun J v src items δ1 H1 q1 sv ⟨F1, ow1, S1⟩ => ?_, w⟩
  intro D nD
  have S2 := (S1.wipe hv).pushNew (o := .lst []) nD ⟨[], upd_same, .nil⟩
  refine ⟨fun i m H => m = items.length - i ∧ i ≤ items.length ∧ ∃ δ acc, Stt K c (wipeD δ vs) ((.ref D, .own (.lst acc)) :: (v, .d src) :: tmp) (wipe σ vs) H ∧ lc2D g tt ti1 g1 tt1 te vs vs1 (items.drop i) acc (wipeD δ vs) fun acc δ2 => Qd (.own (.lst acc)) δ2,
    ⟨items.length, by simp, Nat.zero_le _, δ1, [], ⟨_, _, S2⟩, q1⟩, ?_⟩
  rintro i m H2 ⟨rfl, hi, δ2, acc, ⟨F2, ow2, S3⟩, q2⟩
  have src2 : Rep K F2 v src := S3.tm.2.1
  by_cases hlt : i < items.length
  · refine .inr ⟨sv.go i F2 H2 S3.fh src2 hlt, fun H => i + 1 ≤ items.length ∧ ∃ δ acc, Stt K c (wipeD δ vs) ((.ref D, .own (.lst acc)) :: (v, .d src) :: tmp) (wipe σ vs) H ∧ lc2D g tt ti1 g1 tt1 te vs vs1 (items.drop (i + 1)) acc (wipeD δ vs) fun acc δ2 => Qd (.own (.lst acc)) δ2,
      fun H' h => ⟨items.length - (i + 1), by omega, rfl, h⟩, fun x H' y => ?_⟩
    obtain ⟨F3, e3, r3⟩ := sv.yld i F2 H2 x H' S3.fh src2 y _ (List.getElem?_eq_getElem hlt)
    rw [List.drop_eq_getElem_cons hlt] at q2
    refine ⟨wipeD δ2 vs, (.ref D, .own (.lst acc)) :: (v, .d src) :: tmp, _, _, ⟨F3, ow2, (S3.ext e3).push r3⟩, q2, fun δ4 σ4 H4 q4 S4 hw => ?_⟩
    have hw' : wipe σ4 vs = wipe σ vs := by
      rw [hw]
      exact wipe_idem vs fun _ h => h
    refine ⟨hw', δ4, _, _, noX, S4, q4, fun b δ5 H5 q5 ⟨F5, ow5, S5⟩ => ?_, fun _ _ _ _ _ _ _ _ z => z.elim⟩
    cases b with
    | false =>
      have S6 := S5.wipe hv
      rw [hw'] at S6
      exact ⟨hlt, δ5, acc, ⟨_, _, S6⟩, q5⟩
    | true =>
      refine ⟨δ5, _, _, noX, ⟨F5, ow5, S5⟩, q5, fun J1 v1 src1 items1 δ6 H6 q6 sv1 ⟨F6, ow6, S6⟩ => ?_, fun _ _ _ _ _ _ _ _ z => z.elim⟩
      obtain ⟨ow7, S7⟩ := S6.swap
      refine lc_loop hv1 sv1 ⟨F6, ow7, S7.wipe hv1⟩ q6 fun acc' δ8 H8 q8 ⟨F8, ow8, S8⟩ => ?_
      obtain ⟨ow9, S9⟩ := S8.down
      have S10 := S9.wipe hv
      rw [wipe_idem vs1 h1, hw'] at S10
      exact ⟨hlt, _, acc', ⟨_, _, S10⟩, q8⟩
  · have e : i = items.length := by omega
    subst e
    rw [List.drop_length] at q2
    refine .inl ⟨sv.stop _ F2 H2 S3.fh src2 (Nat.le_refl _), k _ _ _ _ q2 ?_⟩
    obtain ⟨ow4, S4⟩ := (S3.unwipe hv).down
    exact ⟨F2, ow4, S4⟩
end
section
variable {X : Cx} {c : Fc} {W : WX}
theorem pd_lc2 {elt tg iter tg1 iter1 : Expr} {ifs ifs1 : List Expr} {scope : Scope} {own : List (Str × Nat)} {vs1 : List Nat} {pos : Pos} {ti ti1 : TDI} {g g1 : TDG} {tt tt1 : TDT} {te : TD} (hc : X.calm = true) (hN : X.N.Nodup) (hi : PI X tg iter (LI X.K c W ti)) (ok : BlkOk X.N X.env.scope scope own) (hv1 : ∀ i ∈ vs1, i ∈ own.map (·.2))
    (hg : ∀ (s : Shared) (H : Hp) (C : Addr) (cl : List (Str × Addr)) (fp : List Addr), PG (X.blk s H scope (compEnvC scope cl C X.env) fp) tg (LG X.K c (own.map (·.2)) g)) (ht : ∀ (s : Shared) (H : Hp) (C : Addr) (cl : List (Str × Addr)) (fp : List Addr), PTs (X.blk s H scope (compEnvC scope cl C X.env) fp) ifs (LT X.K c W0 tt))
    (hi1 : ∀ (s : Shared) (H : Hp) (C : Addr) (cl : List (Str × Addr)) (fp : List Addr), PI (X.blk s H scope (compEnvC scope cl C X.env) fp) tg1 iter1 (LI X.K c W0 ti1))
    (hg1 : ∀ (s : Shared) (H : Hp) (C : Addr) (cl : List (Str × Addr)) (fp : List Addr), PG (X.blk s H scope (compEnvC scope cl C X.env) fp) tg1 (LG X.K c vs1 g1)) (ht1 : ∀ (s : Shared) (H : Hp) (C : Addr) (cl : List (Str × Addr)) (fp : List Addr), PTs (X.blk s H scope (compEnvC scope cl C X.env) fp) ifs1 (LT X.K c W0 tt1))
    (he : ∀ (s : Shared) (H : Hp) (C : Addr) (cl : List (Str × Addr)) (fp : List Addr), PE (X.blk s H scope (compEnvC scope cl C X.env) fp) elt (LE X.K c W0 te)) (hv : ∀ i ∈ own.map (·.2), i ∉ c.sl) (hs : ∀ x, foldedSetIterable iter X.env x = pure x := by intro _; rfl) (hs1 : ∀ env x, foldedSetIterable iter1 env x = pure x := by intro _ _; rfl) :
    PE X (.ListComp elt [⟨tg, iter, ifs, 0⟩, ⟨tg1, iter1, ifs1, 0⟩] scope pos) (LE X.K c W (comp2D ti g tt ti1 g1 tt1 te (own.map (·.2)) vs1)) := PE_imp (pe_lc2 hc hN hi ok hv1 hg ht hi1 hg1 ht1 he hs hs1) (lift_comp2 hv hv1)
end
end DL
namespace DR
open PySem PySem.Spec PyProof.Rows L2 DL
theorem comp2 {δ : DSt} {Q : DK} {E : XD} {ti ti1 : TDI} {g g1 : TDG} {tt tt1 : TDT} {te : TD} {vs vs1 : List Nat} (h : ti δ (fun xs δ1 => lc2D g tt ti1 g1 tt1 te vs vs1 xs [] (wipeD δ1 vs) fun acc δ2 => Q (.own (.lst acc)) δ2) E) : comp2D ti g tt ti1 g1 tt1 te vs vs1 δ Q E := h
/-- behind what is there already -/
theorem lc_filterA {α : Type} {g : TDG} {tt : TDT} {te : TD} {vs : List Nat} {r : α → DL.D} {δ : DSt} (f : α → Option DL.D) {n : Nat} : ∀ {l : List α} {acc0 : List DL.D} {Q : List DL.D → DSt → Prop}, acc0.length + l.length ≤ n →
    (∀ x (acc : List DL.D) (N : List DL.D → DSt → Prop), x ∈ l → acc.length < n → N (acc ++ (f x).toList) δ →
      g (r x) δ (fun δ1 => tt δ1 (fun b δ2 => if b = true then te δ2 (fun y δ3 => acc.length < sizeLine ∧ N (acc ++ [y.toD]) (wipeD δ3 vs)) noX else N acc (wipeD δ2 vs)) noX)) →
    Q (acc0 ++ l.filterMap f) δ → lcD g tt te vs (l.map r) acc0 δ Q
  | [], acc0, Q, _, _, hn => by rw [List.filterMap_nil, List.append_nil] at hn; exact hn
  | x :: l, acc0, Q, hl, hs, hn => by
    rw [List.length_cons] at hl
    refine hs x acc0 (fun a d => lcD g tt te vs (l.map r) a d Q) List.mem_cons_self (by omega) ?_
    refine lc_filterA f (n := n) (l := l) ?_ (fun y acc N hy => hs y acc N (List.mem_cons_of_mem _ hy)) ?_
    · rw [List.length_append]
      cases f x <;> (simp; omega)
    · rw [List.append_assoc]
      have e : (f x).toList ++ l.filterMap f = (x :: l).filterMap f := by
        rw [List.filterMap_cons]
        cases f x <;> rfl
      rw [e]
      exact hn
theorem lc2_flatM {α : Type} {g : TDG} {tt : TDT} {ti1 : TDI} {g1 : TDG} {tt1 : TDT} {te : TD} {vs vs1 : List Nat} {r : α → DL.D} {δ : DSt} (f : α → List DL.D) : ∀ {l : List α} {acc0 : List DL.D} {Q : List DL.D → DSt → Prop},
    (∀ x (acc : List DL.D) (N : List DL.D → DSt → Prop), x ∈ l → acc.length ≤ acc0.length + (l.flatMap f).length → N (acc ++ f x) δ →
      g (r x) δ (fun δ1 => tt δ1 (fun b δ2 => if b = true then ti1 δ2 (fun ys δ3 => lcD g1 tt1 te vs1 ys acc (wipeD δ3 vs1) fun acc' δ4 => N acc' (wipeD δ4 vs)) noX else N acc (wipeD δ2 vs)) noX)) →
    Q (acc0 ++ l.flatMap f) δ → lc2D g tt ti1 g1 tt1 te vs vs1 (l.map r) acc0 δ Q
  | [], acc0, Q, _, hn => by rw [List.flatMap_nil, List.append_nil] at hn; exact hn
  | x :: l, acc0, Q, hs, hn => by
    refine hs x acc0 (fun a d => lc2D g tt ti1 g1 tt1 te vs vs1 (l.map r) a d Q) List.mem_cons_self (by omega) ?_
    refine lc2_flatM f (fun y acc N hy hl => hs y acc N (List.mem_cons_of_mem _ hy) ?_) ?_
    · rw [List.flatMap_cons, List.length_append]
      rw [List.length_append] at hl
      omega
    · rw [List.append_assoc, ← List.flatMap_cons]
      exact hn
end DR

set_option Elab.async false
set_option linter.all false
set_option maxRecDepth 100000
namespace DL
open PySem PySem.Spec PyProof.Rows L2
theorem units65 {k : Nat} {A : Around} (r : Room k A) : A.units + 65 < cLine := by have := r.un; omega
section
variable {X : Cx} {c : Fc} {W : WX}
/-- x in xs, xs the own list in slot j: items of any depth -/
def inLO (j : Nat) (n : Bool) (ti : TD) : TD := fun δ Q E => ti δ (fun x δ1 => ∃ xs, δ1[j]? = some (some (.own (.lst xs))) ∧ Cmp x.toD ∧ Cmp (.lst xs) ∧ Q (.d (.bl (n != ((pyL xs).any fun z => PyData.eqv z x.toD.py)))) δ1) E
theorem inLO_run {K : PySem.W.Frag} {j : Nat} {n : Bool} {ti : TD} {r : R2} (hr : ∀ x y H Q d ds, Dp K H x d → Dp K H y (.list ds) → SeqAt.shaped d = true → SeqAt.shaped (.list ds) = true → Q (V.bl (n != (ds.any fun z => PyData.eqv z d))) H → r x y H Q) : ∀ σ H Q, LE K c W (inLO j n ti) σ H Q → tOp r (LE K c W ti) (tVar j) σ H Q :=
  fun σ H Q ⟨δ, tmp, Qd, Ed, S, q, k, w⟩ => ⟨δ, tmp, _, Ed, S, q, fun u y δ1 H1 ⟨xs, ej, cx, cl, q1⟩ ⟨F1, ow1, S1⟩ => by
    obtain ⟨F2, S2, _⟩ := S1.top_frz
    obtain ⟨v', e2, p', rfl, _, _, _, vs, ep, rl⟩ := S2.sl _ _ ej
    have hl : isPyL xs = true := cl.1
    have lay : SeqAt.shaped (D.py (.lst xs)) = true := by
      unfold SeqAt.shaped
      rw [decide_eq_true cl.2]
      have := rl.lay hl
      simp only [D.py, PyData.canLay0]
      rw [this]
      rfl
    exact ⟨_, e2, hr u (.ref p') H1 Q y.toD.py (pyL xs) (dp_mono S2.fh (S2.top.dp cx.1)) (.lst (SqL.of ep) (dpAll_mono S2.fh (rl.dp hl))) (S2.top.shp cx) lay (k _ _ _ _ q1 ⟨F2, ow1, S2.pop.push (.bl _)⟩)⟩, w⟩
theorem ptd_inLO_t {j : Nat} {x : Str} {i : Expr} {ti : TD} {pos px : Pos} (hu : X.A.units + 65 < cLine) (hi : PE X i (LE X.K c W ti)) (hv : PE X (.Name x px) (tVar j)) : PT X (.Compare i [.In] [.Name x px] pos) (LT X.K c W (tvD (inLO j false ti))) :=
  PT_imp (pt_cmpR (op_inD hu) hi hv rfl) fun σ H Q ⟨δ, tmp, Qd, Ed, S, q, k, w⟩ => inLO_run (j := j) (n := false) (ti := ti) (fun x y H Q d ds h1 h2 h3 h4 h5 => ⟨d, ds, h1, h2, h3, h4, by rw [Bool.false_bne] at h5; exact h5⟩) σ H _ ⟨δ, tmp, (fun x δ1 => ∃ b, x = .d (.bl b) ∧ Qd b δ1), Ed, S, q, fun v x δ' H' ⟨b, e, q'⟩ ⟨F, ow, S'⟩ => by
    subst e
    cases S'.top
    exact ⟨b, rfl, k _ _ _ q' ⟨F, ow, S'.pop⟩⟩, w⟩
end
end DL
namespace DR
open PySem PySem.Spec PyProof.Rows L2 DL
theorem inLO {δ : DSt} {Q : DK} {E : XD} {j : Nat} {n : Bool} {ti : TD} (h : ti δ (fun x δ1 => ∃ xs, δ1[j]? = some (some (.own (.lst xs))) ∧ Cmp x.toD ∧ Cmp (.lst xs) ∧ Q (.d (.bl (n != ((pyL xs).any fun z => PyData.eqv z x.toD.py)))) δ1) E) : DL.inLO j n ti δ Q E := h
theorem enumi {δ : DSt} {E : XD} {Q : List DL.D → DSt → Prop} {ta : TDA} (h : ta δ (fun as δ1 => ∃ x xs, as = [.d x] ∧ (x = .lst xs ∨ x = .ro xs) ∧ Q (enumL xs) δ1) E) : enumI ta δ Q E := h
theorem enum_at {xs : List DL.D} {i : Nat} {d : DL.D} (h : (enumL xs)[i]? = some d) : ∃ x, xs[i]? = some x ∧ d = .tup [.int (i : Nat), x] := by
  unfold enumL at h
  rw [List.getElem?_map, List.getElem?_zipIdx] at h
  cases q : xs[i]? with
  | none => rw [q] at h; cases h
  | some x =>
    rw [q] at h
    refine ⟨x, rfl, ?_⟩
    simpa using h.symm
theorem enum_len {xs : List DL.D} : (enumL xs).length = xs.length := by simp [enumL]
end DR

set_option Elab.async false
set_option linter.all false
set_option maxRecDepth 100000
/-! several except clauses, each with a name -/
namespace DL
open PySem PySem.Spec PyProof.Rows L2
/-- an except clause: its class, the slot of its name, its suite -/
structure Clause where
  cv : Value
  ix : Nat
  su : Addr → Value → Option Addr → TS
/-- the ends of a suite whose name goes -/
def sunk (i : Nat) (D : Ends) : Ends := { nx := fun τ G => D.nx (τ.set i none) G, rt := D.rt, bk := fun τ G => D.bk (τ.set i none) G, ct := fun τ G => D.ct (τ.set i none) G }
def wishes (K : PySem.W.Frag) (out : WX) (D : Ends) : List Clause → WX
  | [] => out
  | q :: r => fun cv dd τ G => ∃ yes, PySem.W.exmOne K cv q.cv = some yes ∧ (yes = true → ∀ a, G a = none → q.su a cv dd (sunk q.ix D) (τ.set q.ix (some (.ref a))) G) ∧ (yes = false → wishes K out D r cv dd τ G)
inductive Clauses (X : Cx) : List ExceptHandler → List Clause → Prop
  | nil : Clauses X [] []
  | cons {x n : Str} {cv : Value} {i : Nat} {su : Addr → Value → Option Addr → TS} {s0 : Stmt} {more : List Stmt} {np pp : Pos} {hs : List ExceptHandler} {qs : List Clause} (hi : X.N[i]? = some n) (hl : X.env.kindOf n = some .local) (hn : Names X x cv)
      (hb : ∀ (a : Addr) (ob : Obj) (cls : Value) (dd : Option Addr) (pn : List (Addr × Obj)), Zc cls dd ob → (∃ vs, ob.data = .fields vs) → PSs (X.suite a ((a, ob) :: pn)) (s0 :: more) (su a cls dd)) (r : Clauses X hs qs) :
      Clauses X (.ExceptHandler (some (.Name x np)) (some n) (s0 :: more) pp :: hs) (⟨cv, i, su⟩ :: qs)
section
variable {X : Cx} {bd : List Stmt} {g : ExceptHandler} {gs : List ExceptHandler} {qs : List Clause} {pos : Pos} {tb : WX → TS} {out : WX}
theorem ps_tryC (hst : X.stack = X.env :: X.outer) (hfr : X.env.frame = some X.env.locals) (nd : X.N.Nodup) (tk : Takes X out)
    (hb : ∀ (W : WX) (pn : List (Addr × Obj)) (xe : Value → Shared → Prop), Takes (X.tr pn xe) W → PassesOwn (model X.prog X.w) X.A X.env xe → PSs (X.tr pn xe) bd (tb W))
    (hh : Clauses X (g :: gs) qs) : PS X (.Try bd (g :: gs) [] [] pos) (fun D τ G => tb (wishes X.K out D qs) D τ G) := by
  refine ⟨fun pins st τ G D I hw => ?_⟩
  have okX := I.ok
  have frX : X.A.frames = some (X.env :: X.outer) := okX.frames.trans (by rw [hst])
  apply wpAny_Try_except
  have run := (hb (wishes X.K out D qs) (X.pn ++ pins) (fun e t1 => wpAny (model X.prog X.w) X.A (noteFrame e X.env) (fun _ t2 => wpAny (model X.prog X.w) X.A (setFlight e none) (fun _ t3 =>
    wpAny (model X.prog X.w) X.A (handleBy e X.env (g :: gs)) (SP X pins D) X.xe t3) X.xe t2) X.xe t1) (fun u t y => ?_) PassesOwn.looking).run [] st τ G D (I.toTry _) hw
  · refine wpAny_mono run (fun fl t1 q => ?_) (fun e t1 q => q)
    cases fl with
    | next => obtain ⟨τ2, G2, J, q⟩ := q; exact wpAny_execs_nil ⟨_, _, J.ofTry okX, q⟩
    | brk => obtain ⟨τ2, G2, J, q⟩ := q; exact ⟨_, _, J.ofTry okX, q⟩
    | cont => obtain ⟨τ2, G2, J, q⟩ := q; exact ⟨_, _, J.ofTry okX, q⟩
    | ret u => obtain ⟨v2, τ2, G2, J, rr, q⟩ := q; exact ⟨_, _, _, J.ofTry okX, rr, q⟩
  · obtain ⟨a, B, tI, pins2, τ2, G2, cv, dd, rfl, J0, nb, up, sk, na, os, ag, ww⟩ := y
    have J1 : Inv X pins τ2 G2 tI := J0.ofTry okX
    have sk2 : Sky B (X.env :: X.outer) a (Zc cv dd) X.env.locals t.heap := by rw [hst] at sk; exact sk
    refine Sky.land Zc.steady frX hfr sk2 fun k3 fl3 up3 => ?_
    have J3 : Inv X pins τ2 G2 { t with heap := k3 } := J1.landed nb fl3.1 (up.trans up3) os ag
    obtain ⟨o3, w3, ho3, hz3, hd3⟩ := fl3.there
    have out3 : ∀ {k : Heap} {ob : Obj} {ws : Array Value}, k.FunFrames B (X.env :: X.outer) → k.get? a = some ob → ob.data = .fields ws → ¬ a ∈ frs (X.env :: X.outer) := fun {k ob ws} ff he hd hm => by
      obtain ⟨_, ob2, he2, nof⟩ := ff.mem hm
      cases he.symm.trans he2
      exact nof _ hd
    have nfr := out3 fl3.2.2.1 ho3 hd3
    have nloc : a ≠ X.env.locals := fun z => nfr (List.mem_filterMap.mpr ⟨_, List.mem_cons_self, by rw [z]; exact hfr⟩)
    have nfs : a ∉ X.fs := fun hm => by
      obtain ⟨en, he, q⟩ := List.mem_filterMap.mp hm
      exact nfr (List.mem_filterMap.mpr ⟨en, .tail _ he, q⟩)
    have S3 := J3.suite ho3 hd3 na nloc nfs
    have each : ∀ {hs : List ExceptHandler} {rs : List Clause}, Clauses X hs rs → wishes X.K out D rs cv dd τ2 G2 →
        wpAny (model X.prog X.w) X.A (handleBy (.ref a) X.env hs) (SP X pins D) X.xe { t with heap := k3 } := fun {hs rs} hk => by
      induction hk with
      | nil =>
        intro wo
        refine wpAny_handleBy_nil ?_
        obtain ⟨_, _, _, ob, vs, T, oT, ts2, he, _, hd, h1, _⟩ := id fl3
        unfold PySem.passOn
        refine wpAny_bind (wpAny_field he hd h1 ?_)
        rw [if_neg (show ¬ ((Value.ref T == Value.none) = true) by simp)]
        have last : wpAny (model X.prog X.w) X.A (setFlight (.ref a) X.env.frame) (fun _ t4 => wpAny (model X.prog X.w) X.A (throw (.ref a) : Sem Flow) (SP X pins D) X.xe t4) X.xe { t with heap := k3 } := by
          rw [hfr]
          refine HandSPX.setFlight_upZ fl3 fun k4 hk4 up4 => wpAny_throw (tk _ _ ?_)
          exact ⟨a, B, tI, pins, τ2, G2, cv, dd, rfl, J1, nb, (up.trans up3).trans up4, .inr (.inr (hst ▸ hk4)), na, os, ag, wo⟩
        first
          | exact wpAny_bind (wpAny_pure (wpAny_bind last))
          | exact wpAny_bind last
      | @cons x n c i su s0 more np pp hs2 rs2 hi hl hn hb r ih =>
        rintro ⟨yes, hx, hy, hno⟩
        have look : PySem.W.Looks (model X.prog X.w) k3 (typeOf (.ref a)) cv := fun A Q E u f q => wpAny_typeOf_ref (f _ _ ho3) (hz3.1.symm ▸ q)
        have exm := PySem.W.exm_one (M := model X.prog X.w) J3.kIn look hx
        have name : ∀ {Q E : Value → Shared → Prop}, Q c { t with heap := k3 } → wpAny (model X.prog X.w) (X.A.mark (some (.ref a))) (eval (.Name x np) X.env) Q E { t with heap := k3 } := fun {Q E} q => by
          rcases hn with ⟨h1, h2, h3 | ⟨h3, h4, h5⟩⟩
          · exact ld_glob (X := X.suite a ((a, o3) :: (X.pn ++ pins))) S3 h1 h3 q h2
          · exact ld_blt (X := X.suite a ((a, o3) :: (X.pn ++ pins))) S3 h1 h3 h4 q h5 h2
        refine wpAny_handleBy_cons (codeAny_handlers_test (name (exm.here ?_))) (fun z => nomatch z)
        cases yes with
        | false => exact ih (hno rfl)
        | true =>
          refine codeAny_handlers_suite_as (HandSPX.lands_againZ fl3 fun k4 fl4 up4 => ?_)
          have J4 : Inv X pins τ2 G2 { t with heap := k4 } := J1.landed nb fl4.1 ((up.trans up3).trans up4) os ag
          obtain ⟨o4, w4, ho4, hz4, hd4⟩ := fl4.there
          refine store_ok (X := X.suite a ((a, o4) :: (X.pn ++ pins))) (v := .ref a) (J4.suite ho4 hd4 na nloc nfs) nd hi (.inl hl) rfl (fun t5 S5 => ?_) (.inr hl)
          have sinks : ∀ {τ6 : L2.St} {G6 : Hp} {Q : Shared → Prop} {t6 : Shared}, Inv (X.suite a ((a, o4) :: (X.pn ++ pins))) [] τ6 G6 t6 → (∀ t7, Inv X pins (τ6.set i none) G6 t7 → Q t7) →
              wpAny (model X.prog X.w) X.A (do bindName X.env n .none; unbindBehindTheSuite X.env n pp) (fun _ t7 => Q t7) X.xe t6 := fun {τ6 G6 Q t6} S6 f => gone_ok (S6.unsuite okX) nd hi hl f
          refine wpAny_mono ((hb a o4 cv dd (X.pn ++ pins) hz4 ⟨_, hd4⟩).run [] t5 _ G2 _ S5 (hy rfl a na)) (fun fl t6 q => ?_) (fun _ _ z => z.elim)
          cases fl with
          | next => obtain ⟨τ6, G6, S6, q6⟩ := q; exact sinks S6 fun t7 J7 => ⟨_, _, J7, q6⟩
          | brk => obtain ⟨τ6, G6, S6, q6⟩ := q; exact sinks S6 fun t7 J7 => ⟨_, _, J7, q6⟩
          | cont => obtain ⟨τ6, G6, S6, q6⟩ := q; exact sinks S6 fun t7 J7 => ⟨_, _, J7, q6⟩
          | ret u => obtain ⟨v6, τ6, G6, S6, r6, q6⟩ := q; exact sinks S6 fun t7 J7 => ⟨_, _, _, J7, r6, q6⟩
    exact each hh ww
end
/-! in data -/
structure ClauseD where
  cv : Value
  ix : Nat
  su : TDS
def sunkD (i : Nat) (D : EndsD) : EndsD := { nx := fun δ => D.nx (δ.set i none), rt := D.rt, ex := noX, bk := fun δ => D.bk (δ.set i none), ct := fun δ => D.ct (δ.set i none) }
def catchD (K : PySem.W.Frag) (D : EndsD) : List ClauseD → XD
  | [] => D.ex
  | q :: r => fun x δ => ∃ yes, PySem.W.exmOne K (.ref x.C) q.cv = some yes ∧ (yes = true → ∀ a dd, q.su (sunkD q.ix D) (δ.set q.ix (some (.d (.exc a (.ref x.C) dd x.C x.fs))))) ∧ (yes = false → catchD K D r x δ)
def tryC (K : PySem.W.Frag) (qs : List ClauseD) (tb : TDS) : TDS := fun D δ => tb { D with ex := catchD K D qs } δ
inductive ClausesD (X : Cx) (c : Fc) : List ExceptHandler → List ClauseD → Prop
  | nil : ClausesD X c [] []
  | cons {x n : Str} {cv : Value} {i : Nat} {su : TDS} {s0 : Stmt} {more : List Stmt} {np pp : Pos} {hs : List ExceptHandler} {qs : List ClauseD} (ni : i ∉ c.sl) (hi : X.N[i]? = some n) (hl : X.env.kindOf n = some .local) (hn : Names X x cv)
      (hb : ∀ (a : Addr) (ob : Obj) (cls : Value) (dd : Option Addr) (pn : List (Addr × Obj)), Zc cls dd ob → (∃ vs, ob.data = .fields vs) → PSs (X.suite a ((a, ob) :: pn)) (s0 :: more) (LS X.K c W0 su)) (r : ClausesD X c hs qs) :
      ClausesD X c (.ExceptHandler (some (.Name x np)) (some n) (s0 :: more) pp :: hs) (⟨cv, i, su⟩ :: qs)
def ClauseD.up (K : PySem.W.Frag) (c : Fc) (q : ClauseD) : Clause := ⟨q.cv, q.ix, fun _ _ _ => LS K c W0 q.su⟩
theorem ClausesD.up {X : Cx} {c : Fc} {hs : List ExceptHandler} {qs : List ClauseD} (h : ClausesD X c hs qs) : Clauses X hs (qs.map (ClauseD.up X.K c)) := by
  induction h with
  | nil => exact .nil
  | cons ni hi hl hn hb r ih => exact .cons hi hl hn hb ih
theorem psd_tryC {X : Cx} {c : Fc} {W : WX} {bd : List Stmt} {g : ExceptHandler} {gs : List ExceptHandler} {qs : List ClauseD} {pos : Pos} {tb : TDS} (hst : X.stack = X.env :: X.outer) (hfr : X.env.frame = some X.env.locals) (nd : X.N.Nodup) (tk : Takes X W)
    (hb : ∀ (W : WX) (pn : List (Addr × Obj)) (xe : Value → Shared → Prop), Takes (X.tr pn xe) W → PassesOwn (model X.prog X.w) X.A X.env xe → PSs (X.tr pn xe) bd (LS X.K c W tb))
    (hh : ClausesD X c (g :: gs) qs) : PS X (.Try bd (g :: gs) [] [] pos) (LS X.K c W (tryC X.K qs tb)) :=
  PS_imp (ps_tryC (tb := fun W => LS X.K c W tb) hst hfr nd tk hb hh.up) fun D σ H ⟨δ, tmp, Dd, S, q, k, kr, kb, kc, w⟩ => by
    refine ⟨δ, tmp, _, S, q, k, kr, kb, kc, ?_⟩
    have go : ∀ {hs : List ExceptHandler} {rs : List ClauseD}, ClausesD X c hs rs → WD X.K c (wishes X.K W D (rs.map (ClauseD.up X.K c))) tmp (catchD X.K Dd rs) := fun {hs rs} h => by
      induction h with
      | nil => exact w
      | @cons x n cv i su s0 more np pp hs2 rs2 ni hi hl hn hb r ih =>
        rintro ⟨C, fs⟩ δ1 σ1 H1 F ow cls d ⟨yes, ey, hy, hno⟩ S1 er
        obtain ⟨rfl, er2⟩ := id er
        refine ⟨yes, ey, fun e a na => ?_, fun e => ih _ _ _ _ F ow _ d (hno e) S1 er⟩
        have rx : Rep X.K F (.ref a) (.exc a (.ref C) d C fs) := by
          cases fs with
          | none => obtain rfl : d = none := er2; exact .exc0
          | some fs => obtain ⟨dd, vs, rfl, e2, e3⟩ := er2; exact .exc e2 e3
        exact ⟨_, tmp, _, (S1.push rx).set' ni, hy e a d, fun δ2 σ2 H2 q2 ⟨F2, ow2, S2⟩ => k _ _ _ q2 ⟨F2, ow2, S2.del ni⟩, kr, fun δ2 σ2 H2 q2 ⟨F2, ow2, S2⟩ => kb _ _ _ q2 ⟨F2, ow2, S2.del ni⟩, fun δ2 σ2 H2 q2 ⟨F2, ow2, S2⟩ => kc _ _ _ q2 ⟨F2, ow2, S2.del ni⟩, fun _ _ _ _ _ _ _ _ z => z.elim⟩
    exact go hh
end DL
namespace DR
open PySem PySem.Spec PyProof.Rows L2 DL
theorem tryc {K : PySem.W.Frag} {qs : List ClauseD} {tb : TDS} {D : EndsD} {δ : DSt} (h : tb { D with ex := catchD K D qs } δ) : tryC K qs tb D δ := h
end DR

set_option Elab.async false
set_option linter.all false
set_option maxRecDepth 100000
/-! operators, subscripts and comparisons by own defs -/
namespace DL
open PySem PySem.Spec PyProof.Rows L2
section
variable {X : Cx} {k : Nat} {f C : Addr} {fd : FuncData} {ps : List Str} {sp : Sp} {E : L2.St → XK} {a b : Expr} {ta tb : TE} {pos : Pos} {r : L2.St → R2}
/-- as OpR, but what is raised may be wished for at the slots -/
def OpS (X : Cx) (g : Value → Value → Sem Value) (r : L2.St → R2) : Prop := ∀ (pins : List (Addr × Obj)) (t : Shared) (τ : L2.St) (G : Hp) (x y : V) (v u : Value) (Q : VK), Inv X pins τ G t → RelV x v → RelV y u → r τ x y G Q → wpAny (model X.prog X.w) X.A (g v u) (EP X pins τ Q) X.xe t
def tOpS (r : L2.St → R2) (ta tb : TE) : TE := fun τ G Q => ta τ G fun x G1 => tb τ G1 fun y G2 => r τ x y G2 Q
theorem pe_opS {op : Operator} (ho : OpS X (binaryOp op) r) (ha : PE X a ta) (hb : PE X b tb) : PE X (.BinOp a op b pos) (tOpS r ta tb) :=
  ⟨fun pins t τ G Q I h => wpAny_BinOp (binT ha hb I h fun v u t2 x y G2 I2 rx ry q => ho pins t2 τ G2 x y v u Q I2 rx ry q)⟩
/-- both of the class C -/
def rBoth (C : Addr) (sp : Sp) (E : L2.St → XK) : L2.St → R2 := fun τ x y G Q => ∃ p d us q e ws, x = .ref p ∧ y = .ref q ∧ G p = some (.ins C d us) ∧ G q = some (.ins C e ws) ∧ sp [x, y] G Q (E τ)
theorem op_both {op : Operator} (sf : PySem.W.selfFirst X.K C = true) (hs : PySem.W.findIn X.K (.ref C) (PySem.dunder op.info.2) = some (some (.ref f))) (hf : PySem.W.isFn X.K (.ref f) = true) (F : FnOk X.prog X.w X.K X.mg X.base (L2.CX X.prog X.w) k f fd ps sp) (room : Room k X.A) (bd : Binds X.K fd ps [])
    (hx : ∀ τ, PassesAt (L2.CX X.prog X.w) X τ (E τ)) : OpS X (binaryOp op) (rBoth C sp E) := by
  rintro pins t τ G x y v u Q I rx ry ⟨p, d, us, q, e, ws, rfl, rfl, hp, hq, h⟩
  obtain rfl : v = Value.ref p := rx
  obtain rfl : u = Value.ref q := ry
  obtain ⟨_, O, _⟩ := ins_get I.hok hp
  obtain ⟨_, J, _⟩ := O.look
  obtain ⟨_, O2, _⟩ := ins_get I.hok hq
  obtain ⟨_, J2, _⟩ := O2.look
  obtain ⟨_, fr⟩ := I.fr
  refine PySem.W.binop_K (op := op) fr I.ok.mod.kin J J2.type sf hs hf ?_
  exact wpAny_mono (run_fnS (E := E) F room bd (hx τ) I (.cons (show RelV (V.ref p) (Value.ref p) from rfl) (.cons (show RelV (V.ref q) (Value.ref q) from rfl) .nil)) h) (fun z t2 ⟨y, G2, I2, ry, qy⟩ => SlX.cmpback ry ⟨y, G2, I2, ry, qy⟩) fun _ _ z => z
/-- x[y] by an own __getitem__ -/
def rGetI (C : Addr) (sp : Sp) (E : L2.St → XK) : L2.St → R2 := fun τ x y G Q => ∃ p d us, x = .ref p ∧ G p = some (.ins C d us) ∧ sp [x, y] G Q (E τ)
structure GetI (K : PySem.W.Frag) (C f : Addr) : Prop where
  at_ : PySem.W.findIn K (.ref C) "__getitem__" = some (some (.ref f))
  fi : PySem.W.fnIn K f = true
  fn : PySem.W.isFn K (.ref f) = true
theorem pe_getI (gi : GetI X.K C f) (F : FnOk X.prog X.w X.K X.mg X.base (L2.CX X.prog X.w) k f fd ps sp) (room : Room (k + 1) X.A) (bd : Binds X.K fd ps []) (hx : ∀ τ, PassesAt (L2.CX X.prog X.w) X τ (E τ)) (ha : PE X a ta) (hb : PE X b tb)
    (hs : ∀ p (i : Value), subscripted b true (.ref p) i = runValue (.builtin "lifetime.subscript" ⟨[.ref p, i], []⟩)) : PE X (.Subscript a b pos) (tOpS (rGetI C sp E) ta tb) := by
  refine ⟨fun pins t τ G Q I h => Subscript_ (binT ha hb I h fun v u t2 x y G2 I2 rx ry q => ?_)⟩
  obtain ⟨p, d, us, rfl, hp, h⟩ := q
  obtain rfl : v = Value.ref p := rx
  obtain ⟨_, O, _⟩ := ins_get I2.hok hp
  obtain ⟨_, J, _⟩ := O.look
  obtain ⟨_, fr⟩ := I2.fr
  refine PySem.W.sub_K fr I2.ok.mod.kin J gi.at_ gi.fi gi.fn ?_ (hs p u)
  have rr : Vals [V.ref p, y] [Value.ref p, u] := .cons rfl (.cons ry .nil)
  have hl : [Value.ref p, u].length = ps.length := by rw [← rr.length]; exact F.len _ _ _ _ h
  have b' := bd t2 [Value.ref p, u] I2.kIn (by rw [List.append_nil]; exact hl)
  rw [List.append_nil] at b'
  refine wpAny_call (codeAny_mono (F.run X.A.in1 X.stack t2 G2 ⟨[Value.ref p, u], []⟩ _ _ _ (E τ) room.in1 I2.env0.in1 b' rr h) fun fin t3 hq => ?_)
  cases fin with
  | error e => exact hx τ pins _ _ e t3 I2 hq
  | ok fl =>
    cases fl with
    | ret z => exact I2.after hq
    | next => exact hq.elim
    | brk => exact hq.elim
    | cont => exact hq.elim
end
section
variable {K : PySem.W.Frag} {c : Fc} {W : WX} {F H : Hp} {ow : Addr → Option Hold} {δ : DSt} {tmp : List (V × DV)} {σ : L2.St} {Q : VK} {Qd : DK} {Ed : XD} {sd : SpD}
theorem RepL.args : ∀ {vs : List V} {ds : List D}, RepL K F vs ds → ArgsRep K F H vs (ds.map .d) []
  | _, _, .nil => .nil
  | _, _, .cons h t => .d h t.args
/-- a call with data alone -/
theorem lift_data {vs : List V} {ds : List D} (S : SttF K c F ow δ tmp σ H) (r : RepL K F vs ds) (h : sd (ds.map .d) (fun r _ => Qd r δ) (fun x _ => Ed x δ)) (k : ∀ v x δ' H', Qd x δ' → Stt K c δ' ((v, x) :: tmp) σ H' → Q v H') (w : WD K c W tmp Ed) : spOf K sd vs H Q (WE W σ) :=
  ⟨F, _, [], _, _, S.fh, r.args, h, fun v x os F' H' q P rr => k v x δ H' q (ret_push (is := []) (ps := []) S rfl (fun _ _ _ z => nomatch z) .nil P rr), fun cls d x os F' H' q P er => w x δ σ H' F' ow cls d q (S.called (is := []) (ps := []) rfl (fun _ _ _ z => nomatch z) .nil P) er⟩
end
section
variable {X : Cx} {c : Fc} {W : WX} {k : Nat} {f C : Addr} {fd : FuncData} {ps : List Str} {sd : SpD} {a b : Expr} {ta tb : TD} {pos : Pos}
/-- a op b by an own def of the class of both -/
def bothD (C : Addr) (sd : SpD) (ta tb : TD) : TD := fun δ Q E => ta δ (fun x δ1 => tb δ1 (fun y δ2 => ∃ fs gs, x.toD = .obj C fs ∧ y.toD = .obj C gs ∧ sd [.d (.obj C fs), .d (.obj C gs)] (fun r _ => Q r δ2) (fun x _ => E x δ2)) E) E
structure BinOf (K : PySem.W.Frag) (C : Addr) (op : Operator) (f : Addr) : Prop where
  sf : PySem.W.selfFirst K C = true
  at_ : PySem.W.findIn K (.ref C) (PySem.dunder op.info.2) = some (some (.ref f))
  fn : PySem.W.isFn K (.ref f) = true
theorem pd_both {op : Operator} (B : BinOf X.K C op f) (G : FnOk X.prog X.w X.K X.mg X.base (L2.CX X.prog X.w) k f fd ps (spOf X.K sd)) (hr : Room k X.A) (hb : Binds X.K fd ps []) (tk : Takes X W) (he : PE X a (LE X.K c W ta)) (hg : PE X b (LE X.K c W tb)) :
    PE X (.BinOp a op b pos) (LE X.K c W (bothD C sd ta tb)) :=
  PE_imp (pe_opS (op_both (E := WE W) B.sf B.at_ B.fn G hr hb fun τ => passAt tk τ) he hg) fun σ H Q ⟨δ, tmp, Qd, Ed, S, t, k, w⟩ =>
    ⟨δ, tmp, _, Ed, S, t, fun v x δ1 H1 t1 S1 => ⟨δ1, _, _, Ed, S1, t1, fun u y δ2 H2 ⟨fs, gs, ex, ey, t2⟩ ⟨F, ow, S2⟩ => by
      obtain ⟨F', S3, _⟩ := S2.top_frz2
      rw [ex, ey] at S3
      have r1 := S3.pop.top
      have r2 := S3.top
      have both : ∃ p q, v = .ref p ∧ u = .ref q := by
        cases r1; cases r2; exact ⟨_, _, rfl, rfl⟩
      obtain ⟨p, q, rfl, rfl⟩ := both
      have s1 : ∃ d us, H2 p = some (.ins C d us) := by cases r1 with | obj s _ => exact ⟨_, _, S3.fh _ _ s⟩
      have s2 : ∃ d us, H2 q = some (.ins C d us) := by cases r2 with | obj s _ => exact ⟨_, _, S3.fh _ _ s⟩
      obtain ⟨d1, us1, h1⟩ := s1
      obtain ⟨d2, us2, h2⟩ := s2
      exact ⟨p, d1, us1, q, d2, us2, rfl, rfl, h1, h2, lift_data (ds := [.obj C fs, .obj C gs]) S3.pop.pop (.cons r1 (.cons r2 .nil)) t2 k w⟩, w.push⟩, w⟩
/-- a[b] by an own def -/
def subD (C : Addr) (sd : SpD) (ta tb : TD) : TD := fun δ Q E => ta δ (fun x δ1 => tb δ1 (fun y δ2 => ∃ fs, x.toD = .obj C fs ∧ sd [.d (.obj C fs), .d y.toD] (fun r _ => Q r δ2) (fun x _ => E x δ2)) E) E
theorem pd_sub (gi : GetI X.K C f) (G : FnOk X.prog X.w X.K X.mg X.base (L2.CX X.prog X.w) k f fd ps (spOf X.K sd)) (hr : Room (k + 1) X.A) (hb : Binds X.K fd ps []) (tk : Takes X W) (he : PE X a (LE X.K c W ta)) (hg : PE X b (LE X.K c W tb))
    (hs : ∀ p (i : Value), subscripted b true (.ref p) i = runValue (.builtin "lifetime.subscript" ⟨[.ref p, i], []⟩)) : PE X (.Subscript a b pos) (LE X.K c W (subD C sd ta tb)) :=
  PE_imp (pe_getI (E := WE W) gi G hr hb (fun τ => passAt tk τ) he hg hs) fun σ H Q ⟨δ, tmp, Qd, Ed, S, t, k, w⟩ =>
    ⟨δ, tmp, _, Ed, S, t, fun v x δ1 H1 t1 S1 => ⟨δ1, _, _, Ed, S1, t1, fun u y δ2 H2 ⟨fs, ex, t2⟩ ⟨F, ow, S2⟩ => by
      obtain ⟨F', S3, _⟩ := S2.top_frz2
      rw [ex] at S3
      have r1 := S3.pop.top
      have r2 := S3.top
      have one : ∃ p, v = .ref p := by cases r1; exact ⟨_, rfl⟩
      obtain ⟨p, rfl⟩ := one
      have s1 : ∃ d us, H2 p = some (.ins C d us) := by cases r1 with | obj s _ => exact ⟨_, _, S3.fh _ _ s⟩
      obtain ⟨d1, us1, h1⟩ := s1
      exact ⟨p, d1, us1, rfl, h1, lift_data (ds := [.obj C fs, y.toD]) S3.pop.pop (.cons r1 (.cons r2 .nil)) t2 k w⟩, w.push⟩, w⟩
end
end DL
namespace DR
open PySem PySem.Spec PyProof.Rows L2 DL
theorem both {C : Addr} {sd : SpD} {ta tb : TD} {δ : DSt} {Q : DK} {E : XD} (h : ta δ (fun x δ1 => tb δ1 (fun y δ2 => ∃ fs gs, x.toD = .obj C fs ∧ y.toD = .obj C gs ∧ sd [.d (.obj C fs), .d (.obj C gs)] (fun r _ => Q r δ2) (fun x _ => E x δ2)) E) E) : bothD C sd ta tb δ Q E := h
theorem sub {C : Addr} {sd : SpD} {ta tb : TD} {δ : DSt} {Q : DK} {E : XD} (h : ta δ (fun x δ1 => tb δ1 (fun y δ2 => ∃ fs, x.toD = .obj C fs ∧ sd [.d (.obj C fs), .d y.toD] (fun r _ => Q r δ2) (fun x _ => E x δ2)) E) E) : subD C sd ta tb δ Q E := h
end DR

set_option Elab.async false
set_option linter.all false
set_option maxRecDepth 100000
/-! == and != by an own def; classes called with keywords; defs with a star; classmethods -/
namespace DL
open PySem PySem.Spec PyProof.Rows L2
/-! ### == -/
/-- what stands on the right -/
inductive RightV (K : PySem.W.Frag) (G : Hp) (C : Addr) : V → Value → Prop where
  | val {y : V} {t : Value} (h : TyX K G y t) : RightV K G C y t
  | own {q e : Addr} {ws : List (Str × V)} (h : G q = some (.ins C e ws)) : RightV K G C (.ref q) (.ref C)
def rEqC (K : PySem.W.Frag) (C : Addr) (sp : Sp) : R2 := fun x y G Q => ∃ p d us t, x = .ref p ∧ G p = some (.ins C d us) ∧ RightV K G C y t ∧ PySem.W.notFirst K C t = true ∧ sp [x, y] G Q (fun _ _ _ => False)
section
variable {X : Cx} {k : Nat} {f C : Addr} {fd : FuncData} {ps : List Str} {sp : Sp}
theorem op_eqC (hs : PySem.W.findIn X.K (.ref C) "__eq__" = some (some (.ref f))) (hf : PySem.W.isFn X.K (.ref f) = true) (F : FnOk X.prog X.w X.K X.mg X.base (L2.CX X.prog X.w) k f fd ps sp) (room : Room k X.A) (bd : Binds X.K fd ps []) : OpR X (compareOp .Eq) (rEqC X.K C sp) := by
  rintro pins t τ G x y v u Q I rx ry ⟨p, d, us, ty, rfl, hp, hy, hn, h⟩
  obtain rfl : v = Value.ref p := rx
  obtain ⟨_, O, _⟩ := ins_get I.hok hp
  obtain ⟨_, J, _⟩ := O.look
  obtain ⟨_, fr⟩ := I.fr
  have look : PySem.W.Looks (model X.prog X.w) t.heap (typeOf u) ty := by
    cases hy with
    | val z =>
      obtain ⟨_, Z, z, _⟩ := kit_of I ry z
      exact Z.ty _ _ I.kIn z
    | own z =>
      obtain rfl : u = Value.ref _ := ry
      obtain ⟨_, O2, _⟩ := ins_get I.hok z
      obtain ⟨_, J2, _⟩ := O2.look
      exact J2.type
  refine PySem.W.cmp_K (op := .Eq) room.units0 fr I.ok.mod.kin J look hn hs hf ?_
  have run := run_fnS (E := WE W0) (CX := L2.CX X.prog X.w) (σ := τ) F room bd (passAt takes0 τ) I (.cons (show RelV (V.ref p) (Value.ref p) from rfl) (.cons ry .nil)) h
  exact wpAny_mono run (fun z t2 ⟨y, G2, I2, ry, qy⟩ => SlX.cmpback ry ⟨y, G2, I2, ry, qy⟩) fun _ _ z => z
end
/-! ### != -/
theorem ns_mg {K : PySem.W.Frag} {h : Heap} {N : Addr} {mg : Str → Option Value} {n : Str} {v : Value} (hX : K.In h) (hG : h.Ns N mg) (e : PySem.W.nsIn K N n = some (some v)) : mg n = some v := by
  obtain ⟨ob, es, ep, ho, hd, _, hf⟩ := hG
  unfold PySem.W.nsIn at e
  split at e
  · rename_i c d es2 n2 sl q
    cases ho.symm.trans (hX _ _ q)
    cases hd
    split at e
    · rename_i en he
      cases e
      rw [← hf]
      unfold nsFind findBy
      rw [← Array.find?_toList, he]
      rfl
    · split at e <;> cases e
  · cases e
/-- the class's own dict has __eq__ and no __ne__ -/
structure NeOf (K : PySem.W.Frag) (C f : Addr) : Prop where
  cls : ∃ nm q N bs hdct sn sub ab col dd k0 k1 k2 k3 k5 newId, K.lookup C = some (excClassObj nm q C N bs [.type "object"] hdct sn sub ab col dd k0 k1 k2 k3 k5 newId) ∧ PySem.W.nsOkIn K N = true ∧ PySem.W.nsIn K N "__eq__" = some (some (.ref f)) ∧ PySem.W.nsIn K N "__ne__" = some none
  fn : ∃ of, K.lookup f = some of ∧ of.cls = .type "function"
def rNeC (C : Addr) (sp : Sp) : R2 := fun x y G Q => ∃ p d us q e ws, x = .ref p ∧ y = .ref q ∧ G p = some (.ins C d us) ∧ G q = some (.ins C e ws) ∧ sp [x, y] G (fun z G2 => ∃ b, z = .bl b ∧ Q (.bl (!b)) G2) (fun _ _ _ => False)
section
variable {X : Cx} {k : Nat} {f C : Addr} {fd : FuncData} {ps : List Str} {sp : Sp}
theorem op_neC (N : NeOf X.K C f) (F : FnOk X.prog X.w X.K X.mg X.base (L2.CX X.prog X.w) k f fd ps sp) (room : Room (k + 1) X.A) (bd : Binds X.K fd ps []) : OpR X (compareOp .NotEq) (rNeC C sp) := by
  rintro pins t τ G x y v u Q I rx ry ⟨p, d, us, q, e, ws, rfl, rfl, hp, hq, h⟩
  obtain rfl : v = Value.ref p := rx
  obtain rfl : u = Value.ref q := ry
  obtain ⟨_, O, _⟩ := ins_get I.hok hp
  obtain ⟨_, J, _⟩ := O.look
  obtain ⟨_, O2, _⟩ := ins_get I.hok hq
  obtain ⟨_, J2, _⟩ := O2.look
  obtain ⟨nm, qn, NS, bs, hdct, sn, sub, ab, col, dd, k0, k1, k2, k3, k5, newId, hC, hN, hE, hNe⟩ := N.cls
  obtain ⟨of, hf, hfc⟩ := N.fn
  have ns : t.heap.Ns NS (t.heap.nsMap NS) := .of_isNs (PySem.W.isNs_of_in I.kIn hN)
  have own : t.heap.OwnEqNoNe p C f "object" [.type "object"] := ⟨_, of, nm, qn, NS, bs, hdct, sn, sub, ab, col, dd, k0, k1, k2, k3, k5, newId, _, _, J.1, J.2, I.kIn _ _ hC, ns, ns_mg I.kIn ns hE, I.kIn _ _ hf, hfc, PySem.F.cmp_object.mro, PySem.F.cmp_object.eq.lookup, PySem.W.ns_none_of I.kIn ns hNe⟩
  have rr : Vals [V.ref p, V.ref q] [Value.ref p, Value.ref q] := .cons rfl (.cons rfl .nil)
  have hl : [Value.ref p, Value.ref q].length = ps.length := by rw [← rr.length]; exact F.len _ _ _ _ h
  have b' := bd t [Value.ref p, Value.ref q] I.kIn (by rw [List.append_nil]; exact hl)
  rw [List.append_nil] at b'
  have run : wpAny (model X.prog X.w) X.A.in1 (call (.ref f) [.ref p, .ref q]) (fun z t2 => ∃ b, z = .bool b ∧ EP X pins τ Q (.bool (!b)) t2) X.xe t := by
    refine wpAny_call (codeAny_mono (F.run X.A.in1 X.stack t G ⟨[Value.ref p, Value.ref q], []⟩ _ _ _ _ room.in1 I.env0.in1 b' rr h) fun fin t2 z => ?_)
    cases fin with
    | error e => exact passAt (W := W0) takes0 τ pins _ _ e t2 I z
    | ok fl =>
      cases fl with
      | ret w =>
        obtain ⟨y, G2, J3, ry, b, ey, q2⟩ := I.after z
        subst ey
        exact ⟨b, ry, ⟨V.bl (!b), G2, J3, rfl, q2⟩⟩
      | next => exact z.elim
      | brk => exact z.elim
      | cont => exact z.elim
  obtain ⟨hh, gl, gd, tk, os⟩ := t
  exact compareOp_ne_ownEq PySem.F.cmp_object own J2.1 J2.2 (by have := room.units; omega) run
end
section
variable {K : PySem.W.Frag} {F H F' H' : Hp} {C : Addr} {sd : SpD}
theorem Post.ext (P : Post K F H [] [] F' H') : Ext F H F' H' := ⟨P.f, fun a u e => P.fr a u e (fun z => nomatch z), P.fh, P.nw⟩
theorem Post.nil {os : List OC} (P : Post K F H [] os F' H') : os = [] := by cases P.os; rfl
/-- what may stand on the right of an own == -/
def RightD (K : PySem.W.Frag) (C : Addr) (b : D) : Prop := (∃ gs, b = .obj C gs ∧ PySem.W.notFirst K C (.ref C) = true) ∨ ∃ t, TyD K b t ∧ PySem.W.notFirst K C t = true
abbrev eqC (K : PySem.W.Frag) (C : Addr) (sd : SpD) : RD2 := fun a b Q => ∃ fs, a = .obj C fs ∧ RightD K C b ∧ sd [.d a, .d b] (fun r _ => ∃ t, r = .d (.bl t) ∧ Q (.d (.bl t))) (fun _ _ => False)
theorem op2_eqC : Op2 K (rEqC K C (spOf K sd)) (eqC K C sd) := fun x y a b F H Q Qd s rx ry ⟨fs, ea, hb, h⟩ kq => by
  subst ea
  have one : ∃ p, x = .ref p := by cases rx; exact ⟨_, rfl⟩
  obtain ⟨p, rfl⟩ := one
  have s1 : ∃ d us, H p = some (.ins C d us) := by cases rx with | obj s1 _ => exact ⟨_, _, s _ _ s1⟩
  obtain ⟨d, us, hp⟩ := s1
  have hy : ∃ t, RightV K H C y t ∧ PySem.W.notFirst K C t = true := by
    rcases hb with ⟨gs, rfl, hn⟩ | ⟨t, ht, hn⟩
    · cases ry with | obj s2 _ => exact ⟨_, .own (s _ _ s2), hn⟩
    · exact ⟨t, .val (tyD_x s ry ht), hn⟩
  obtain ⟨t, h1, h2⟩ := hy
  refine ⟨p, d, us, t, rfl, hp, h1, h2, F, _, [], _, _, s, (RepL.cons rx (.cons ry .nil)).args, h, fun v r os F' H' ⟨t, er, q⟩ P rr => ?_, fun _ _ _ _ _ _ z _ _ => z.elim⟩
  subst er
  cases P.nil
  exact kq _ _ F' H' q (.d P.ext rr)
abbrev neC (K : PySem.W.Frag) (C : Addr) (sd : SpD) : RD2 := fun a b Q => ∃ fs gs, a = .obj C fs ∧ b = .obj C gs ∧ sd [.d a, .d b] (fun r _ => ∃ t, r = .d (.bl t) ∧ Q (.d (.bl (!t)))) (fun _ _ => False)
theorem op2_neC : Op2 K (rNeC C (spOf K sd)) (neC K C sd) := fun x y a b F H Q Qd s rx ry ⟨fs, gs, ea, eb, h⟩ kq => by
  subst ea eb
  have two : ∃ p q, x = .ref p ∧ y = .ref q := by cases rx; cases ry; exact ⟨_, _, rfl, rfl⟩
  obtain ⟨p, q, rfl, rfl⟩ := two
  have s1 : ∃ d us, H p = some (.ins C d us) := by cases rx with | obj s1 _ => exact ⟨_, _, s _ _ s1⟩
  have s2 : ∃ d us, H q = some (.ins C d us) := by cases ry with | obj s1 _ => exact ⟨_, _, s _ _ s1⟩
  obtain ⟨d, us, hp⟩ := s1
  obtain ⟨e, ws, hq⟩ := s2
  refine ⟨p, d, us, q, e, ws, rfl, rfl, hp, hq, F, _, [], _, _, s, (RepL.cons rx (.cons ry .nil)).args, h, fun v r os F' H' ⟨t, er, q⟩ P rr => ?_, fun _ _ _ _ _ _ z _ _ => z.elim⟩
  subst er
  cases P.nil
  cases (show Rep K F' v (.bl t) from rr)
  exact ⟨t, rfl, kq _ _ F' H' q (.d P.ext (.bl _))⟩
end
end DL

set_option Elab.async false
set_option linter.all false
set_option maxRecDepth 100000
/-! classes called with keywords, defs with a star, classmethods -/
namespace DL
open PySem PySem.Spec PyProof.Rows L2
section
variable {X : Cx} {k n : Nat} {f g C : Addr} {fd : FuncData} {ps ks : List Str} {sp : Sp} {E : L2.St → XK} {x m : Str} {p pos apos : Pos} {e o : Expr} {es : List Expr} {kws : List Keyword} {t tk : TA} {to : TE} {gU : List Value → List Value → List Value} {gV : List V → List V → List V} {i : Nat}
/-- a new instance by keywords too; what __init__ raises is wished for at the slots -/
def tNewK (C : Addr) (n m : Nat) (sp : Sp) (gV : List V → List V → List V) (E : L2.St → XK) (t tk : TA) : TE := fun τ G Q => t τ G fun vs G1 => tk τ G1 fun zs G2 => vs.length = n ∧ zs.length = m ∧ ∀ x dx, G2 x = none → G2 dx = none → dx ≠ x →
  sp (gV (.ref x :: vs) zs) (upd (upd G2 dx (.own x)) x (.ins C dx [])) (fun v G3 => v = .non ∧ Q (.ref x) G3) (E τ)
theorem run_newK {pins : List (Addr × Obj)} {τ : L2.St} {G : Hp} {s : Shared} {Q : VK} {us ws : List Value} {vs zs : List V} (M : Mk X.K C f) (F : FnOk X.prog X.w X.K X.mg X.base (L2.CX X.prog X.w) k f fd ps sp) (room : Room (k + 1) X.A) (kb : KBn X.K fd ps (n + 1) ks gU gV) (hx : PassesAt (L2.CX X.prog X.w) X τ (E τ))
    (I : Inv X pins τ G s) (rv : Vals vs us) (rz : Vals zs ws) (lv : vs.length = n) (lz : zs.length = ks.length)
    (h : ∀ x dx, G x = none → G dx = none → dx ≠ x → sp (gV (.ref x :: vs) zs) (upd (upd G dx (.own x)) x (.ins C dx [])) (fun v G2 => v = .non ∧ Q (.ref x) G2) (E τ)) :
    wpAny (model X.prog X.w) X.A (call (.ref C) us (ks.zip ws)) (EP X pins τ Q) X.xe s := by
  let z := s.heap.objs.size
  have q0 := h (z + 1) z (I.hok.fresh (Nat.le_succ _)) (I.hok.fresh (Nat.le_refl _)) (Nat.ne_of_lt (Nat.lt_succ_self _))
  have J := Inv.made (C := C) I
  have rr : Vals (V.ref (z + 1) :: vs) (Value.ref (z + 1) :: us) := .cons rfl rv
  have hn : (Value.ref (z + 1) :: us).length = n + 1 := congrArg (· + 1) (rv.length.symm.trans lv)
  have run := F.run _ X.stack _ _ ⟨Value.ref (z + 1) :: us, ks.zip ws⟩ (gU (Value.ref (z + 1) :: us) ws) _ _ (E τ) (room.make C us (ks.zip ws)) (J.env0.make C us (ks.zip ws)) (kb.to _ (Value.ref (z + 1) :: us) ws J.kIn hn (rz.length.symm.trans lz)) (kb.rel rr rz) q0
  refine wpAny_call (make_map (f := f) I.kIn M.makes M.init (beq_iff_eq.mp M.fn) (codeAny_mono run fun fin s2 y => ?_))
  cases fin with
  | error er => exact hx pins _ _ er s2 J y
  | ok fl =>
    cases fl with
    | next => exact y.elim
    | brk => exact y.elim
    | cont => exact y.elim
    | ret u =>
      obtain ⟨v, G2, J2, rv2, ev, q3⟩ := J.after y
      subst ev
      exact ⟨rv2, ⟨V.ref (z + 1), G2, J2, rfl, q3⟩⟩
theorem pe_newK (M : Mk X.K C f) (F : FnOk X.prog X.w X.K X.mg X.base (L2.CX X.prog X.w) k f fd ps sp) (room : Room (k + 1) X.A) (hg : Gl X x) (hm : X.mg x = some (.ref C)) (kb : KBn X.K fd ps (n + 1) ks gU gV) (hx : ∀ τ, PassesAt (L2.CX X.prog X.w) X τ (E τ)) (ha : PA X (e :: es) t) (hk : PK X kws tk)
    (hall : (backToKw pos (keywordEach kws X.env)).all (·.1.isSome) = true := by rfl) (hks : (backToKw pos (keywordEach kws X.env)).filterMap (·.1) = ks := by rfl) (hdb : (x == ("__debug__" : Str)) = false := by decide)
    (he : starEach (e :: es) X.env = (false, eval e X.env) :: starEach es X.env := by rfl) (hpl : ((backTo pos (starEach (e :: es) X.env)).any (·.1) || (backToKw pos (keywordEach kws X.env)).any (·.1.isNone)) = false := by rfl) :
    PE X (.Call (.Name x p) (e :: es) kws pos) (tNewK C n ks.length sp gV E t tk) :=
  ⟨fun pins s τ G Q I h => wpAny_Call_Name_kw (ld_glob I hg hm (PySem.W.callWith_KW (h₀ := X.base) I.ok.mod.kin M.kp hall (thn (ha.run pos pins s τ G _ I h) fun us s1 ⟨vs, G1, I1, rv, q⟩ =>
    thn (hk.run pos pins s1 τ G1 _ I1 q) fun ws s2 ⟨zs, G2, I2, rz, lv, lz, q2⟩ => ⟨I2.kIn, by rw [hks]; exact run_newK M F room kb (hx τ) I2 rv rz lv lz q2⟩) hpl he) hdb)⟩
/-- .. the class in a slot -/
def tNewL (i : Nat) (C : Addr) (n m : Nat) (sp : Sp) (gV : List V → List V → List V) (E : L2.St → XK) (t tk : TA) : TE := fun τ G Q => τ[i]? = some (some (.ref C)) ∧ tNewK C n m sp gV E t tk τ G Q
theorem pe_newL (M : Mk X.K C f) (F : FnOk X.prog X.w X.K X.mg X.base (L2.CX X.prog X.w) k f fd ps sp) (room : Room (k + 1) X.A) (hN : X.N[i]? = some x) (hv : Vis X.env.scope x) (kb : KBn X.K fd ps (n + 1) ks gU gV) (hx : ∀ τ, PassesAt (L2.CX X.prog X.w) X τ (E τ)) (ha : PA X (e :: es) t) (hk : PK X kws tk)
    (hall : (backToKw pos (keywordEach kws X.env)).all (·.1.isSome) = true := by rfl) (hks : (backToKw pos (keywordEach kws X.env)).filterMap (·.1) = ks := by rfl) (hdb : (x == ("__debug__" : Str)) = false := by decide) (hcd : (x == ("__classdict__" : Str)) = false := by decide)
    (he : starEach (e :: es) X.env = (false, eval e X.env) :: starEach es X.env := by rfl) (hpl : ((backTo pos (starEach (e :: es) X.env)).any (·.1) || (backToKw pos (keywordEach kws X.env)).any (·.1.isNone)) = false := by rfl) :
    PE X (.Call (.Name x p) (e :: es) kws pos) (tNewL i C n ks.length sp gV E t tk) := by
  refine ⟨fun pins s τ G Q I ⟨hs, h⟩ => ?_⟩
  refine wpAny_Call_Name_kw (thn ((pe_var (pos := p) hN hv hdb hcd).run pins s τ G (fun v G1 => v = .ref C ∧ G1 = G) I ⟨.ref C, hs, rfl, rfl⟩) fun u s0 ⟨v, G0, I0, r0, q0⟩ => ?_)
  obtain ⟨rfl, rfl⟩ := q0
  obtain rfl : u = Value.ref C := r0
  exact PySem.W.callWith_KW (h₀ := X.base) I.ok.mod.kin M.kp hall (thn (ha.run pos pins s0 τ _ _ I0 h) fun us s1 ⟨vs, G1, I1, rv, q⟩ =>
    thn (hk.run pos pins s1 τ G1 _ I1 q) fun ws s2 ⟨zs, G2, I2, rz, lv, lz, q2⟩ => ⟨I2.kIn, by rw [hks]; exact run_newK M F room kb (hx τ) I2 rv rz lv lz q2⟩) hpl he
/-! ### a def by what its values are (a star among its parameters) -/
theorem run_R {pins : List (Addr × Obj)} {τ : L2.St} {G : Hp} {s : Shared} {Q : VK} {us : List Value} {vs : List V} (F : FnR X.prog X.w X.K X.mg X.base (L2.CX X.prog X.w) k f sp) (room : Room k X.A) (hx : PassesAt (L2.CX X.prog X.w) X τ (E τ)) (I : Inv X pins τ G s) (rv : Vals vs us) (h : sp vs G Q (E τ)) :
    codeAny (model X.prog X.w) X.A (.call (.ref f) ⟨us, []⟩) (fun fin s2 => match fin with | .ok (.ret v) => EP X pins τ Q v s2 | .ok _ => False | .error er => X.xe er s2) s := by
  refine codeAny_mono (F X.A X.stack s G us vs Q (E τ) room I.env0 rv h) fun fin s2 y => ?_
  cases fin with
  | error er => exact hx pins G s er s2 I y
  | ok fl =>
    cases fl with
    | next => exact y.elim
    | brk => exact y.elim
    | cont => exact y.elim
    | ret u => exact I.after y
theorem pe_callR (F : FnR X.prog X.w X.K X.mg X.base (L2.CX X.prog X.w) k f sp) (room : Room k X.A) (hg : Gl X x) (hm : X.mg x = some (.ref f)) (kp : PySem.W.keepIn X.K (.ref f) = true) (hx : ∀ τ, PassesAt (L2.CX X.prog X.w) X τ (E τ)) (ha : PA X (e :: es) t)
    (hdb : (x == ("__debug__" : Str)) = false := by decide) (he : starEach (e :: es) X.env = (false, eval e X.env) :: starEach es X.env := by rfl) (hpl : (backTo pos (starEach es X.env)).any (·.1) = false := by rfl) :
    PE X (.Call (.Name x p) (e :: es) [] pos) (fun τ G Q => t τ G fun vs G1 => sp vs G1 Q (E τ)) :=
  ⟨fun pins s τ G Q I h => wpAny_Call_Name_kw (ld_glob I hg hm (PySem.W.callWith_K (h₀ := X.base) I.ok.mod.kin kp (thn (ha.run pos pins s τ G _ I h) fun us s1 ⟨vs, G1, I1, rv, q⟩ => ⟨I1.kIn, wpAny_call (run_R F room (hx τ) I1 rv q)⟩) he hpl) hdb)⟩
theorem pe_callRS (F : FnR X.prog X.w X.K X.mg X.base (L2.CX X.prog X.w) k f sp) (room : Room k X.A) (hg : Gl X x) (hm : X.mg x = some (.ref f)) (kp : PySem.W.keepIn X.K (.ref f) = true) (hx : ∀ τ, PassesAt (L2.CX X.prog X.w) X τ (E τ)) (ha : PA X (e :: es) t)
    (hdb : (x == ("__debug__" : Str)) = false := by decide) (he : starEach (e :: es) X.env = (false, eval e X.env) :: starEach es X.env := by rfl) (hst : (backTo pos (starEach es X.env)).any (·.1) = true := by rfl) :
    PE X (.Call (.Name x p) (e :: es) [] pos) (fun τ G Q => t τ G fun vs G1 => sp vs G1 Q (E τ)) :=
  ⟨fun pins s τ G Q I h => wpAny_Call_Name_kw (ld_glob I hg hm (PySem.W.callWith_S2 (h₀ := X.base) I.ok.mod.kin kp (thn (ha.run pos pins s τ G _ I h) fun us s1 ⟨vs, G1, I1, rv, q⟩ => ⟨I1.kIn, wpAny_call (run_R F room (hx τ) I1 rv q)⟩) he hst) hdb)⟩
/-! ### C.m(..), m a classmethod -/
theorem pe_clsm {mc : Value} {rp : Addr} {pl : Sem Bool} (ho : PE X o to) (cr : ClX.CRead X.K C mc) (cm : ClX.CMet X.K C mc m rp g) (F : FnR X.prog X.w X.K X.mg X.base (L2.CX X.prog X.w) k g sp) (room : Room k X.A) (hx : ∀ τ, PassesAt (L2.CX X.prog X.w) X τ (E τ)) (ha : PA X (e :: es) t)
    (hst : starEach (e :: es) X.env = (false, eval e X.env) :: starEach es X.env := by rfl) (hpl : (backTo pos (starEach es X.env)).any (·.1) = false := by rfl)
    (ht : eval (.Call (.Attribute o m apos) (e :: es) [] pos) X.env = (do
      let y ← eval o X.env
      standAt apos.atName
      let (u, ahead) ← holding [y] (getMethod y m pl)
      callWith pos u ahead (backTo pos (starEach (e :: es) X.env)) (backToKw pos (keywordEach [] X.env))) := by rfl) :
    PE X (.Call (.Attribute o m apos) (e :: es) [] pos) (fun τ G Q => to τ G fun x G1 => x = .ref C ∧ t τ G1 fun vs G2 => sp (.ref C :: vs) G2 Q (E τ)) := by
  refine ⟨fun pins s τ G Q I h => PySem.W.methodCall_KW (pl := pl) (thn (ho.run pins s τ G _ I h) fun u s1 ⟨x, G1, I1, rx, ex, q⟩ => ?_) ht⟩
  subst ex
  obtain rfl : u = Value.ref C := rx
  refine ClX.getmethcm_ok I1 cr cm fun s2 I2 => ?_
  refine ClX.callwith_cm I2 (ClX.base_none I1 (Nat.le_refl _)) cm.fi (thn (ha.run pos _ s2 τ G1 _ I2 q) fun us s3 ⟨vs, G2, I3, rv, q2⟩ => ⟨⟨ClX.pin_at I3, I3.kIn⟩, ?_⟩) hst hpl
  exact thn (wpAny_call (PySem.W.method_call (ClX.pin_at I3) (run_R (us := .ref C :: us) (vs := .ref C :: vs) F room (hx τ) I3 (.cons rfl rv) q2))) fun _ _ y => ClX.unpinE y
end
end DL

set_option Elab.async false
set_option linter.all false
set_option maxRecDepth 100000
/-! the same in data -/
namespace DL
open PySem PySem.Spec PyProof.Rows L2
section
variable {K : PySem.W.Frag} {c : Fc} {W : WX} {F H : Hp} {ow : Addr → Option Hold} {δ : DSt} {tmp : List (V × DV)} {σ : L2.St}
theorem SttF.pushL : ∀ {vs : List V} {ds : List D} {tmp : List (V × DV)}, SttF K c F ow δ tmp σ H → RepL K F vs ds → SttF K c F ow δ (vs.zip (ds.map .d) ++ tmp) σ H
  | _, _, _, S, .nil => S
  | _, _, _, S, .cons h t => (SttF.pushL S t).push h
theorem SttF.popL : ∀ {vs : List V} {ds : List D} {tmp : List (V × DV)}, vs.length = ds.length → SttF K c F ow δ (vs.zip (ds.map .d) ++ tmp) σ H → RepL K F vs ds ∧ SttF K c F ow δ tmp σ H
  | [], [], _, _, S => ⟨.nil, S⟩
  | v :: vs, d :: ds, tmp, hl, S => by
    have S' : SttF K c F ow δ ((v, .d d) :: (vs.zip (ds.map .d) ++ tmp)) σ H := S
    obtain ⟨r, S2⟩ := SttF.popL (Nat.succ.inj hl) S'.pop
    exact ⟨.cons S'.top r, S2⟩
theorem WD.pushL {Ed : XD} {l : List (V × DV)} (w : WD K c W tmp Ed) : WD K c W (l ++ tmp) Ed := by
  induction l with
  | nil => exact w
  | cons a l ih => obtain ⟨v, x⟩ := a; exact ih.push
theorem RepL.avs : ∀ {vs : List V} {ds : List D}, RepL K F vs ds → RepArgs K F σ vs (ds.map .d)
  | _, _, .nil => .nil
  | _, _, .cons h t => .d h t.avs
theorem argsOf_d : ∀ {ds : List D}, argsOf δ (ds.map .d) (ds.map .d)
  | [] => rfl
  | _ :: _ => ⟨_, rfl, argsOf_d⟩
theorem slots_d : ∀ {ds : List D}, slotsOf (ds.map .d) = []
  | [] => rfl
  | _ :: ds => slots_d (ds := ds)
end
section
variable {X : Cx} {c : Fc} {W : WX} {k n : Nat} {f g C : Addr} {fd : FuncData} {ps ks : List Str} {sd : SpD} {x m : Str} {p pos apos kpos : Pos} {e o : Expr} {es : List Expr} {kws : List Keyword} {t : TD} {ta tk : TDA} {nm : Option Str} {gU : List Value → List Value → List Value} {gV : List V → List V → List V} {i : Nat}
theorem PK_imp {t t' : TA} (h : PK X kws t) (f : ∀ σ H Q, t' σ H Q → t σ H Q) : PK X kws t' := ⟨fun pos pins s σ H Q I q => h.run pos pins s σ H Q I (f _ _ _ q)⟩
theorem pkd_nil : PK X [] (LA X.K c W nilD) := PK_imp pk_nil fun σ H Q ⟨δ, tmp, Qd, Ed, ⟨F, ow, S⟩, q, k, w⟩ => k [] [] δ F ow H q S .nil
theorem pkd_cons (he : PE X e (LE X.K c W t)) (hr : PK X kws (LA X.K c W tk)) : PK X (⟨nm, e, kpos⟩ :: kws) (LA X.K c W (consD t tk)) :=
  PK_imp (pk_cons he hr) fun σ H Q ⟨δ, tmp, Qd, Ed, S, t, k, w⟩ => ⟨δ, tmp, _, Ed, S, t, fun v x δ1 H1 q1 ⟨F, ow, S1⟩ => by
    obtain ⟨F', S2, _⟩ := S1.top_frz
    exact ⟨δ1, _, _, Ed, ⟨F', ow, S2⟩, q1, fun vs as δ2 F2 ow2 H2 q2 S3 ra => k _ _ _ _ _ _ q2 S3.pop (.d S3.top ra), w.push⟩, w⟩
/-- C(.., k = v, ..) of data alone; dd: the defaults behind -/
def newKD (C : Addr) (n m : Nat) (dd : List D) (sd : SpD) (ta tk : TDA) : TD := fun δ Q E => ta δ (fun as δ1 => ∃ ds, as = ds.map .d ∧ ds.length = n ∧ tk δ1 (fun zs δ2 => ∃ es, zs = es.map .d ∧ es.length = m ∧
  sd (.own (.ins C []) :: (ds ++ es ++ dd).map .d) (fun r os => r = .d .non ∧ ∃ fs os', os = .ins C fs :: os' ∧ Q (.d (.obj C fs)) δ2) (fun x os => ∃ o os', os = o :: os' ∧ E x δ2)) E) E
theorem lift_newK {K : PySem.W.Frag} {dv : List V} {dd : List D} {tA tB : TA} {m : Nat} (hA : tA = LA K c W ta) (hB : tB = LA K c W tk) (hd : ∀ F, RepL K F dv dd) (hg : ∀ v vs zs, gV (v :: vs) zs = v :: (vs ++ zs ++ dv)) : ∀ σ H Q, LE K c W (newKD C n m dd sd ta tk) σ H Q → tNewK C n m (spOf K sd) gV (WE W) tA tB σ H Q := by
  subst hA hB
  rintro σ H Q ⟨δ, tmp, Qd, Ed, S, t, k, w⟩
  refine ⟨δ, tmp, _, Ed, S, t, fun vs as δ1 F ow H1 ⟨ds, ea, ln, t1⟩ S1 ra => ?_, w⟩
  subst ea
  have r1 := args_d ra
  refine ⟨δ1, vs.zip (ds.map .d) ++ tmp, _, Ed, ⟨F, ow, S1.pushL r1⟩, t1, fun zs bs δ2 F2 ow2 H2 ⟨es, eb, lm, h⟩ S2 rb => ?_, w.pushL⟩
  subst eb
  have r2 := args_d rb
  obtain ⟨r1, S3⟩ := S2.popL r1.len
  refine ⟨r1.len.trans ln, r2.len.trans lm, fun y dy ny ndy ne => ?_⟩
  rw [hg]
  refine lift_make (as := (ds ++ es ++ dd).map .d) (xs := (ds ++ es ++ dd).map .d) (Qd := Qd) (Ed := Ed) S3 ((r1.app r2).app (hd F2)).avs argsOf_d (by rw [slots_d]; exact .nil) ?_ k w y dy ny ndy ne
  rw [slots_d]
  exact h
/-- the class called by its name -/
theorem pd_newK {dv : List V} {dd : List D} (M : Mk X.K C f) (G : FnOk X.prog X.w X.K X.mg X.base (L2.CX X.prog X.w) k f fd ps (spOf X.K sd)) (hr : Room (k + 1) X.A) (hg : Gl X x) (hm : X.mg x = some (.ref C)) (kb : KBn X.K fd ps (n + 1) ks gU gV) (hd : ∀ F, RepL X.K F dv dd) (hv : ∀ v vs zs, gV (v :: vs) zs = v :: (vs ++ zs ++ dv)) (tk0 : Takes X W)
    (ha : PA X (e :: es) (LA X.K c W ta)) (hk : PK X kws (LA X.K c W tk))
    (hall : (backToKw pos (keywordEach kws X.env)).all (·.1.isSome) = true := by rfl) (hks : (backToKw pos (keywordEach kws X.env)).filterMap (·.1) = ks := by rfl) (hdb : (x == ("__debug__" : Str)) = false := by decide)
    (he : starEach (e :: es) X.env = (false, eval e X.env) :: starEach es X.env := by rfl) (hpl : ((backTo pos (starEach (e :: es) X.env)).any (·.1) || (backToKw pos (keywordEach kws X.env)).any (·.1.isNone)) = false := by rfl) :
    PE X (.Call (.Name x p) (e :: es) kws pos) (LE X.K c W (newKD C n ks.length dd sd ta tk)) :=
  PE_imp (pe_newK (E := WE W) M G hr hg hm kb (fun τ => passAt tk0 τ) ha hk hall hks hdb he hpl) (lift_newK rfl rfl hd hv)
/-- the class in slot i -/
def newLD (i : Nat) (C : Addr) (n m : Nat) (dd : List D) (sd : SpD) (ta tk : TDA) : TD := fun δ Q E => δ[i]? = some (some (.d (.adr C))) ∧ newKD C n m dd sd ta tk δ Q E
theorem pd_newL {dv : List V} {dd : List D} (M : Mk X.K C f) (G : FnOk X.prog X.w X.K X.mg X.base (L2.CX X.prog X.w) k f fd ps (spOf X.K sd)) (hr : Room (k + 1) X.A) (hN : X.N[i]? = some x) (hvi : Vis X.env.scope x) (kb : KBn X.K fd ps (n + 1) ks gU gV) (hd : ∀ F, RepL X.K F dv dd) (hv : ∀ v vs zs, gV (v :: vs) zs = v :: (vs ++ zs ++ dv)) (tk0 : Takes X W)
    (ha : PA X (e :: es) (LA X.K c W ta)) (hk : PK X kws (LA X.K c W tk))
    (hall : (backToKw pos (keywordEach kws X.env)).all (·.1.isSome) = true := by rfl) (hks : (backToKw pos (keywordEach kws X.env)).filterMap (·.1) = ks := by rfl) (hdb : (x == ("__debug__" : Str)) = false := by decide) (hcd : (x == ("__classdict__" : Str)) = false := by decide)
    (he : starEach (e :: es) X.env = (false, eval e X.env) :: starEach es X.env := by rfl) (hpl : ((backTo pos (starEach (e :: es) X.env)).any (·.1) || (backToKw pos (keywordEach kws X.env)).any (·.1.isNone)) = false := by rfl) :
    PE X (.Call (.Name x p) (e :: es) kws pos) (LE X.K c W (newLD i C n ks.length dd sd ta tk)) :=
  PE_imp (pe_newL (E := WE W) (i := i) M G hr hN hvi kb (fun τ => passAt tk0 τ) ha hk hall hks hdb hcd he hpl) fun σ H Q ⟨δ, tmp, Qd, Ed, ⟨F, ow, S⟩, ⟨ei, t⟩, k, w⟩ => by
    obtain ⟨v, e1, r⟩ := S.sl _ _ ei
    cases (show Rep X.K F v (.adr C) from r)
    exact ⟨e1, lift_newK rfl rfl hd hv σ H Q ⟨δ, tmp, Qd, Ed, ⟨F, ow, S⟩, t, k, w⟩⟩
/-! ### by values alone -/
def callRD (sd : SpD) (ta : TDA) : TD := fun δ Q E => ta δ (fun as δ1 => ∃ ds : List D, as = ds.map .d ∧ sd (ds.map .d) (fun r _ => Q r δ1) (fun x _ => E x δ1)) E
theorem lift_R : ∀ σ H Q, LE X.K c W (callRD sd ta) σ H Q → LA X.K c W ta σ H fun vs H1 => spOf X.K sd vs H1 Q (WE W σ) := fun σ H Q ⟨δ, tmp, Qd, Ed, S, t, k, w⟩ =>
  ⟨δ, tmp, _, Ed, S, t, fun vs as δ1 F ow H1 ⟨ds, ea, h⟩ S1 ra => by
    subst ea
    exact lift_data S1 (args_d ra) h k w, w⟩
theorem pd_callR (G : FnR X.prog X.w X.K X.mg X.base (L2.CX X.prog X.w) k f (spOf X.K sd)) (hr : Room k X.A) (hg : Gl X x) (hm : X.mg x = some (.ref f)) (kp : PySem.W.keepIn X.K (.ref f) = true) (tk0 : Takes X W) (ha : PA X (e :: es) (LA X.K c W ta))
    (hdb : (x == ("__debug__" : Str)) = false := by decide) (he : starEach (e :: es) X.env = (false, eval e X.env) :: starEach es X.env := by rfl) (hpl : (backTo pos (starEach es X.env)).any (·.1) = false := by rfl) :
    PE X (.Call (.Name x p) (e :: es) [] pos) (LE X.K c W (callRD sd ta)) :=
  PE_imp (pe_callR (E := WE W) G hr hg hm kp (fun τ => passAt tk0 τ) ha hdb he hpl) lift_R
/-- C.m(..) -/
def clsmD (C : Addr) (sd : SpD) (to : TD) (ta : TDA) : TD := fun δ Q E => to δ (fun o δ1 => o.toD = .adr C ∧ ta δ1 (fun as δ2 => ∃ ds : List D, as = ds.map .d ∧ sd (.d (.adr C) :: ds.map .d) (fun r _ => Q r δ2) (fun x _ => E x δ2)) E) E
theorem pd_clsm {mc : Value} {rp : Addr} {pl : Sem Bool} {to : TD} (ho : PE X o (LE X.K c W to)) (cr : ClX.CRead X.K C mc) (cm : ClX.CMet X.K C mc m rp g) (G : FnR X.prog X.w X.K X.mg X.base (L2.CX X.prog X.w) k g (spOf X.K sd)) (hr : Room k X.A) (tk0 : Takes X W) (ha : PA X (e :: es) (LA X.K c W ta))
    (hst : starEach (e :: es) X.env = (false, eval e X.env) :: starEach es X.env := by rfl) (hpl : (backTo pos (starEach es X.env)).any (·.1) = false := by rfl)
    (ht : eval (.Call (.Attribute o m apos) (e :: es) [] pos) X.env = (do
      let y ← eval o X.env
      standAt apos.atName
      let (u, ahead) ← holding [y] (getMethod y m pl)
      callWith pos u ahead (backTo pos (starEach (e :: es) X.env)) (backToKw pos (keywordEach [] X.env))) := by rfl) :
    PE X (.Call (.Attribute o m apos) (e :: es) [] pos) (LE X.K c W (clsmD C sd to ta)) :=
  PE_imp (pe_clsm (E := WE W) ho cr cm G hr (fun τ => passAt tk0 τ) ha hst hpl ht) fun σ H Q ⟨δ, tmp, Qd, Ed, S, t, k, w⟩ =>
    ⟨δ, tmp, _, Ed, S, t, fun v y δ1 H1 ⟨ey, t1⟩ ⟨F, ow, S1⟩ => by
      obtain ⟨F', S2, _⟩ := S1.top_frz
      rw [ey] at S2
      have r := S2.top
      cases r
      exact ⟨rfl, δ1, tmp, _, Ed, ⟨F', ow, S2.pop⟩, t1, fun vs as δ2 F2 ow2 H2 ⟨ds, ea, h⟩ S3 ra => by
        subst ea
        exact lift_data (ds := .adr C :: ds) S3 (.cons (.adr C) (args_d ra)) h k w, w⟩, w⟩
end
/-! ### a def with a star -/
def starD (n : Nat) (sd : SpD) : SpD := fun as Q E => ∃ ds es : List D, as = (ds ++ es).map .d ∧ ds.length = n ∧ es.length ≤ sizeLine ∧ sd ((ds ++ [D.tup es]).map .d) (fun r _ => Q r []) (fun x _ => E x [])
section
variable {P : Program} {w : World} {K : PySem.W.Frag} {mg : Str → Option Value} {base : Heap}
theorem repL_split {F : Hp} : ∀ {ds es : List D} {vs : List V}, RepL K F vs (ds ++ es) → ∃ us ws, vs = us ++ ws ∧ RepL K F us ds ∧ RepL K F ws es
  | [], _, vs, r => ⟨[], vs, rfl, .nil, r⟩
  | _ :: _, _, _, .cons h t => by
    obtain ⟨us, ws, e, r1, r2⟩ := repL_split t
    exact ⟨_ :: us, ws, congrArg _ e, .cons h r1, r2⟩
theorem argsRep_d {F H : Hp} : ∀ {ds : List D} {vs : List V} {ps : List Addr}, ArgsRep K F H vs (ds.map .d) ps → RepL K F vs ds ∧ ps = []
  | [], _, _, .nil => ⟨.nil, rfl⟩
  | _ :: _, _, _, .d h t => ⟨.cons h (argsRep_d t).1, (argsRep_d t).2⟩
theorem okStar {x qual pv : Str} {st : Stmt} {f : Addr} {fd : FuncData} {N ps : List Str} {k : Nat} {sd : SpD} (G : Fun K x qual st f fd) (S : FnScope N (ps ++ [pv]) (defScope st)) (len : ∀ as Q E, sd as Q E → ownIx as 0 = [])
    (hb : ∀ (kV doc pm : Value) (an : Option Addr) (cdv ct : Value) (us rest : List Value), us.length = ps.length → bindArgs (PySem.W.fnOf x qual (defArgs st) (defBody st) (defScope st) .none kV doc pm an cdv ct) ⟨us ++ rest, []⟩ = (newTuple rest >>= fun t => pure (ps.zip us ++ [(pv, t)])))
    (hbody : ∃ t : TDS, (∀ (cdv : Value) (A : Around) (outer : List Env) (s : Shared) (H : Hp) (E : XK) (ad : List Addr) (F0 H0 : Hp), Room k (A.deeper (envOfC qual (defScope st) s.heap.objs.size f cdv)) →
        PSs (cxOf (L2.CX P w) P w K mg base N qual (defScope st) f cdv A outer s H E) (defBody st) (LS K ⟨[], ad, F0, H0⟩ (fun cls d _ H => E cls d H) t)) ∧
      ∀ as Qd Ed, sd as Qd Ed → t (endsD [] Qd Ed) (startD N.length as)) :
    FnR P w K mg base (L2.CX P w) (k + 1) f (spOf K (starD ps.length sd)) := by
  obtain ⟨t, ht, hq⟩ := hbody
  obtain ⟨oc, od, kV, doc, pm, an, cdv, ct, osl, rfl, lk, hcd⟩ := G.ex
  have body := StX.fn_star (CX := L2.CX P w) (sp := spOf K sd) (k := k) (mg := mg) (base := base) (w := w) (P := P) lk hcd S StX.cxUp (fun us rest hl => hb kV doc pm an cdv ct us rest hl) (fun A outer s H vs Q E hr ⟨F, as, qs, Qd, Ed, sm, ar, h, kq, ke⟩ => by
    have hsl := len _ _ _ h
    have S0 := entry (N := N) sm ar
    rw [hsl] at S0
    have hpl : qs.length = ([] : List Nat).length := by rw [← hsl]; exact ar.plen
    have hqs : qs = [] := List.length_eq_zero_iff.mp hpl
    subst hqs
    have post : ∀ {δ' : DSt} {tmp : List (V × DV)} {σ' : L2.St} {F' H' : Hp} {ow' : Addr → Option Hold} {os : List OC}, SttF K ⟨[], [], F, H⟩ F' ow' δ' tmp σ' H' → takeB δ' [] os → Post K F H [] os F' H' := fun {δ' tmp σ' F' H' ow' os} S' tb =>
      ⟨S'.f0, S'.fh, S'.fr, S'.up, S'.fn, takeB_reps S' hpl S'.ps tb⟩
    refine ⟨_, ht cdv A outer s H E [] F H hr, startD N.length as, [], endsD [] Qd Ed, ⟨F, _, S0⟩, hq as Qd Ed h, fun δ' σ' H' ⟨os, tb, q⟩ ⟨F', ow', S'⟩ => ?_, fun v x δ' σ' H' ⟨os, tb, q⟩ ⟨F', ow', S'⟩ => ?_, fun _ _ _ z => z.elim, fun _ _ _ z => z.elim, fun x δ' σ' H' F' ow' cls d ⟨os, tb, q⟩ S' er => ?_⟩
    · exact kq .non (.d .non) os F' H' q (post S' tb) .non
    · refine kq v x os F' H' q (post S' tb) ?_
      cases x with
      | d y => exact S'.top
      | own o =>
        obtain ⟨p, rfl, e, b, n, r⟩ := S'.tm.1
        exact ⟨p, rfl, n.t, b, r⟩
    · exact ke cls d x os F' H' q (post S' tb) er)
  refine body.imp fun vs H Q E ⟨F, as, qs, Qd, Ed, sm, ar, ⟨ds, es, ea, hn, hz, h⟩, kq, ke⟩ => ?_
  subst ea
  obtain ⟨r, rfl⟩ := argsRep_d ar
  obtain ⟨us, ws, rfl, r1, r2⟩ := repL_split r
  refine ⟨us, ws, rfl, r1.len.trans hn, by rw [r2.len]; exact hz, fun p hp => ?_⟩
  have e1 : Ext F H (upd F p (.tup ws)) (upd H p (.tup ws)) := Ext.new sm hp
  have back : ∀ {os : List OC} {F' H' : Hp}, Post K (upd F p (.tup ws)) (upd H p (.tup ws)) [] os F' H' → Post K F H [] [] F' H' := fun {os F' H'} Pq =>
    ⟨e1.f.trans Pq.f, Pq.fh, fun a u e _ => Pq.fr a u (e1.h _ _ e) (fun z => nomatch z), fun a z => e1.h.free (Pq.up a z), fun a z => (Pq.nw a z).elim (e1.nw a) fun y => .inr (e1.h.free y), .nil⟩
  refine ⟨upd F p (.tup ws), (ds ++ [D.tup es]).map .d, [], _, _, e1.fh, ?_, h, fun v x os F' H' q Pq rr => kq v x [] F' H' q (back Pq) ?_, fun cls d x os F' H' q Pq er => ke cls d x [] F' H' q (back Pq) er⟩
  · exact ((r1.mono e1.f).app (.cons (.tup upd_same (r2.mono e1.f)) .nil)).args
  · cases x with
    | d y => exact rr
    | own o =>
      obtain ⟨q, e, nq, b, z⟩ := rr
      exact ⟨q, e, e1.h.free nq, b, z⟩
/-- a def whose keyword-only parameters lack -/
theorem FnOk.rawK {k n : Nat} {f : Addr} {fd : FuncData} {ps : List Str} {sp : Sp} {gU : List Value → List Value → List Value} {gV : List V → List V → List V} (F : FnOk P w K mg base (L2.CX P w) k f fd ps sp) (kb : KBn K fd ps n [] gU gV) : FnR P w K mg base (L2.CX P w) k f (fun vs H Q E => vs.length = n ∧ sp (gV vs []) H Q E) := by
  intro A outer s H us vs Q E hr e0 r ⟨hl, hs⟩
  have z := kb.to s us [] (e0.mod.kin.keeps fun b o e => (e0.bs b o e).1) (r.length.symm.trans hl) rfl
  exact F.run A outer s H ⟨us, []⟩ (gU us []) (gV vs []) Q E hr e0 z (kb.rel r .nil) hs
/-- .. in data: dd the defaults -/
def dfltD (n : Nat) (dd : List D) (sd : SpD) : SpD := fun as Q E => ∃ ds : List D, as = ds.map .d ∧ ds.length = n ∧ sd ((ds ++ dd).map .d) (fun r _ => Q r []) (fun x _ => E x [])
theorem FnOk.dflt {k n : Nat} {f : Addr} {fd : FuncData} {ps : List Str} {sd : SpD} {dv : List V} {dd : List D} {gU : List Value → List Value → List Value} {gV : List V → List V → List V} (F : FnOk P w K mg base (L2.CX P w) k f fd ps (spOf K sd)) (kb : KBn K fd ps n [] gU gV) (hd : ∀ F, RepL K F dv dd) (hg : ∀ vs, gV vs [] = vs ++ dv) :
    FnR P w K mg base (L2.CX P w) k f (spOf K (dfltD n dd sd)) := (DL.FnOk.rawK F kb).imp fun vs H Q E ⟨F, as, qs, Qd, Ed, sm, ar, ⟨ds, ea, hn, h⟩, kq, ke⟩ => by
  subst ea
  obtain ⟨r, rfl⟩ := argsRep_d ar
  refine ⟨r.len.trans hn, ?_⟩
  rw [hg]
  exact ⟨F, _, [], _, _, sm, (r.app (hd F)).args, h, fun v x os F' H' q Pq rr => kq v x [] F' H' q (by cases Pq.nil; exact Pq) rr, fun cls d x os F' H' q Pq er => ke cls d x [] F' H' q (by cases Pq.nil; exact Pq) er⟩
end
end DL
namespace DR
open PySem PySem.Spec PyProof.Rows L2 DL
section
variable {δ : DSt} {Q : DK} {E : XD}
theorem newk {C : Addr} {n m : Nat} {dd : List DL.D} {sd : SpD} {ta tk : TDA} (h : ta δ (fun as δ1 => ∃ ds, as = ds.map .d ∧ ds.length = n ∧ tk δ1 (fun zs δ2 => ∃ es, zs = es.map .d ∧ es.length = m ∧
  sd (.own (.ins C []) :: (ds ++ es ++ dd).map .d) (fun r os => r = .d .non ∧ ∃ fs os', os = .ins C fs :: os' ∧ Q (.d (.obj C fs)) δ2) (fun x os => ∃ o os', os = o :: os' ∧ E x δ2)) E) E) : newKD C n m dd sd ta tk δ Q E := h
theorem newl {i : Nat} {C : Addr} {n m : Nat} {dd : List DL.D} {sd : SpD} {ta tk : TDA} (e : δ[i]? = some (some (.d (.adr C)))) (h : newKD C n m dd sd ta tk δ Q E) : newLD i C n m dd sd ta tk δ Q E := ⟨e, h⟩
theorem callr {sd : SpD} {ta : TDA} (h : ta δ (fun as δ1 => ∃ ds : List DL.D, as = ds.map .d ∧ sd (ds.map .d) (fun r _ => Q r δ1) (fun x _ => E x δ1)) E) : callRD sd ta δ Q E := h
theorem clsm {C : Addr} {sd : SpD} {to : TD} {ta : TDA} (h : to δ (fun o δ1 => o.toD = .adr C ∧ ta δ1 (fun as δ2 => ∃ ds : List DL.D, as = ds.map .d ∧ sd (.d (.adr C) :: ds.map .d) (fun r _ => Q r δ2) (fun x _ => E x δ2)) E) E) : clsmD C sd to ta δ Q E := h
end
end DR

set_option Elab.async false
set_option linter.all false
set_option maxRecDepth 100000
/-! walking an object whose __iter__ hands back iter(self.f), f a tuple -/
namespace DL
open PySem PySem.Spec PyProof.Rows L2
/-! ### iter of a tuple -/
abbrev titObj (l : Addr) : Obj := { cls := .type "tuple_iterator", data := .fields #[.ref l, .int 0 0] }
def TitO (l it : Addr) : HO := .ext fun h => h.get? it = some (titObj l)
theorem titO_ok {P : Program} {w : World} {G : Hp} {h : Heap} {l it : Addr} (e : h.get? it = some (titObj l)) : ObjOk P w G h it (TitO l it) := ⟨e, ⟨_, e⟩, fun _ _ q k => k _ q⟩
theorem run_iterT {prog : Program} {w : World} {A : Around} {E : Value → Shared → Prop} {s : Shared} {l : Addr} {items : Array Value} {Q : Value → Shared → Prop} (hl : s.heap.IsTuple l items) (h : Q (.ref s.heap.objs.size) { s with heap := s.heap.push (titObj l) }) : wpAny (model prog w) A (call (.builtin "iter") [.ref l]) Q E s := by
  refine Calls.call_function_entry (by decide +kernel) (by decide +kernel) PySem.W.kdk_entry_iter (PySem.W.kdk_args_iter _) ?_
  unfold Builtin.«iter»
  refine wpAny_bind (m := someArgs "iter" 1 2 _) (wpAny_of_eq (a := [Value.ref l]) (by first | rfl | kernel_rfl!) ?_)
  show wpAny _ _ (pyIter (.ref l) >>= _) _ _ s
  exact wpAny_bind (wpAny_pyIter_tuple hl (wpAny_pure ⟨_, rfl, h⟩))
def rIterT (K : PySem.W.Frag) (n : Nat) : List V → Hp → VK → Prop := fun xs G Q => ∃ (l : Addr) (zs : List V), xs = [.ref l] ∧ SqT K G l zs ∧ ∀ it, G it = none → n ≤ it → Q (.ref it) (upd G it (TitO l it))
theorem call_iterT {X : Cx} : CallR X (.builtin "iter") (rIterT X.K X.s_0.heap.objs.size) := by
  rintro pins s σ G xs us Q I r ⟨l, zs, rfl, hq, q⟩
  obtain ⟨u, rfl, ru⟩ := r.one
  obtain rfl : u = Value.ref l := ru
  obtain ⟨its, rv, pl, hz⟩ := I.tuple hq
  exact run_iterT (items := its.toArray) pl ⟨.ref s.heap.objs.size, _, I.laid (t' := s.toks) (fun _ _ e => Heap.get?_push_of_some _ e) (Nat.le_refl _) (titO_ok (Heap.get?_push_size _ rfl)), rfl, q _ (I.hok.fresh (Nat.le_refl _)) I.sz⟩
/-! ### a def run where it stands -/
theorem run_at {P : Program} {w : World} {K : PySem.W.Frag} {mg : Str → Option Value} {base : Heap} {k : Nat} {f : Addr} {name qual : Str} {params : Arguments} {body : List Stmt} {scope : Scope} {dV kV doc pm cdv ct oc : Value} {an od : Option Addr}
    {osl : Array (Option Value)} {N ps : List Str} (lk : K.lookup f = some ⟨oc, od, .func (PySem.W.fnOf name qual params body scope dV kV doc pm an cdv ct), osl⟩) (hcd : PySem.W.codeIn K cdv qual = true) (S : FnScope N ps scope)
    {A : Around} {outer : List Env} {s : Shared} {G : Hp} {args : Args} {us : List Value} {vs : List V} {Q : VK} {E : XK} (hr : Room (k + 1) A) (e0 : Env0 P w K mg base A outer s G) (hb : BindsTo s (PySem.W.fnOf name qual params body scope dV kV doc pm an cdv ct) args (ps.zip us)) (rv : Vals vs us) (hl : vs.length = ps.length)
    (hbody : Room k (A.deeper (envOfC qual scope s.heap.objs.size f cdv)) → ∃ t, PSs (cxOf (L2.CX P w) P w K mg base N qual scope f cdv A outer s G E) body t ∧ t { nx := fun _ G2 => Q .non G2, rt := Q } (start N vs) G) :
    codeAny (model P w) A (.call (.ref f) args) (CR (L2.CX P w) outer P w G s Q E) s := by
  have kin : K.In s.heap := e0.mod.kin.keeps fun b o e => (e0.bs b o e).1
  have lim : s.heap.NoLimit := e0.mod.nolimit.keeps fun b o e => (e0.bs b o e).1
  refine codeAny_call_function hr.depth (kin _ _ lk) rfl S.co S.gen rfl (PySem.W.codeRec_of kin hcd) (hb _ _ _ _ (wpAny_newFunctionEnv_cells S.kind (fun y hy => ?_) fun env he s1 x => ?_))
  · rcases S.par y.1 (List.of_mem_zip hy).1 with q | q
    · exact .inl q
    · exact .inr ⟨q, PySem.W.cellsFrom_some _ _ _ (.inl q)⟩
  · subst he
    obtain ⟨t, ht, hq⟩ := hbody (hr.deeper _)
    have I0 : Inv (cxOf (L2.CX P w) P w K mg base N qual scope f cdv A outer s G E) [] (start N vs) G s1 := inv_start S hr.hd e0 hl rv x
    refine ⟨lim.keeps x.toInCall.keep, codeAny_func (wpAny_mono (ht.run [] s1 (start N vs) G _ I0 hq) (fun fl s2 z => ?_) fun _ _ z => z)⟩
    cases fl with
    | ret u => obtain ⟨v, σ2, G2, J, rv2, q⟩ := z; exact ⟨v, G2, J.os, J.bare, J.base, J.hok, rv2, q⟩
    | next => obtain ⟨σ2, G2, J, q⟩ := z; exact ⟨V.non, G2, J.os, J.bare, J.base, J.hok, rfl, q⟩
    | brk => obtain ⟨_, _, _, q⟩ := z; exact q.elim
    | cont => obtain ⟨_, _, _, q⟩ := z; exact q.elim
/-! ### the class's __iter__ -/
/-- def __iter__(self): return iter(self.fld) -/
structure IterOf (K : PySem.W.Frag) (C f : Addr) (qual fld : Str) (st : Stmt) (fd : FuncData) : Prop where
  at_ : PySem.W.findIn K (.ref C) "__iter__" = some (some (.ref f))
  fn : PySem.W.isFn K (.ref f) = true
  fu : Fun K "__iter__" qual st f fd
  sc : FnScope ["self"] ["self"] (defScope st)
  bd : Binds K fd ["self"] []
  body : ∀ (P : Program) (w : World) (mg : Str → Option Value) (base : Heap) (A : Around) (outer : List Env) (s : Shared) (G : Hp) (E : XK) (cdv : Value), mg "iter" = none → ∃ t, PSs (cxOf (L2.CX P w) P w K mg base ["self"] qual (defScope st) f cdv A outer s G E) (defBody st) t ∧
    ∀ (a dx q : Addr) (us : List (Str × V)) (xs : List V) (Q : VK), G a = some (.ins C dx us) → us.lookup fld = some (.ref q) → SqT K G q xs → (∀ it, G it = none → s.heap.objs.size ≤ it → Q (.ref it) (upd G it (TitO q it))) → t { nx := fun _ G2 => Q .non G2, rt := Q } (start ["self"] [.ref a]) G
section
variable {X : Cx} {C f : Addr} {qual fld : Str} {st : Stmt} {fd : FuncData}
theorem iter_run (T : IterOf X.K C f qual fld st fd) (hm : X.mg "iter" = none) {k : Nat} (hr : Room (k + 2) X.A) {pins : List (Addr × Obj)} {σ : L2.St} {G : Hp} {s : Shared} {a dx q : Addr} {us : List (Str × V)} {xs : List V} {tg : Expr} {R : It → Hp → Prop} (I : Inv X pins σ G s)
    (ha : G a = some (.ins C dx us)) (hf : us.lookup fld = some (.ref q)) (hq : SqT X.K G q xs) (h : R (Itt X.K q) G) : wpAny (model X.prog X.w) X.A (pyIter (.ref a)) (PIE X pins σ tg R) X.xe s := by
  obtain ⟨_, O, _⟩ := ins_get I.hok ha
  obtain ⟨_, J, _⟩ := O.look
  obtain ⟨_, fr⟩ := I.fr
  refine PySem.W.owit_iter fr I.ok.mod.kin J T.at_ T.fn ?_
  obtain ⟨oc, od, kV, doc, pm, an, cdv, ct, osl, rfl, lk, hcd⟩ := T.fu.ex
  have bd := T.bd s [.ref a] I.kIn rfl
  have run := run_at (mg := X.mg) (base := X.base) (w := X.w) (P := X.prog) (k := k + 1) lk hcd T.sc (A := X.A) (outer := X.stack) (s := s) (G := G) (args := ⟨[.ref a], []⟩) (us := [.ref a]) (vs := [V.ref a]) (E := fun _ _ _ => False)
    (Q := fun v G2 => ∃ it, v = .ref it ∧ G it = none ∧ s.heap.objs.size ≤ it ∧ G2 = upd G it (TitO q it)) hr I.env0 bd (.cons rfl .nil) rfl (fun _ => by
      obtain ⟨t, ht, hread⟩ := T.body X.prog X.w X.mg X.base X.A X.stack s G (fun _ _ _ => False) cdv hm
      exact ⟨t, ht, hread a dx q us xs (fun v G2 => ∃ it, v = .ref it ∧ G it = none ∧ s.heap.objs.size ≤ it ∧ G2 = upd G it (TitO q it)) ha hf hq fun it n1 n2 => ⟨it, rfl, n1, n2, rfl⟩⟩)
  refine wpAny_call (codeAny_mono run fun fin s2 z => ?_)
  cases fin with
  | error er => exact passAt (W := W0) takes0 σ pins _ _ er s2 I z
  | ok fl =>
    cases fl with
    | next => exact z.elim
    | brk => exact z.elim
    | cont => exact z.elim
    | ret u =>
      obtain ⟨v, G2, I2, rv, it, rfl, hn, hy, rfl⟩ := I.after z
      obtain rfl : u = Value.ref it := rv
      have got : s2.heap.get? it = some (titObj q) := (I2.hok it _ upd_same).1
      have ti : s2.heap.IsTupleIter it q 0 := ⟨_, got, rfl, rfl⟩
      unfold PySem.W.OwitIt
      refine wpAny_specialOf ti.typeIs F.slot_tuple_iterator_next.lookup ?_
      have I3 := ItX.inv_drop I2 upd_same
      have fp := ItX.inv_fp I2 upd_same (Nat.le_trans I.sz hy)
      have e : ItX.dropH (upd G it (TitO q it)) it = G := ItX.dropH_upd hn
      rw [e] at I3 fp
      exact ⟨it, [it], _, _, G, rfl, I3, turn_tuple q it, ti, fun b hb => by rw [List.mem_singleton.mp hb]; exact fp, h⟩
def iOwn (K : PySem.W.Frag) (C : Addr) (fld : Str) (tl : TE) : TI := fun σ G R => tl σ G fun x G1 => ∃ a dx us q xs, x = .ref a ∧ G1 a = some (.ins C dx us) ∧ us.lookup fld = some (.ref q) ∧ SqT K G1 q xs ∧ R (Itt K q) G1
theorem pi_own {tg l : Expr} {tl : TE} (T : IterOf X.K C f qual fld st fd) (hm : X.mg "iter" = none) {k : Nat} (hr : Room (k + 2) X.A) (hl : PE X l tl) : PI X tg l (iOwn X.K C fld tl) :=
  ⟨fun pins s σ G R I h => thn (hl.run pins s σ G _ I h) fun v s1 ⟨x, G1, I1, rx, a, dx, us, q, xs, ex, ha, hf, hq, hR⟩ => by
    subst ex
    obtain rfl : v = Value.ref a := rx
    exact iter_run T hm hr I1 ha hf hq hR⟩
end
/-! ### in data -/
/-- o an instance of C whose field fld is a tuple -/
def ownI (C : Addr) (fld : Str) (t : TD) : TDI := fun δ Q E => t δ (fun o δ1 => ∃ fs xs, o.toD = .obj C fs ∧ fs.lookup fld = some (.tup xs) ∧ Q xs δ1) E
section
variable {X : Cx} {c : Fc} {W : WX} {C f : Addr} {qual fld : Str} {st : Stmt} {fd : FuncData}
theorem pid_own {tg l : Expr} {t : TD} (T : IterOf X.K C f qual fld st fd) (hm : X.mg "iter" = none) {k : Nat} (hr : Room (k + 2) X.A) (he : PE X l (LE X.K c W t)) : PI X tg l (LI X.K c W (ownI C fld t)) :=
  PI_imp (pi_own (tg := tg) T hm hr he) fun σ H R ⟨δ, tmp, Qd, Ed, S, q, k, w⟩ => ⟨δ, tmp, _, _, S, q, fun v x δ' H' ⟨fs, xs, e, el, q'⟩ ⟨F, ow, S'⟩ => by
    obtain ⟨F2, S2, _⟩ := S'.top_frz
    rw [e] at S2
    have r0 := S2.top
    cases r0 with
    | @obj a _ dx us _ s1 h =>
      obtain ⟨u, e1, ru⟩ := (RepF.lookup h).2 _ el
      have S3 := S2.pop.push ru
      cases ru with
      | @tup p vs _ s2 r2 => exact ⟨a, dx, us, p, vs, rfl, S2.fh _ _ s1, e1, SqT.of (S2.fh _ _ s2), k _ _ _ xs _ _ q' serve_tup ⟨F2, ow, S3⟩⟩, w⟩
end
end DL
namespace DR
open PySem PySem.Spec PyProof.Rows L2 DL
theorem owni {C : Addr} {fld : Str} {t : TD} {δ : DSt} {Q : List DL.D → DSt → Prop} {E : XD} (h : t δ (fun o δ1 => ∃ fs xs, o.toD = .obj C fs ∧ fs.lookup fld = some (.tup xs) ∧ Q xs δ1) E) : ownI C fld t δ Q E := h
end DR

set_option Elab.async false
set_option linter.all false
set_option maxRecDepth 100000
/-! defs as their callers know them -/
namespace DL
open PySem PySem.Spec PyProof.Rows L2
section
variable (P : Program) (w : World) (K : PySem.W.Frag) (mg : Str → Option Value) (base : Heap)
/-- by values alone -/
structure DefR (x : Str) (k : Nat) (sd : SpD) where
  f : Addr
  ok : FnR P w K mg base (L2.CX P w) k f (spOf K sd)
  mg : mg x = some (.ref f)
  kp : PySem.W.keepIn K (.ref f) = true
/-- an operator of the class C -/
structure DefB (C : Addr) (op : Operator) (k : Nat) (ps : List Str) (sd : SpD) where
  f : Addr
  fd : FuncData
  ok : FnOk P w K mg base (L2.CX P w) k f fd ps (spOf K sd)
  b : Binds K fd ps []
  bo : BinOf K C op f
/-- == -/
structure DefE (C : Addr) (k : Nat) (ps : List Str) (sd : SpD) where
  f : Addr
  fd : FuncData
  ok : FnOk P w K mg base (L2.CX P w) k f fd ps (spOf K sd)
  b : Binds K fd ps []
  at_ : PySem.W.findIn K (.ref C) "__eq__" = some (some (.ref f))
  fn : PySem.W.isFn K (.ref f) = true
  ne : NeOf K C f
/-- x[y] -/
structure DefG (C : Addr) (k : Nat) (ps : List Str) (sd : SpD) where
  f : Addr
  fd : FuncData
  ok : FnOk P w K mg base (L2.CX P w) k f fd ps (spOf K sd)
  b : Binds K fd ps []
  gi : GetI K C f
/-- a property -/
structure DefP (C : Addr) (x : Str) (k : Nat) (ps : List Str) (sd : SpD) where
  p : Addr
  f : Addr
  fd : FuncData
  ok : FnOk P w K mg base (L2.CX P w) k f fd ps (spOf K sd)
  b : Binds K fd ps []
  po : PropOf K C x p f
/-- a method -/
structure DefM (C : Addr) (x : Str) (k : Nat) (ps : List Str) (sd : SpD) where
  f : Addr
  fd : FuncData
  ok : FnOk P w K mg base (L2.CX P w) k f fd ps (spOf K sd)
  b : Binds K fd ps []
  me : Meth K C x f
/-- a classmethod -/
structure DefC (C : Addr) (mc : Value) (x : Str) (k : Nat) (sd : SpD) where
  p : Addr
  f : Addr
  ok : FnR P w K mg base (L2.CX P w) k f (spOf K sd)
  cm : ClX.CMet K C mc x p f
/-- a class whose __init__ has n parameters (self among them) and keyword-only ones ks, with the defaults dv -/
structure DefK (C : Addr) (k n : Nat) (ps ks : List Str) (dv : List V) (sd : SpD) where
  f : Addr
  fd : FuncData
  g0 : List Value → List Value → List Value
  g1 : List Value → List Value → List Value
  mkc : Mk K C f
  ok : FnOk P w K mg base (L2.CX P w) k f fd ps (spOf K sd)
  kb0 : KBn K fd ps n [] g0 (fun vs zs => vs ++ zs ++ dv)
  kb1 : KBn K fd ps n ks g1 (fun vs zs => vs ++ zs ++ [])
end
end DL

set_option Elab.async false
set_option linter.all false
set_option maxRecDepth 100000
/-! enumerate over a tuple -/
namespace EnT
open PySem
open PySem.Sem (wp)
section
variable {prog : Program} {w : World} {A : Around} {E : Value → Shared → Prop} {s : Shared} {e it l : Addr} {i : Nat} {items : Array Value} {x old : Value}
/-- a heap behind others that changed at one place each -/
theorem at_ext {h h2 : Heap} (z : h.IsTupleIter it l i) (k : ∀ o, h.get? it = some o → h2.get? it = some o) : h2.IsTupleIter it l i := let ⟨o, a, r⟩ := z; ⟨o, k o a, r⟩
theorem next_item {Q : Value → Shared → Prop} (he : IsEnum s.heap e it i old) (hi : s.heap.IsTupleIter it l i) (hl : s.heap.IsTuple l items) (hx : items[i]? = some x) (ne : e ≠ it)
    (hQ : ∀ h2, IsEnumOut h2 e it ((i : Int) + 1) x s.heap.objs.size → h2.IsTupleIter it l (i + 1) → h2.get? s.heap.objs.size = some { cls := .type "tuple", data := .seq #[.int i s.toks, x] } → h2.objs.size = s.heap.objs.size + 1 →
      (∀ b o, b ≠ e → b ≠ it → s.heap.get? b = some o → h2.get? b = some o) → Q (.ref s.heap.objs.size) { s with heap := h2, toks := s.toks + 1 }) :
    wpAny (model prog w) A (Builtin.«enumerate.__next__» ⟨[.ref e], []⟩) (fun fin t => ∃ v, fin = .done (.ret v) ∧ Q v t) E s := by
  obtain ⟨h0, g, d, tk, os⟩ := s
  show wpAny _ _ (field (.ref e) 2 >>= _) _ _ ⟨h0, g, d, tk, os⟩
  refine wpAny_bind (wpAny_field he rfl (x := .ref it) rfl (wpAny_bind (RZ.nextOf_tuple_item hi hl hx fun h1 hi1 sb1 => ?_)))
  have sb1 : Heap.SameBut it h0 h1 := sb1
  have he1 : IsEnum h1 e it i old := (sb1.2 e ne).trans he
  show wpAny _ _ (field (.ref e) 3 >>= _) _ _ (⟨h1, g, d, tk, os⟩ : Shared)
  refine wpAny_bind (wpAny_field he1 rfl (x := rawInt i) rfl ?_)
  show wpAny _ _ (field (.ref e) 4 >>= _) _ _ (⟨h1, g, d, tk, os⟩ : Shared)
  refine wpAny_bind (wpAny_field he1 rfl (x := .none) rfl ?_)
  show wpAny _ _ (mkInt i >>= _) _ _ (⟨h1, g, d, tk, os⟩ : Shared)
  refine wpAny_bind (wpAny_mkInt ?_)
  show wpAny _ _ (setField (.ref e) 3 (rawInt ((i : Int) + 1)) >>= _) _ _ (⟨h1, g, d, tk + 1, os⟩ : Shared)
  refine wpAny_bind (wpAny_setField_rec he1 (by simp) fun h2 he2 sb2 => ?_)
  have sb2 : Heap.SameBut e h1 h2 := sb2
  have he2 : IsEnum h2 e it ((i : Int) + 1) old := he2
  show wpAny _ _ (setField (.ref e) 4 .none >>= _) _ _ (⟨h2, g, d, tk + 1, os⟩ : Shared)
  refine wpAny_bind (wpAny_setField_rec he2 (by simp) fun h3 he3 sb3 => ?_)
  have sb3 : Heap.SameBut e h2 h3 := sb3
  have he3 : IsEnum h3 e it ((i : Int) + 1) old := he3
  show wpAny _ _ (newTuple [.int i tk, x] >>= _) _ _ (⟨h3, g, d, tk + 1, os⟩ : Shared)
  refine wpAny_bind (wpAny_newTuple ?_)
  have sz : h3.objs.size = h0.objs.size := by rw [sb3.1, sb2.1, sb1.1]
  have lt : e < h0.objs.size := Heap.lt_size he
  -- the heap with the new pair
  have he4 : IsEnum (h3.push { cls := .type "tuple", data := .seq #[.int i tk, x] }) e it ((i : Int) + 1) old := Heap.get?_push_of_some _ he3
  have hi4 : (h3.push { cls := .type "tuple", data := .seq #[.int i tk, x] }).IsTupleIter it l (i + 1) := at_ext hi1 fun o q => Heap.get?_push_of_some _ ((sb3.2 it ne.symm).trans ((sb2.2 it ne.symm).trans q))
  have new4 : (h3.push { cls := .type "tuple", data := .seq #[.int i tk, x] }).get? h0.objs.size = some { cls := .type "tuple", data := .seq #[.int i tk, x] } := by rw [← sz]; exact Heap.get?_push_size _ rfl
  have sz4 : (h3.push { cls := .type "tuple", data := .seq #[.int i tk, x] }).objs.size = h0.objs.size + 1 := by rw [Heap.size_push, sz]
  have kp4 : ∀ b o, b ≠ e → b ≠ it → h0.get? b = some o → (h3.push { cls := .type "tuple", data := .seq #[.int i tk, x] }).get? b = some o := fun b o n1 n2 q => Heap.get?_push_of_some _ ((sb3.2 b n1).trans ((sb2.2 b n1).trans ((sb1.2 b n2).trans q)))
  rw [sz]
  generalize h3.push { cls := .type "tuple", data := .seq #[.int i tk, x] } = h4 at *
  show wpAny _ _ (Builtin.SmallTypes.ownedTupleIsFree (.ref e) >>= _) _ _ (⟨h4, g, d, tk + 1, os⟩ : Shared)
  refine wpAny_bind ?_
  unfold Builtin.SmallTypes.ownedTupleIsFree
  refine wpAny_bind (wpAny_field he4 rfl (x := .none) rfl (wpAny_pure ?_))
  simp only [if_true]
  refine wpAny_bind (wpAny_rule (wpAny_bind (wpAny_field he4 rfl (x := old) rfl (wpAny_bind (wpAny_setField_rec he4 (by simp) fun h5 he5 sb5 => ?_)))))
  have sb5 : Heap.SameBut e h4 h5 := sb5
  have he5 : IsEnum h5 e it ((i : Int) + 1) x := he5
  show wpAny _ _ (Builtin.SmallTypes.ownedTupleHandOut (.ref e) (.ref h0.objs.size) >>= _) _ _ (⟨h5, g, d, tk + 1, os⟩ : Shared)
  refine wpAny_bind ?_
  unfold Builtin.SmallTypes.ownedTupleHandOut
  refine wpAny_bind (wpAny_setField_rec he5 (by simp) fun h6 he6 sb6 => ?_)
  have sb6 : Heap.SameBut e h5 h6 := sb6
  have he6 : IsEnumOut h6 e it ((i : Int) + 1) x h0.objs.size := he6
  refine wpAny_setField_rec he6 (by simp) fun h7 he7 sb7 => ?_
  have sb7 : Heap.SameBut e h6 h7 := sb7
  have he7 : IsEnumOut h7 e it ((i : Int) + 1) x h0.objs.size := he7
  have up : ∀ b o, b ≠ e → h4.get? b = some o → h7.get? b = some o := fun b o n q => (sb7.2 b n).trans ((sb6.2 b n).trans ((sb5.2 b n).trans q))
  exact wpAny_bind (wpAny_letGo (wpAny_pure ⟨_, rfl, hQ h7 he7 (at_ext hi4 fun o q => up it o ne.symm q) (up _ _ (Nat.ne_of_gt lt) new4) (by rw [sb7.1, sb6.1, sb5.1, sz4]) fun b o n1 n2 q => up b o n1 (kp4 b o n1 n2 q)⟩))
theorem pyNext_item {Q : Option Value → Shared → Prop} (he : IsEnum s.heap e it i old) (hi : s.heap.IsTupleIter it l i) (hl : s.heap.IsTuple l items) (hx : items[i]? = some x) (ne : e ≠ it)
    (hQ : ∀ h2, IsEnumOut h2 e it ((i : Int) + 1) x s.heap.objs.size → h2.IsTupleIter it l (i + 1) → h2.get? s.heap.objs.size = some { cls := .type "tuple", data := .seq #[.int i s.toks, x] } → h2.objs.size = s.heap.objs.size + 1 →
      (∀ b o, b ≠ e → b ≠ it → s.heap.get? b = some o → h2.get? b = some o) → Q (some (.ref s.heap.objs.size)) { s with heap := h2, toks := s.toks + 1 }) : wpAny (model prog w) A (pyNext (.ref e)) Q E s := by
  have ty : s.TypeIs (.ref e) "enumerate" := ⟨_, he, rfl⟩
  unfold pyNext
  refine wpAny_bind (wpAny_attempt (wpAny_callSpecial?_slot (name := Str.ofString "__next__") ty F.slot_enumerate_next (wpAny_call_entry F.slot_enumerate_next ty F.entry_enumerate_next ?_ (F.args_enumerate_next_1 _))))
  exact next_item he hi hl hx ne fun h2 a b c d k => wpAny_pure (hQ h2 a b c d k)
theorem pyNext_end {Q : Option Value → Shared → Prop} (hh : A.handled = none) (he : IsEnum s.heap e it i old) (hi : s.heap.IsTupleIter it l i) (hl : s.heap.IsTuple l items) (hx : items[i]? = none)
    (hQ : ∀ h2, Heap.ExtBut it s.heap h2 → Q none { s with heap := h2 }) : wpAny (model prog w) A (pyNext (.ref e)) Q E s := by
  have ty : s.TypeIs (.ref e) "enumerate" := ⟨_, he, rfl⟩
  unfold pyNext
  refine wpAny_bind (wpAny_attempt (wpAny_callSpecial?_slot (name := Str.ofString "__next__") ty F.slot_enumerate_next (wpAny_call_entry F.slot_enumerate_next ty F.entry_enumerate_next ?_ (F.args_enumerate_next_1 _))))
  show wpAny _ _ (field (.ref e) 2 >>= _) _ _ s
  refine wpAny_bind (wpAny_field he rfl (x := .ref it) rfl (wpAny_bind (RZ.nextOf_tuple_end hh hi hl hx fun h2 c sb ⟨o, ho, hc⟩ => ?_)))
  exact wpAny_bind (wpAny_isInstance (T := "StopIteration") (b := true) ⟨o, ho, hc⟩ isSubtype_stop (wpAny_pure (hQ _ sb)))
end
end EnT

set_option Elab.async false
set_option linter.all false
set_option maxRecDepth 100000
namespace EnT
open PySem
open PySem.Sem (wp)
open AutoSeq1 (wpAny_loadPart')
abbrev titer (l : Addr) : Obj := { cls := .type "tuple_iterator", data := .fields #[.ref l, .int 0 0] }
abbrev enumO (it : Addr) : Obj := { cls := .type "enumerate", data := .fields #[.none, .bool false, .ref it, rawInt 0, .none, .none] }
set_option maxHeartbeats 1000000 in
theorem meets_new (l : Addr) (items : Array Value) (n : Nat) (dct : Option Addr) (sl : Array (Option Value)) :
    Meets (Builtin.«enumerate.__new__» ⟨[.type "enumerate", .ref l], []⟩) (fun _ R s => s.heap.get? l = some { cls := .type "tuple", dict := dct, data := .seq items n, slots := sl } ∧
      R (.ok (.ret (.ref (s.heap.push (titer l)).objs.size))) { s with heap := (s.heap.push (titer l)).push (enumO s.heap.objs.size) }) :=
  .of_wp fun prog w A R s z => by
    obtain ⟨hp, g, d, tk, os⟩ := s
    obtain ⟨hl, z⟩ := z
    have hsub := sub_enumerate
    have hT : Heap.IsTuple (Shared.heap ⟨hp, g, d, tk, os⟩) l items := ⟨_, hl, rfl, n, rfl⟩
    wp_walk using wpAny_loadPart' hl
    refine wpAny_stack_any fun st => wpAny_pure ?_
    split
    · rename_i c _ _ _ _ _
      cases (c == Value.type "enumerate") <;> (wp_walk using wpAny_loadPart' hl, wpAny_pyIter_tuple hT; exact ⟨_, rfl, z⟩)
    · wp_walk using wpAny_loadPart' hl, wpAny_pyIter_tuple hT
      exact ⟨_, rfl, z⟩
theorem call_new {prog : Program} {w : World} {A : Around} {E : Value → Shared → Prop} {s : Shared} {l : Addr} {items : Array Value} {Q : Value → Shared → Prop} (hT : s.heap.IsTuple l items)
    (h : ∀ h2, IsEnum h2 (s.heap.objs.size + 1) s.heap.objs.size 0 .none → h2.IsTupleIter s.heap.objs.size l 0 → (∀ b o, s.heap.get? b = some o → h2.get? b = some o) → Q (.ref (s.heap.objs.size + 1)) { s with heap := h2 }) :
    wpAny (model prog w) A (call (.type "enumerate") [.ref l]) Q E s := by
  obtain ⟨⟨c, dct, dt, sl⟩, hl, hc, n, hd⟩ := hT
  obtain rfl : c = .type "tuple" := hc
  obtain rfl : dt = .seq items n := hd
  refine callType_new F.called_enumerate (by decide) (F.typeCall_enumerate_1 _) (F.newCall_enumerate_1 _) (fun obj => F.args_object_init_2 obj _) F.entry_enumerate_new (meets_new l items n dct sl) ⟨hl, ?_⟩
  have sz : (s.heap.push (titer l)).objs.size = s.heap.objs.size + 1 := Heap.size_push ..
  show _ ∧ _
  rw [sz]
  have he : IsEnum ((s.heap.push (titer l)).push (enumO s.heap.objs.size)) (s.heap.objs.size + 1) s.heap.objs.size 0 .none := by
    have q := Heap.get?_push_size (s.heap.push (titer l)) (o := enumO s.heap.objs.size) rfl
    rw [sz] at q
    exact q
  exact ⟨⟨_, he, rfl⟩, h _ he ⟨_, Heap.get?_push_of_some _ (Heap.get?_push_size _ rfl), rfl, rfl⟩ fun b o q => Heap.get?_push_of_some _ (Heap.get?_push_of_some _ q)⟩
end EnT
namespace DL
open PySem PySem.Spec PyProof.Rows L2
/-- the tuple at a, its items with their numbers -/
def IteT (K : PySem.W.Frag) (a : Addr) : It where
  go := fun i G => ∃ (xs : List V) (x : V), SqT K G a xs ∧ xs[i]? = some x
  yld := fun i G v G2 => ∃ T x, v = .ref T ∧ G T = none ∧ G2 = upd G T (.tup [.int (i : Nat), x]) ∧ ∀ xs, SqT K G a xs → xs[i]? = some x
  stop := fun i G => ∃ xs : List V, SqT K G a xs ∧ xs.length ≤ i
theorem turn_enumT {P : Program} {w : World} {K : PySem.W.Frag} {elts : List Expr} {kk : Nat} {tpos : Pos} (a e it : Addr) :
    Turn P w K (.Tuple elts kk tpos) (IteT K a) [e, it] e (fun i h => (∃ old, IsEnum h e it ((i : Nat) : Int) old) ∧ h.IsTupleIter it a i ∧ e ≠ it) where
  mem := by simp
  obj := fun i h ⟨⟨old, he⟩, ⟨o, ho, hc, hd⟩, _⟩ b hb => by
    have hb : b = e ∨ b = it := by simpa using hb
    rcases hb with rfl | rfl
    · exact ⟨_, he, fun v q => nomatch q⟩
    · exact ⟨o, ho, fun v q => by rw [hd] at q; cases q⟩
  keep := fun i h h2 ⟨⟨old, he⟩, hi, ne⟩ k => ⟨⟨old, k e (by simp) _ he⟩, EnT.at_ext hi fun o q => k it (by simp) o q, ne⟩
  item := by
    intro X hP hw hK hc i pins s σ G E I hf ⟨⟨old, he⟩, hit, ne⟩ ⟨xs, x, hq, hx⟩
    subst hP hw hK
    obtain ⟨its, rv, p, hz⟩ := I.tuple hq
    obtain ⟨u, hu, ru⟩ := rv.get hx
    have le : e < s.heap.objs.size := Heap.lt_size he
    have li : it < s.heap.objs.size := by obtain ⟨_, q, _⟩ := hit; exact Heap.lt_size q
    refine EnT.pyNext_item he hit (items := its.toArray) p (x := u) (by simpa using hu) ne fun h2 ho hi2 hT sz hk => ⟨_, rfl, wpAny_letOwnedTupleGo_enum (s := { s with heap := h2, toks := s.toks + 1 }) ho fun h3 he3 sb => ?_⟩
    have hT3 : h3.get? s.heap.objs.size = some { cls := .type "tuple", data := .seq #[.int i s.toks, u] } := (sb.2 _ (Nat.ne_of_gt le)).trans hT
    have new : ObjOk X.prog X.w (upd G s.heap.objs.size (.tup [.int (i : Nat), x])) h3 s.heap.objs.size (.tup [.int (i : Nat), x]) := ⟨by show 2 ≤ sizeLine; decide, [.int i s.toks, u], .cons ⟨_, rfl⟩ (.cons ru .nil), ⟨_, hT3, rfl, _, rfl⟩⟩
    have J : Inv X pins σ (upd G s.heap.objs.size (.tup [.int (i : Nat), x])) { s with heap := h3, toks := s.toks + 1 } :=
      I.turnedNew (ch := [e, it]) (fun b ob hb q => (sb.2 b (fun z => hb (by simp [z]))).trans (hk b ob (fun z => hb (by simp [z])) (fun z => hb (by simp [z])) q)) hf (Nat.le_refl _) new
    refine ⟨.ref s.heap.objs.size, _, J, rfl, ⟨_, x, rfl, I.hok.fresh (Nat.le_refl _), rfl, fun ys hy => by rw [I.tuple_inj hy hq]; exact hx⟩, ⟨⟨u, ?_⟩, EnT.at_ext hi2 fun o q => (sb.2 it ne.symm).trans q, ne⟩, fun b hb => ?_⟩
    · rw [show ((i + 1 : Nat) : Int) = (i : Int) + 1 by omega]
      exact he3
    · have hb2 : b = e ∨ b = it := by simpa using hb
      have lb : b < s.heap.objs.size := by rcases hb2 with rfl | rfl <;> assumption
      rw [upd_ne (Nat.ne_of_lt lb)]
      exact (hf b hb).1
  done := by
    intro X hP hw hK hc i pins s σ G E I hf ⟨⟨old, he⟩, hit, ne⟩ ⟨xs, hq, hx⟩
    subst hP hw hK
    obtain ⟨its, rv, p, hz⟩ := I.tuple hq
    obtain ⟨f0, f1, f2, f3, f4, f5⟩ := hf it (by simp)
    have hl := rv.length
    exact EnT.pyNext_end (I.ok.hd hc) he hit (items := its.toArray) p (by simp; omega) fun h2 eb => ⟨rfl, I.turned (t' := s.toks) (fun b o hb q => eb b o hb q) f0 f1 f3 f4 f5⟩
  self := fun A i s Q E ⟨⟨_, he⟩, _⟩ h => wpAny_pyIter_enum he h
def iEnumT (K : PySem.W.Frag) (ta : TA) : TI := fun σ G R => ta σ G fun vs G1 => ∃ a xs, vs = [.ref a] ∧ SqT K G1 a xs ∧ R (IteT K a) G1
section
variable {X : Cx} {c : Fc} {W : WX}
theorem pi_enumT {e : Expr} {ta : TA} {p pos tpos : Pos} {elts : List Expr} {kk : Nat} (hg : Gl X "enumerate") (hm : X.mg "enumerate" = none) (ha : PA X [e] ta) (hs : starEach [e] X.env = [(false, eval e X.env)] := by rfl) :
    PI X (.Tuple elts kk tpos) (.Call (.Name "enumerate" p) [e] [] pos) (iEnumT X.K ta) := by
  refine ⟨fun pins s σ G R I h => Call_ (ld_blt I hg hm boot_enumerate (PyProof.Rows.callWith_type1 (thn (ha.run pos pins s σ G _ I h) fun us s1 ⟨vs, G1, I1, r1, a, xs, ex, hq, q⟩ => ?_) hs rfl))⟩
  subst ex
  obtain ⟨u, rfl, ru⟩ := r1.one
  obtain rfl : u = Value.ref a := ru
  obtain ⟨its, rv, p', hz⟩ := I1.tuple hq
  refine EnT.call_new (items := its.toArray) p' fun h2 he hit hk => wpAny_pyIter_enum he ?_
  refine ⟨s1.heap.objs.size + 1, [s1.heap.objs.size + 1, s1.heap.objs.size], _, _, G1, rfl, I1.kept (t' := s1.toks) hk, turn_enumT a (s1.heap.objs.size + 1) s1.heap.objs.size, ⟨⟨.none, he⟩, hit, Nat.succ_ne_self _⟩, fun b hb => ?_, q⟩
  have hb2 : b = s1.heap.objs.size + 1 ∨ b = s1.heap.objs.size := by simpa using hb
  have le : s1.heap.objs.size ≤ b := by
    rcases hb2 with z | z
    · rw [z]; exact Nat.le_succ _
    · rw [z]; exact Nat.le_refl _
  exact I1.fpOk le (I1.hok.fresh le)
theorem serve_enumT {K : PySem.W.Frag} {p : Addr} {items : List D} : Serve K (IteT K p) (.ref p) (.tup items) (enumL items) := by
  have sq : ∀ {F H : Hp}, Same F H → Rep K F (.ref p) (.tup items) → ∃ vs, SqT K H p vs ∧ RepL K F vs items := fun {F H} s r => by
    cases r with | tup s1 r1 => exact ⟨_, SqT.of (s _ _ s1), r1⟩
  have hl : (enumL items).length = items.length := by simp [enumL]
  refine ⟨fun i F H s r hi => ?_, fun i F H s r hi => ?_, fun i F H x H' s r y d hd => ?_⟩
  · obtain ⟨vs, h, rl⟩ := sq s r
    rw [hl] at hi
    obtain ⟨v, e, _⟩ := rl.get (List.getElem?_eq_getElem hi)
    exact ⟨vs, v, h, e⟩
  · obtain ⟨vs, h, rl⟩ := sq s r
    exact ⟨vs, h, by rw [rl.len, ← hl]; exact hi⟩
  · obtain ⟨vs, h, rl⟩ := sq s r
    obtain ⟨T, z, rfl, nT, rfl, y⟩ := y
    have hi : i < items.length := by rw [← hl]; exact set_lt hd
    obtain ⟨v, e, rv⟩ := rl.get (List.getElem?_eq_getElem hi)
    rw [y vs h] at e
    cases e
    have : d = .tup [.int (i : Nat), items[i]] := by
      unfold enumL at hd
      rw [List.getElem?_map, List.getElem?_zipIdx, List.getElem?_eq_getElem hi] at hd
      simpa using hd.symm
    subst this
    exact ⟨_, Ext.new s nT, .tup upd_same (.cons (.int _) (.cons (rv.mono (same_upd (Same.refl F) (s.free nT))) .nil))⟩
def enumTI (ta : TDA) : TDI := fun δ Q E => ta δ (fun as δ1 => ∃ xs, as = [.d (.tup xs)] ∧ Q (enumL xs) δ1) E
theorem pid_enumT {e : Expr} {ta : TDA} {p pos tpos : Pos} {elts : List Expr} {kk : Nat} (hg : Gl X "enumerate") (hm : X.mg "enumerate" = none) (ha : PA X [e] (LA X.K c W ta)) (hs : starEach [e] X.env = [(false, eval e X.env)] := by rfl) : PI X (.Tuple elts kk tpos) (.Call (.Name "enumerate" p) [e] [] pos) (LI X.K c W (enumTI ta)) :=
  PI_imp (pi_enumT hg hm ha hs) fun σ H R ⟨δ, tmp, Qd, Ed, S, q, k, w⟩ => ⟨δ, tmp, _, _, S, q, fun vs as δ' F ow H' ⟨xs, e, q'⟩ S' ra => by
    subst e
    cases ra with
    | d h t =>
      cases t
      have h0 := h
      cases h with | tup s1 r1 => exact ⟨_, _, rfl, SqT.of (S'.fh _ _ s1), k _ _ _ _ _ _ q' serve_enumT ⟨F, ow, S'.push h0⟩⟩, w⟩
end
/-- one way or the other -/
def orI (t u : TDI) : TDI := fun δ Q E => t δ Q E ∨ u δ Q E
theorem PI.or {X : Cx} {c : Fc} {W : WX} {tg e : Expr} {t u : TDI} (h1 : PI X tg e (LI X.K c W t)) (h2 : PI X tg e (LI X.K c W u)) : PI X tg e (LI X.K c W (orI t u)) :=
  ⟨fun pins s σ H R I ⟨δ, tmp, Qd, Ed, S, q, k, w⟩ => q.elim (fun q => h1.run pins s σ H R I ⟨δ, tmp, Qd, Ed, S, q, k, w⟩) fun q => h2.run pins s σ H R I ⟨δ, tmp, Qd, Ed, S, q, k, w⟩⟩
end DL
namespace DR
open PySem PySem.Spec PyProof.Rows L2 DL
theorem orl {t u : TDI} {δ : DSt} {E : XD} {Q : List DL.D → DSt → Prop} (h : t δ Q E) : orI t u δ Q E := .inl h
theorem orr {t u : TDI} {δ : DSt} {E : XD} {Q : List DL.D → DSt → Prop} (h : u δ Q E) : orI t u δ Q E := .inr h
theorem enumti {δ : DSt} {E : XD} {Q : List DL.D → DSt → Prop} {ta : TDA} (h : ta δ (fun as δ1 => ∃ xs, as = [.d (.tup xs)] ∧ Q (enumL xs) δ1) E) : enumTI ta δ Q E := h
end DR

set_option Elab.async false
set_option linter.all false
set_option maxRecDepth 100000
/-! zip of three lists -/
namespace Z3
open PySem
open PySem.Sem (wp)
abbrev Tri (h : Heap) (T : Addr) (a b c : Value) : Prop := h.get? T = some { cls := .type "tuple", data := .seq #[a, b, c] }
section
variable {prog : Program} {w : World} {A : Around} {E : Value → Shared → Prop} {s : Shared}
theorem put {T : Addr} {a b c x : Value} {k : Nat} {Q : Unit → Shared → Prop} (hT : Tri s.heap T a b c) (h : ∀ h2, h2.get? T = some { cls := .type "tuple", data := .seq ((#[a, b, c] : Array Value).setIfInBounds k x) } → Heap.SameBut T s.heap h2 → Q () { s with heap := h2 }) :
    wpAny (model prog w) A (updateSeq T (·.setIfInBounds k x)) Q E s := by
  refine wpAny_updateSeq hT rfl (h _ ?_ (Heap.SameBut.update ..))
  rw [Heap.get?_update_self _ hT rfl]
  simp [Obj.mapSeq]
theorem keepI {h h2 : Heap} {it l : Addr} {i : Nat} (z : h.IsListIter it l i) (k : ∀ o, h.get? it = some o → h2.get? it = some o) : h2.IsListIter it l i := let ⟨o, a, r⟩ := z; ⟨o, k o a, r⟩
theorem keepL {h h2 : Heap} {l : Addr} {xs : Array Value} (z : h.IsList l xs) (k : ∀ o, h.get? l = some o → h2.get? l = some o) : h2.IsList l xs := let ⟨o, a, r⟩ := z; ⟨o, k o a, r⟩
variable {n l1 l2 l3 : Nat} {i : Nat} {xs ys zs : Array Value} {x y z a b c : Value}
theorem next_item {Q : Value → Shared → Prop} (g1 : l1 < n) (g2 : l2 < n) (g3 : l3 < n) (hz : IsZip s.heap (n + 5) (n + 3) (n + 4) .none) (hI : Tri s.heap (n + 3) (.ref n) (.ref (n + 1)) (.ref (n + 2))) (hO : Tri s.heap (n + 4) a b c)
    (h1 : s.heap.IsListIter n l1 i) (h2 : s.heap.IsListIter (n + 1) l2 i) (h3 : s.heap.IsListIter (n + 2) l3 i) (q1 : s.heap.IsList l1 xs) (q2 : s.heap.IsList l2 ys) (q3 : s.heap.IsList l3 zs) (e1 : xs[i]? = some x) (e2 : ys[i]? = some y) (e3 : zs[i]? = some z)
    (hQ : ∀ k, IsZip k (n + 5) (n + 3) (n + 4) (rawInt s.heap.objs.size) → Tri k (n + 4) x y z → k.IsListIter n l1 (i + 1) → k.IsListIter (n + 1) l2 (i + 1) → k.IsListIter (n + 2) l3 (i + 1) → Tri k s.heap.objs.size x y z → k.objs.size = s.heap.objs.size + 1 →
      (∀ d o, d ≠ n + 5 → d ≠ n + 4 → d ≠ n → d ≠ n + 1 → d ≠ n + 2 → s.heap.get? d = some o → k.get? d = some o) → Q (.ref s.heap.objs.size) { s with heap := k }) :
    wpAny (model prog w) A (Builtin.«zip.__next__» ⟨[.ref (n + 5)], []⟩) (fun fin t => ∃ v, fin = .done (.ret v) ∧ Q v t) E s := by
  show wpAny _ _ (field (.ref (n + 5)) 2 >>= _) _ _ s
  refine wpAny_bind (wpAny_field hz rfl (x := .bool false) rfl ?_)
  show wpAny _ _ (field (.ref (n + 5)) 3 >>= _) _ _ s
  refine wpAny_bind (wpAny_field hz rfl (x := .ref (n + 3)) rfl (wpAny_bind (wpAny_seqItems hI rfl ?_)))
  show wpAny _ _ (Builtin.SmallTypes.ownedTupleIsFree (.ref (n + 5)) >>= _) _ _ s
  refine wpAny_bind ?_
  unfold Builtin.SmallTypes.ownedTupleIsFree
  refine wpAny_bind (wpAny_field hz rfl (x := .none) rfl (wpAny_pure ?_))
  simp only [if_true]
  refine wpAny_bind (wpAny_rule (wpAny_bind (wpAny_field hz rfl (x := .ref (n + 4)) rfl (wpAny_bind (wpAny_setField_rec hz (by simp) fun k1 z1 sb1 => ?_)))))
  have z1 : IsZip k1 (n + 5) (n + 3) (n + 4) .ellipsis := z1
  refine wpAny_bind ?_
  simp only [List.zipIdx_cons, List.zipIdx_nil, List.forIn_cons, List.forIn_nil]
  -- the first
  refine wpAny_bind (wpAny_bind (wpAny_onRaise ?_))
  show wpAny _ _ (Builtin.SmallTypes.nextOf (.ref n) >>= _) _ _ _
  refine wpAny_bind (wpAny_nextOf_list_item (keepI h1 fun o q => (sb1.2 n (by change @Ne Nat _ _; omega)).trans q) (keepL q1 fun o q => (sb1.2 l1 (by change @Ne Nat _ _; omega)).trans q) e1 fun k2 i1 sb2 => wpAny_pure ?_)
  have O2 : Tri k2 (n + 4) a b c := (sb2.2 (n + 4) (by change @Ne Nat _ _; omega)).trans ((sb1.2 (n + 4) (by change @Ne Nat _ _; omega)).trans hO)
  refine wpAny_bind (wpAny_seqItems O2 rfl (wpAny_bind (put O2 fun k3 O3 sb3 => wpAny_bind (wpAny_letGo (wpAny_pure ?_)))))
  have O3 : Tri k3 (n + 4) x b c := O3
  -- the second
  refine wpAny_bind (wpAny_bind (wpAny_onRaise ?_))
  show wpAny _ _ (Builtin.SmallTypes.nextOf (.ref (n + 1)) >>= _) _ _ _
  refine wpAny_bind (wpAny_nextOf_list_item (keepI h2 fun o q => (sb3.2 (n + 1) (by change @Ne Nat _ _; omega)).trans ((sb2.2 (n + 1) (by change @Ne Nat _ _; omega)).trans ((sb1.2 (n + 1) (by change @Ne Nat _ _; omega)).trans q))) (keepL q2 fun o q => (sb3.2 l2 (by change @Ne Nat _ _; omega)).trans ((sb2.2 l2 (by change @Ne Nat _ _; omega)).trans ((sb1.2 l2 (by change @Ne Nat _ _; omega)).trans q))) e2 fun k4 i2 sb4 => wpAny_pure ?_)
  have O4 : Tri k4 (n + 4) x b c := (sb4.2 (n + 4) (by change @Ne Nat _ _; omega)).trans O3
  refine wpAny_bind (wpAny_seqItems O4 rfl (wpAny_bind (put O4 fun k5 O5 sb5 => wpAny_bind (wpAny_letGo (wpAny_pure ?_)))))
  have O5 : Tri k5 (n + 4) x y c := O5
  -- the third
  refine wpAny_bind (wpAny_bind (wpAny_onRaise ?_))
  show wpAny _ _ (Builtin.SmallTypes.nextOf (.ref (n + 2)) >>= _) _ _ _
  have up5 : ∀ d o, d ≠ n + 5 → d ≠ n + 4 → d ≠ n → d ≠ n + 1 → s.heap.get? d = some o → k5.get? d = some o := fun d o d1 d2 d3 d4 q => (sb5.2 d d2).trans ((sb4.2 d d4).trans ((sb3.2 d d2).trans ((sb2.2 d d3).trans ((sb1.2 d d1).trans q))))
  refine wpAny_bind (wpAny_nextOf_list_item (keepI h3 fun o q => up5 _ o (by change @Ne Nat _ _; omega) (by change @Ne Nat _ _; omega) (by change @Ne Nat _ _; omega) (by change @Ne Nat _ _; omega) q) (keepL q3 fun o q => up5 _ o (by change @Ne Nat _ _; omega) (by change @Ne Nat _ _; omega) (by change @Ne Nat _ _; omega) (by change @Ne Nat _ _; omega) q) e3 fun k6 i3 sb6 => wpAny_pure ?_)
  have O6 : Tri k6 (n + 4) x y c := (sb6.2 (n + 4) (by change @Ne Nat _ _; omega)).trans O5
  refine wpAny_bind (wpAny_seqItems O6 rfl (wpAny_bind (put O6 fun k7 O7 sb7 => wpAny_bind (wpAny_letGo (wpAny_pure (wpAny_pure ?_))))))
  have O7 : Tri k7 (n + 4) x y z := O7
  -- the new tuple
  refine wpAny_bind (wpAny_seqItems O7 rfl (wpAny_bind (wpAny_newTuple ?_)))
  have sz : k7.objs.size = s.heap.objs.size := by rw [sb7.1, sb6.1, sb5.1, sb4.1, sb3.1, sb2.1, sb1.1]
  have up7 : ∀ d o, d ≠ n + 5 → d ≠ n + 4 → d ≠ n → d ≠ n + 1 → d ≠ n + 2 → s.heap.get? d = some o → k7.get? d = some o := fun d o d1 d2 d3 d4 d5 q => (sb7.2 d d2).trans ((sb6.2 d d5).trans (up5 d o d1 d2 d3 d4 q))
  have z7 : IsZip k7 (n + 5) (n + 3) (n + 4) .ellipsis := (sb7.2 (n + 5) (by change @Ne Nat _ _; omega)).trans ((sb6.2 (n + 5) (by change @Ne Nat _ _; omega)).trans ((sb5.2 (n + 5) (by change @Ne Nat _ _; omega)).trans ((sb4.2 (n + 5) (by change @Ne Nat _ _; omega)).trans ((sb3.2 (n + 5) (by change @Ne Nat _ _; omega)).trans ((sb2.2 (n + 5) (by change @Ne Nat _ _; omega)).trans z1)))))
  have j1 : k7.IsListIter n l1 (i + 1) := keepI i1 fun o q => (sb7.2 n (by change @Ne Nat _ _; omega)).trans ((sb6.2 n (by change @Ne Nat _ _; omega)).trans ((sb5.2 n (by change @Ne Nat _ _; omega)).trans ((sb4.2 n (by change @Ne Nat _ _; omega)).trans ((sb3.2 n (by change @Ne Nat _ _; omega)).trans q))))
  have j2 : k7.IsListIter (n + 1) l2 (i + 1) := keepI i2 fun o q => (sb7.2 (n + 1) (by change @Ne Nat _ _; omega)).trans ((sb6.2 (n + 1) (by change @Ne Nat _ _; omega)).trans ((sb5.2 (n + 1) (by change @Ne Nat _ _; omega)).trans q))
  have j3 : k7.IsListIter (n + 2) l3 (i + 1) := keepI i3 fun o q => (sb7.2 (n + 2) (by change @Ne Nat _ _; omega)).trans q
  have zl : n + 5 < k7.objs.size := Heap.lt_size z7
  show wpAny _ _ (Builtin.SmallTypes.ownedTupleHandOut (.ref (n + 5)) (.ref k7.objs.size) >>= _) _ _ _
  refine wpAny_bind ?_
  unfold Builtin.SmallTypes.ownedTupleHandOut
  have z8 : IsZip (k7.push { cls := .type "tuple", data := .seq #[x, y, z] }) (n + 5) (n + 3) (n + 4) .ellipsis := Heap.get?_push_of_some _ z7
  refine wpAny_bind (wpAny_setField_rec z8 (by simp) fun k8 z9 sb8 => ?_)
  have z9 : IsZip k8 (n + 5) (n + 3) (n + 4) (rawInt k7.objs.size) := z9
  refine wpAny_setField_rec z9 (by simp) fun k9 z10 sb9 => wpAny_pure ⟨_, rfl, ?_⟩
  have z10 : IsZip k9 (n + 5) (n + 3) (n + 4) (rawInt k7.objs.size) := z10
  have up : ∀ d o, d ≠ n + 5 → k7.get? d = some o → k9.get? d = some o := fun d o d1 q => (sb9.2 d d1).trans ((sb8.2 d d1).trans (Heap.get?_push_of_some _ q))
  have T9 : Tri k9 k7.objs.size x y z := (sb9.2 _ (Nat.ne_of_gt zl)).trans ((sb8.2 _ (Nat.ne_of_gt zl)).trans (Heap.get?_push_size _ rfl))
  have s9 : k9.objs.size = k7.objs.size + 1 := by rw [sb9.1, sb8.1, Heap.size_push]
  show Q (.ref k7.objs.size) _
  rw [sz] at z10 T9 s9 ⊢
  exact hQ k9 z10 (up _ _ (by change @Ne Nat _ _; omega) O7) (keepI j1 fun o q => up _ o (by change @Ne Nat _ _; omega) q) (keepI j2 fun o q => up _ o (by change @Ne Nat _ _; omega) q) (keepI j3 fun o q => up _ o (by change @Ne Nat _ _; omega) q) T9 s9 fun d o d1 d2 d3 d4 d5 q => up d o d1 (up7 d o d1 d2 d3 d4 d5 q)
theorem next_end {Q : Fin → Shared → Prop} (hh : A.handled = none) (g1 : l1 < n) (hz : IsZip s.heap (n + 5) (n + 3) (n + 4) .none) (hI : Tri s.heap (n + 3) (.ref n) (.ref (n + 1)) (.ref (n + 2))) (h1 : s.heap.IsListIter n l1 i) (q1 : s.heap.IsList l1 xs) (e1 : xs[i]? = none)
    (hE : ∀ k e, (∀ d o, d ≠ n + 5 → d ≠ n → s.heap.get? d = some o → k.get? d = some o) → (∃ o, k.get? e = some o ∧ o.cls = .type "StopIteration") → E (.ref e) { s with heap := k }) :
    wpAny (model prog w) A (Builtin.«zip.__next__» ⟨[.ref (n + 5)], []⟩) Q E s := by
  show wpAny _ _ (field (.ref (n + 5)) 2 >>= _) _ _ s
  refine wpAny_bind (wpAny_field hz rfl (x := .bool false) rfl ?_)
  show wpAny _ _ (field (.ref (n + 5)) 3 >>= _) _ _ s
  refine wpAny_bind (wpAny_field hz rfl (x := .ref (n + 3)) rfl (wpAny_bind (wpAny_seqItems hI rfl ?_)))
  show wpAny _ _ (Builtin.SmallTypes.ownedTupleIsFree (.ref (n + 5)) >>= _) _ _ s
  refine wpAny_bind ?_
  unfold Builtin.SmallTypes.ownedTupleIsFree
  refine wpAny_bind (wpAny_field hz rfl (x := .none) rfl (wpAny_pure ?_))
  simp only [if_true]
  refine wpAny_bind (wpAny_rule (wpAny_bind (wpAny_field hz rfl (x := .ref (n + 4)) rfl (wpAny_bind (wpAny_setField_rec hz (by simp) fun k1 z1 sb1 => ?_)))))
  have z1 : IsZip k1 (n + 5) (n + 3) (n + 4) .ellipsis := z1
  refine wpAny_bind ?_
  simp only [List.zipIdx_cons, List.zipIdx_nil, List.forIn_cons, List.forIn_nil]
  refine wpAny_bind (wpAny_bind (wpAny_onRaise ?_))
  show wpAny _ _ (Builtin.SmallTypes.nextOf (.ref n) >>= _) _ _ _
  refine wpAny_bind (wpAny_nextOf_list_end hh (keepI h1 fun o q => (sb1.2 n (by change @Ne Nat _ _; omega)).trans q) (keepL q1 fun o q => (sb1.2 l1 (by change @Ne Nat _ _; omega)).trans q) e1 fun k2 e sb2 ⟨oe, hoe, hc⟩ => ?_)
  have z2 : IsZip k2 (n + 5) (n + 3) (n + 4) .ellipsis := sb2 _ _ (by change @Ne Nat _ _; omega) z1
  have ne : e ≠ n + 5 := fun x => by subst x; rw [z2] at hoe; cases hoe; simp at hc
  exact wpAny_setField_rec z2 (by simp) fun k3 _ sb3 => hE k3 e (fun d o d1 d2 q => (sb3.2 d d1).trans (sb2 _ _ d2 ((sb1.2 d d1).trans q))) ⟨oe, (sb3.2 e ne).trans hoe, hc⟩
theorem pyNext_item {Q : Option Value → Shared → Prop} (g1 : l1 < n) (g2 : l2 < n) (g3 : l3 < n) (hz : IsZip s.heap (n + 5) (n + 3) (n + 4) .none) (hI : Tri s.heap (n + 3) (.ref n) (.ref (n + 1)) (.ref (n + 2))) (hO : Tri s.heap (n + 4) a b c)
    (h1 : s.heap.IsListIter n l1 i) (h2 : s.heap.IsListIter (n + 1) l2 i) (h3 : s.heap.IsListIter (n + 2) l3 i) (q1 : s.heap.IsList l1 xs) (q2 : s.heap.IsList l2 ys) (q3 : s.heap.IsList l3 zs) (e1 : xs[i]? = some x) (e2 : ys[i]? = some y) (e3 : zs[i]? = some z)
    (hQ : ∀ k, IsZip k (n + 5) (n + 3) (n + 4) (rawInt s.heap.objs.size) → Tri k (n + 4) x y z → k.IsListIter n l1 (i + 1) → k.IsListIter (n + 1) l2 (i + 1) → k.IsListIter (n + 2) l3 (i + 1) → Tri k s.heap.objs.size x y z → k.objs.size = s.heap.objs.size + 1 →
      (∀ d o, d ≠ n + 5 → d ≠ n + 4 → d ≠ n → d ≠ n + 1 → d ≠ n + 2 → s.heap.get? d = some o → k.get? d = some o) → Q (some (.ref s.heap.objs.size)) { s with heap := k }) : wpAny (model prog w) A (pyNext (.ref (n + 5))) Q E s := by
  have ty : s.TypeIs (.ref (n + 5)) "zip" := ⟨_, hz, rfl⟩
  unfold pyNext
  refine wpAny_bind (wpAny_attempt (wpAny_callSpecial?_slot (name := Str.ofString "__next__") ty F.slot_zip_next (wpAny_call_entry F.slot_zip_next ty F.entry_zip_next ?_ (F.args_zip_next_1 _))))
  exact next_item g1 g2 g3 hz hI hO h1 h2 h3 q1 q2 q3 e1 e2 e3 fun k a1 a2 a3 a4 a5 a6 a7 a8 => wpAny_pure (hQ k a1 a2 a3 a4 a5 a6 a7 a8)
theorem pyNext_end {Q : Option Value → Shared → Prop} (hh : A.handled = none) (g1 : l1 < n) (hz : IsZip s.heap (n + 5) (n + 3) (n + 4) .none) (hI : Tri s.heap (n + 3) (.ref n) (.ref (n + 1)) (.ref (n + 2))) (h1 : s.heap.IsListIter n l1 i) (q1 : s.heap.IsList l1 xs) (e1 : xs[i]? = none)
    (hQ : ∀ k, (∀ d o, d ≠ n + 5 → d ≠ n → s.heap.get? d = some o → k.get? d = some o) → Q none { s with heap := k }) : wpAny (model prog w) A (pyNext (.ref (n + 5))) Q E s := by
  have ty : s.TypeIs (.ref (n + 5)) "zip" := ⟨_, hz, rfl⟩
  unfold pyNext
  refine wpAny_bind (wpAny_attempt (wpAny_callSpecial?_slot (name := Str.ofString "__next__") ty F.slot_zip_next (wpAny_call_entry F.slot_zip_next ty F.entry_zip_next (next_end hh g1 hz hI h1 q1 e1 fun k e hk ⟨o, ho, hc⟩ => ?_) (F.args_zip_next_1 _))))
  exact wpAny_bind (wpAny_isInstance (T := "StopIteration") (b := true) ⟨o, ho, hc⟩ isSubtype_stop (wpAny_pure (hQ _ hk)))
end
/-! ### making one -/
abbrev lit (l : Addr) : Obj := { cls := .type "list_iterator", data := .fields #[.ref l, .int 0 0] }
abbrev K1 (h : Heap) (l1 : Addr) : Heap := h.push (lit l1)
abbrev K2 (h : Heap) (l1 l2 : Addr) : Heap := (K1 h l1).push (lit l2)
abbrev K3 (h : Heap) (l1 l2 l3 : Addr) : Heap := (K2 h l1 l2).push (lit l3)
abbrev K4 (h : Heap) (l1 l2 l3 : Addr) : Heap := (K3 h l1 l2 l3).push { cls := .type "tuple", data := .seq #[.ref h.objs.size, .ref (K1 h l1).objs.size, .ref (K2 h l1 l2).objs.size] }
abbrev K5 (h : Heap) (l1 l2 l3 : Addr) : Heap := (K4 h l1 l2 l3).push { cls := .type "tuple", data := .seq #[.none, .none, .none] }
abbrev K6 (h : Heap) (l1 l2 l3 : Addr) : Heap := (K5 h l1 l2 l3).push { cls := .type "zip", data := .fields #[.none, .bool false, .bool false, .ref (K3 h l1 l2 l3).objs.size, .ref (K4 h l1 l2 l3).objs.size] }
theorem typeCall (a b c : Value) : checkTypeCall "zip" ⟨[a, b, c], []⟩ = pure () := by kernel_rfl
theorem newCall (a b c : Value) : checkBuiltinCall "zip.__new__" ⟨[.type "zip", a, b, c], []⟩ = pure () := by kernel_rfl
theorem initArgs (a b c d : Value) : argsOk "object.__init__" ⟨[a, b, c, d], []⟩ := by
  unfold argsOk; rw [signature?_of (id := "object.__init__") (n := ['_', '_', 't', 'i', 'n', 'i', '_', '_']) (o := ['t', 'c', 'e', 'j', 'b', 'o']) (by kernel_rfl) F.owner_object]; kernel_rfl
set_option maxHeartbeats 1000000 in
theorem meets_new (l1 l2 l3 : Addr) (xs ys zs : Array Value) : Meets (Builtin.«zip.__new__» ⟨[.type "zip", .ref l1, .ref l2, .ref l3], []⟩) (fun _ R s => s.heap.IsList l1 xs ∧ s.heap.IsList l2 ys ∧ s.heap.IsList l3 zs ∧
      R (.ok (.ret (.ref (K5 s.heap l1 l2 l3).objs.size))) { s with heap := K6 s.heap l1 l2 l3 }) :=
  .of_wp fun prog w A R s h => by
    obtain ⟨hp, g, d, tk, os⟩ := s
    obtain ⟨a1, a2, a3, h⟩ := h
    have hsub := sub_zip
    have b1 : Heap.IsList (Shared.heap ⟨hp, g, d, tk, os⟩) l1 xs := a1
    have b2 : Heap.IsList (Shared.heap ⟨hp.push (lit l1), g, d, tk, os⟩) l2 ys := Heap.IsList.push a2 _
    have b3 : Heap.IsList (Shared.heap ⟨(hp.push (lit l1)).push (lit l2), g, d, tk, os⟩) l3 zs := Heap.IsList.push (Heap.IsList.push a3 _) _
    wp_walk using wpAny_pyIter_list b1, wpAny_pyIter_list b2, wpAny_pyIter_list b3
    exact ⟨_, rfl, h⟩
theorem call_new {prog : Program} {w : World} {A : Around} {E : Value → Shared → Prop} {s : Shared} {l1 l2 l3 : Addr} {xs ys zs : Array Value} {Q : Value → Shared → Prop} (a1 : s.heap.IsList l1 xs) (a2 : s.heap.IsList l2 ys) (a3 : s.heap.IsList l3 zs)
    (h : ∀ k, IsZip k (s.heap.objs.size + 5) (s.heap.objs.size + 3) (s.heap.objs.size + 4) .none → Tri k (s.heap.objs.size + 3) (.ref s.heap.objs.size) (.ref (s.heap.objs.size + 1)) (.ref (s.heap.objs.size + 2)) → Tri k (s.heap.objs.size + 4) .none .none .none →
      k.IsListIter s.heap.objs.size l1 0 → k.IsListIter (s.heap.objs.size + 1) l2 0 → k.IsListIter (s.heap.objs.size + 2) l3 0 → (∀ d o, s.heap.get? d = some o → k.get? d = some o) → Q (.ref (s.heap.objs.size + 5)) { s with heap := k }) :
    wpAny (model prog w) A (call (.type "zip") [.ref l1, .ref l2, .ref l3]) Q E s := by
  refine callType_new F.called_zip (by decide) (typeCall _ _ _) (newCall _ _ _) (fun obj => initArgs obj _ _ _) F.entry_zip_new (meets_new l1 l2 l3 xs ys zs) ⟨a1, a2, a3, ?_⟩
  have z1 : (K1 s.heap l1).objs.size = s.heap.objs.size + 1 := Heap.size_push ..
  have z2 : (K2 s.heap l1 l2).objs.size = s.heap.objs.size + 2 := by rw [Heap.size_push, z1]
  have z3 : (K3 s.heap l1 l2 l3).objs.size = s.heap.objs.size + 3 := by rw [Heap.size_push, z2]
  have z4 : (K4 s.heap l1 l2 l3).objs.size = s.heap.objs.size + 4 := by rw [Heap.size_push, z3]
  have z5 : (K5 s.heap l1 l2 l3).objs.size = s.heap.objs.size + 5 := by rw [Heap.size_push, z4]
  have at6 : (K6 s.heap l1 l2 l3).get? (K5 s.heap l1 l2 l3).objs.size = some _ := Heap.get?_push_size _ rfl
  have at5 : (K6 s.heap l1 l2 l3).get? (K4 s.heap l1 l2 l3).objs.size = some _ := Heap.get?_push_of_some _ (Heap.get?_push_size _ rfl)
  have at4 : (K6 s.heap l1 l2 l3).get? (K3 s.heap l1 l2 l3).objs.size = some _ := Heap.get?_push_of_some _ (Heap.get?_push_of_some _ (Heap.get?_push_size _ rfl))
  have up3 : ∀ d o, (K3 s.heap l1 l2 l3).get? d = some o → (K6 s.heap l1 l2 l3).get? d = some o := fun d o q => Heap.get?_push_of_some _ (Heap.get?_push_of_some _ (Heap.get?_push_of_some _ q))
  have at3 : (K6 s.heap l1 l2 l3).get? (K2 s.heap l1 l2).objs.size = some _ := up3 _ _ (Heap.get?_push_size _ rfl)
  have at2 : (K6 s.heap l1 l2 l3).get? (K1 s.heap l1).objs.size = some _ := up3 _ _ (Heap.get?_push_of_some _ (Heap.get?_push_size _ rfl))
  have at1 : (K6 s.heap l1 l2 l3).get? s.heap.objs.size = some _ := up3 _ _ (Heap.get?_push_of_some _ (Heap.get?_push_of_some _ (Heap.get?_push_size _ rfl)))
  show _ ∧ _
  rw [z3, z4, z5] at at6
  rw [z1, z2, z3] at at4
  rw [z4] at at5
  rw [z2] at at3
  rw [z1] at at2
  rw [z5]
  exact ⟨⟨_, at6, rfl⟩, h _ at6 at4 at5 ⟨_, at1, rfl, rfl⟩ ⟨_, at2, rfl, rfl⟩ ⟨_, at3, rfl, rfl⟩ fun d o q => up3 d o (Heap.get?_push_of_some _ (Heap.get?_push_of_some _ (Heap.get?_push_of_some _ q)))⟩
end Z3

set_option Elab.async false
set_option linter.all false
set_option maxRecDepth 100000
namespace DL
open PySem PySem.Spec PyProof.Rows L2
/-- the lists at a, b, c (of one length), their items in new triples -/
def Itz3 (K : PySem.W.Frag) (a b c : Addr) : It where
  go := fun i G => ∃ (xs ys zs : List V) (x y z : V), SqL K G a xs ∧ SqL K G b ys ∧ SqL K G c zs ∧ xs[i]? = some x ∧ ys[i]? = some y ∧ zs[i]? = some z
  yld := fun i G v G2 => ∃ T x y z, v = .ref T ∧ G T = none ∧ G2 = upd G T (.tup [x, y, z]) ∧ (∀ xs, SqL K G a xs → xs[i]? = some x) ∧ (∀ xs, SqL K G b xs → xs[i]? = some y) ∧ ∀ xs, SqL K G c xs → xs[i]? = some z
  stop := fun i G => ∃ xs : List V, SqL K G a xs ∧ xs.length ≤ i
theorem mem5 {n d : Nat} (h : d ∈ [n + 5, n + 3, n + 4, n, n + 1, n + 2]) : d = n + 5 ∨ d = n + 3 ∨ d = n + 4 ∨ d = n ∨ d = n + 1 ∨ d = n + 2 := by simpa using h
theorem turn_zip3 {P : Program} {w : World} {K : PySem.W.Frag} {elts : List Expr} {kk : Nat} {tpos : Pos} {n a b c : Nat} (ga : a < n) (gb : b < n) (gc : c < n) :
    Turn P w K (.Tuple elts kk tpos) (Itz3 K a b c) [n + 5, n + 3, n + 4, n, n + 1, n + 2] (n + 5) (fun i h => IsZip h (n + 5) (n + 3) (n + 4) .none ∧ Z3.Tri h (n + 3) (.ref n) (.ref (n + 1)) (.ref (n + 2)) ∧ (∃ x y z, Z3.Tri h (n + 4) x y z) ∧ h.IsListIter n a i ∧ h.IsListIter (n + 1) b i ∧ h.IsListIter (n + 2) c i) where
  mem := by simp
  obj := fun i h ⟨hz, hI, ⟨x, y, z, hO⟩, ⟨o1, e1, _, d1⟩, ⟨o2, e2, _, d2⟩, ⟨o3, e3, _, d3⟩⟩ d hd => by
    rcases mem5 hd with q | q | q | q | q | q <;> rw [q]
    · exact ⟨_, hz, fun v z => nomatch z⟩
    · exact ⟨_, hI, fun v z => nomatch z⟩
    · exact ⟨_, hO, fun v z => nomatch z⟩
    · exact ⟨o1, e1, fun v z => by rw [d1] at z; cases z⟩
    · exact ⟨o2, e2, fun v z => by rw [d2] at z; cases z⟩
    · exact ⟨o3, e3, fun v z => by rw [d3] at z; cases z⟩
  keep := fun i h h2 ⟨hz, hI, ⟨x, y, z, hO⟩, h1, h3, h4⟩ k => ⟨k _ (by simp) _ hz, k _ (by simp) _ hI, ⟨x, y, z, k _ (by simp) _ hO⟩, Z3.keepI h1 fun o q => k _ (by simp) o q, Z3.keepI h3 fun o q => k _ (by simp) o q, Z3.keepI h4 fun o q => k _ (by simp) o q⟩
  item := by
    intro X hP hw hK hc i pins s σ G E I hf ⟨hz, hI, ⟨x0, y0, z0, hO⟩, h1, h2, h3⟩ ⟨xs, ys, zs, x, y, z, qa, qb, qc, hx, hy, hzz⟩
    subst hP hw hK
    obtain ⟨its1, r1, p1, _⟩ := I.list qa
    obtain ⟨its2, r2, p2, _⟩ := I.list qb
    obtain ⟨its3, r3, p3, _⟩ := I.list qc
    obtain ⟨u1, e1, ru1⟩ := r1.get hx
    obtain ⟨u2, e2, ru2⟩ := r2.get hy
    obtain ⟨u3, e3, ru3⟩ := r3.get hzz
    have zl : n + 5 < s.heap.objs.size := Heap.lt_size hz
    refine Z3.pyNext_item ga gb gc hz hI hO h1 h2 h3 p1.isList p2.isList p3.isList (x := u1) (y := u2) (z := u3) (by simpa using e1) (by simpa using e2) (by simpa using e3) fun k z2 O2 j1 j2 j3 T2 sz hk => ⟨_, rfl, wpAny_letOwnedTupleGo_zip (s := { s with heap := k }) z2 fun k2 z3 sb => ?_⟩
    have T3 : k2.get? s.heap.objs.size = some { cls := .type "tuple", data := .seq #[u1, u2, u3] } := (sb.2 _ (Nat.ne_of_gt zl)).trans T2
    have new : ObjOk X.prog X.w (upd G s.heap.objs.size (.tup [x, y, z])) k2 s.heap.objs.size (.tup [x, y, z]) := ⟨by show 3 ≤ sizeLine; decide, [u1, u2, u3], .cons ru1 (.cons ru2 (.cons ru3 .nil)), ⟨_, T3, rfl, _, rfl⟩⟩
    have J : Inv X pins σ (upd G s.heap.objs.size (.tup [x, y, z])) { s with heap := k2 } :=
      I.turnedNew (t' := s.toks) (ch := [n + 5, n + 3, n + 4, n, n + 1, n + 2]) (fun d o hd q => (sb.2 d (fun z => hd (by simp [z]))).trans (hk d o (fun z => hd (by simp [z])) (fun z => hd (by simp [z])) (fun z => hd (by simp [z])) (fun z => hd (by simp [z])) (fun z => hd (by simp [z])) q)) hf (Nat.le_refl _) new
    have ne : ∀ {m : Nat}, m ≠ n + 5 → ∀ {o : Obj}, k.get? m = some o → k2.get? m = some o := fun {m} h {o} q => (sb.2 _ h).trans q
    refine ⟨.ref s.heap.objs.size, _, J, rfl, ⟨_, x, y, z, rfl, I.hok.fresh (Nat.le_refl _), rfl, fun l hl => by rw [I.list_inj hl qa]; exact hx, fun l hl => by rw [I.list_inj hl qb]; exact hy, fun l hl => by rw [I.list_inj hl qc]; exact hzz⟩,
      ⟨z3, ne (by omega) (hk _ _ (by change @Ne Nat _ _; omega) (by change @Ne Nat _ _; omega) (by change @Ne Nat _ _; omega) (by change @Ne Nat _ _; omega) (by change @Ne Nat _ _; omega) hI), ⟨u1, u2, u3, ne (by omega) O2⟩, Z3.keepI j1 fun o q => ne (by omega) q, Z3.keepI j2 fun o q => ne (by omega) q, Z3.keepI j3 fun o q => ne (by omega) q⟩, fun d hd => ?_⟩
    have ld : d < s.heap.objs.size := by
      show @LT.lt Nat _ _ _
      rcases mem5 hd with q | q | q | q | q | q <;> (rw [q]; omega)
    rw [upd_ne (Nat.ne_of_lt ld)]
    exact (hf d hd).1
  done := by
    intro X hP hw hK hc i pins s σ G E I hf ⟨hz, hI, ⟨x0, y0, z0, hO⟩, h1, h2, h3⟩ ⟨xs, qa, hx⟩
    subst hP hw hK
    obtain ⟨its, rv, p, _⟩ := I.list qa
    have hl := rv.length
    exact Z3.pyNext_end (I.ok.hd hc) ga hz hI h1 p.isList (by simp; omega) fun k hk => ⟨rfl, I.turnedL (t' := s.toks) (ch := [n + 5, n + 3, n + 4, n, n + 1, n + 2]) (fun d o hd q => hk d o (fun z => hd (by simp [z])) (fun z => hd (by simp [z])) q) hf⟩
  self := fun A i s Q E st h => wpAny_pyIter_zip st.1 h
def iZip3 (K : PySem.W.Frag) (ta : TA) : TI := fun σ G R => ta σ G fun vs G1 => ∃ a b c xs ys zs, vs = [.ref a, .ref b, .ref c] ∧ SqL K G1 a xs ∧ SqL K G1 b ys ∧ SqL K G1 c zs ∧ R (Itz3 K a b c) G1
section
variable {X : Cx} {c : Fc} {W : WX}
theorem pi_zip3 {e e2 e3 : Expr} {ta : TA} {p pos tpos : Pos} {elts : List Expr} {kk : Nat} (hg : Gl X "zip") (hm : X.mg "zip" = none) (ha : PA X [e, e2, e3] ta)
    (hs : starEach [e, e2, e3] X.env = (false, eval e X.env) :: starEach [e2, e3] X.env := by rfl) (hpl : (backTo pos (starEach [e2, e3] X.env)).any (·.1) = false := by rfl) :
    PI X (.Tuple elts kk tpos) (.Call (.Name "zip" p) [e, e2, e3] [] pos) (iZip3 X.K ta) := by
  refine ⟨fun pins s σ G R I h => Call_ (ld_blt I hg hm PyProof.Rows.boot_zip (PyProof.Rows.callWith_type1 (thn (ha.run pos pins s σ G _ I h) fun us s1 ⟨vs, G1, I1, r1, a, b, c, xs, ys, zs, ex, qa, qb, qc, q⟩ => ?_) hs hpl))⟩
  subst ex
  cases r1 with
  | cons ra rr =>
    cases rr with
    | cons rb rr =>
      obtain ⟨u, rfl, rc⟩ := vals1 rr
      cases ra
      cases rb
      obtain rfl : u = Value.ref c := rc
      obtain ⟨i1, _, p1, _⟩ := I1.list qa
      obtain ⟨i2, _, p2, _⟩ := I1.list qb
      obtain ⟨i3, _, p3, _⟩ := I1.list qc
      refine Z3.call_new p1.isList p2.isList p3.isList fun k hz hI hO h1 h2 h3 hk => wpAny_pyIter_zip hz ?_
      refine ⟨s1.heap.objs.size + 5, _, _, _, G1, rfl, I1.kept (t' := s1.toks) hk, turn_zip3 (n := s1.heap.objs.size) p1.lt p2.lt p3.lt, ⟨hz, hI, ⟨_, _, _, hO⟩, h1, h2, h3⟩, fun d hd => ?_, q⟩
      have le : s1.heap.objs.size ≤ d := by
        show @LE.le Nat _ _ _
        rcases mem5 hd with q | q | q | q | q | q <;> (rw [q]; omega)
      exact I1.fpOk le (I1.hok.fresh le)
def zip3L (xs ys zs : List D) : List D := (xs.zip (ys.zip zs)).map fun p => .tup [p.1, p.2.1, p.2.2]
theorem zip3_at {xs ys zs : List D} {i : Nat} {d : D} (h : (zip3L xs ys zs)[i]? = some d) : ∃ x y z, xs[i]? = some x ∧ ys[i]? = some y ∧ zs[i]? = some z ∧ d = .tup [x, y, z] := by
  unfold zip3L at h
  rw [List.getElem?_map] at h
  obtain ⟨⟨x, y, z⟩, h1, h2⟩ := Option.map_eq_some_iff.mp h
  obtain ⟨a, b⟩ := List.getElem?_zip_eq_some.mp h1
  obtain ⟨b, c⟩ := List.getElem?_zip_eq_some.mp b
  exact ⟨x, y, z, a, b, c, h2.symm⟩
theorem gho3 {K : PySem.W.Frag} {F : Hp} {v : V} {a b e : V} {x y z : D} (r : Rep K F v (.gho [a, b, e] [x, y, z])) : Rep K F a x ∧ Rep K F b y ∧ Rep K F e z := by
  cases r with
  | gho h => cases h with | cons h1 t => cases t with | cons h2 t => cases t with | cons h3 t => exact ⟨h1, h2, h3⟩
theorem serve_zip3 {K : PySem.W.Frag} {a b e : Addr} {x y z : D} {xs ys zs : List D} (ex : x = .lst xs ∨ x = .ro xs) (ey : y = .lst ys ∨ y = .ro ys) (ez : z = .lst zs ∨ z = .ro zs) (l1 : ys.length = xs.length) (l2 : zs.length = xs.length) : Serve K (Itz3 K a b e) (.int 0) (.gho [.ref a, .ref b, .ref e] [x, y, z]) (zip3L xs ys zs) := by
  have hl : (zip3L xs ys zs).length = xs.length := by simp [zip3L]; omega
  refine ⟨fun i F H s r hi => ?_, fun i F H s r hi => ?_, fun i F H v H' s r t d hd => ?_⟩
  · obtain ⟨ra, rb, re⟩ := gho3 r
    obtain ⟨us, h1, q1⟩ := row_l ex s ra
    obtain ⟨vs, h2, q2⟩ := row_l ey s rb
    obtain ⟨ws, h3, q3⟩ := row_l ez s re
    rw [hl] at hi
    obtain ⟨v1, e1, _⟩ := q1.get (List.getElem?_eq_getElem hi)
    obtain ⟨v2, e2, _⟩ := q2.get (List.getElem?_eq_getElem (by rw [l1]; exact hi))
    obtain ⟨v3, e3, _⟩ := q3.get (List.getElem?_eq_getElem (by rw [l2]; exact hi))
    exact ⟨us, vs, ws, v1, v2, v3, h1, h2, h3, e1, e2, e3⟩
  · obtain ⟨ra, rb, re⟩ := gho3 r
    obtain ⟨us, h1, q1⟩ := row_l ex s ra
    exact ⟨us, h1, by rw [q1.len, ← hl]; exact hi⟩
  · obtain ⟨ra, rb, re⟩ := gho3 r
    obtain ⟨us, h1, q1⟩ := row_l ex s ra
    obtain ⟨vs, h2, q2⟩ := row_l ey s rb
    obtain ⟨ws, h3, q3⟩ := row_l ez s re
    obtain ⟨T, x1, y1, z1, rfl, nT, rfl, k1, k2, k3⟩ := t
    obtain ⟨d1, d2, d3, g1, g2, g3, rfl⟩ := zip3_at hd
    obtain ⟨v1, e1, r1⟩ := q1.get g1
    obtain ⟨v2, e2, r2⟩ := q2.get g2
    obtain ⟨v3, e3, r3⟩ := q3.get g3
    cases e1.symm.trans (k1 us h1)
    cases e2.symm.trans (k2 vs h2)
    cases e3.symm.trans (k3 ws h3)
    have sF : Same F (upd F T (.tup [x1, y1, z1])) := same_upd (Same.refl F) (s.free nT)
    exact ⟨_, Ext.new s nT, .tup upd_same (.cons (r1.mono sF) (.cons (r2.mono sF) (.cons (r3.mono sF) .nil)))⟩
def zip3I (ta : TDA) : TDI := fun δ Q E => ta δ (fun as δ1 => ∃ x y z xs ys zs, as = [.d x, .d y, .d z] ∧ (x = .lst xs ∨ x = .ro xs) ∧ (y = .lst ys ∨ y = .ro ys) ∧ (z = .lst zs ∨ z = .ro zs) ∧ ys.length = xs.length ∧ zs.length = xs.length ∧ Q (zip3L xs ys zs) δ1) E
theorem pid_zip3 {e e2 e3 : Expr} {ta : TDA} {p pos tpos : Pos} {elts : List Expr} {kk : Nat} (hg : Gl X "zip") (hm : X.mg "zip" = none) (ha : PA X [e, e2, e3] (LA X.K c W ta))
    (hs : starEach [e, e2, e3] X.env = (false, eval e X.env) :: starEach [e2, e3] X.env := by rfl) (hpl : (backTo pos (starEach [e2, e3] X.env)).any (·.1) = false := by rfl) :
    PI X (.Tuple elts kk tpos) (.Call (.Name "zip" p) [e, e2, e3] [] pos) (LI X.K c W (zip3I ta)) :=
  PI_imp (pi_zip3 hg hm ha hs hpl) fun σ H R ⟨δ, tmp, Qd, Ed, S, q, k, w⟩ => ⟨δ, tmp, _, _, S, q, fun vs as δ' F ow H' ⟨x, y, z, xs, ys, zs, ea, ex, ey, ez, l1, l2, q'⟩ S' ra => by
    subst ea
    have rl := args_d (ds := [x, y, z]) ra
    cases rl with
    | @cons v1 _ vs1 _ r1 t =>
      cases t with
      | @cons v2 _ vs2 _ r2 t =>
        cases t with
        | @cons v3 _ vs3 _ r3 t =>
          cases t
          have one : ∀ {v : V} {x : D} {xs : List D}, (x = .lst xs ∨ x = .ro xs) → Rep X.K F v x → ∃ a us, v = .ref a ∧ SqL X.K H' a us := fun {v x xs} e r => by
            rcases e with rfl | rfl
            · cases r with | lst s1 _ => exact ⟨_, _, rfl, S'.fh.seq (SqL.of s1)⟩
            · cases r with | ro s1 _ => exact ⟨_, _, rfl, S'.fh.seq s1⟩
          obtain ⟨a, us, rfl, h1⟩ := one ex r1
          obtain ⟨b, vs, rfl, h2⟩ := one ey r2
          obtain ⟨d, ws, rfl, h3⟩ := one ez r3
          exact ⟨a, b, d, us, vs, ws, rfl, h1, h2, h3, k _ _ _ _ _ _ q' (serve_zip3 ex ey ez l1 l2) ⟨F, ow, S'.push (.gho (.cons r1 (.cons r2 (.cons r3 .nil))))⟩⟩, w⟩
end
end DL
namespace DR
open PySem PySem.Spec PyProof.Rows L2 DL
theorem zip3i {δ : DSt} {E : XD} {Q : List DL.D → DSt → Prop} {ta : TDA} (h : ta δ (fun as δ1 => ∃ x y z xs ys zs, as = [.d x, .d y, .d z] ∧ (x = .lst xs ∨ x = .ro xs) ∧ (y = .lst ys ∨ y = .ro ys) ∧ (z = .lst zs ∨ z = .ro zs) ∧ ys.length = xs.length ∧ zs.length = xs.length ∧ Q (zip3L xs ys zs) δ1) E) : zip3I ta δ Q E := h
end DR

set_option Elab.async false
set_option linter.all false
set_option maxRecDepth 100000
/-! equality of plain data -/
namespace DL
open PySem PySem.Spec PyProof.Rows L2
/-- may be compared, n deep at most -/
def Dp_ (n : Nat) (d : D) : Prop := d.isPy = true ∧ d.py.depth ≤ n
theorem Dp_.cmp {n : Nat} {d : D} (h : Dp_ n d) (l : n ≤ 64 := by decide) : Cmp d := ⟨h.1, Nat.le_trans h.2 l⟩
theorem Dp_.le {n m : Nat} {d : D} (h : Dp_ n d) (l : n ≤ m) : Dp_ m d := ⟨h.1, Nat.le_trans h.2 l⟩
theorem dp_str {x : Str} : Dp_ 1 (.str x) := ⟨rfl, by simp [D.py, PyData.depth]⟩
theorem dp_int {x : Int} : Dp_ 1 (.int x) := ⟨rfl, by simp [D.py, PyData.depth]⟩
theorem dp_bl {x : Bool} : Dp_ 1 (.bl x) := ⟨rfl, by simp [D.py, PyData.depth]⟩
theorem dp_non : Dp_ 1 .non := ⟨rfl, by simp [D.py, PyData.depth]⟩
theorem dp_all {n : Nat} : ∀ {ds : List D}, (∀ d ∈ ds, Dp_ n d) → isPyL ds = true ∧ PyData.depthAll (pyL ds) ≤ n
  | [], _ => ⟨rfl, by simp [pyL, PyData.depthAll]⟩
  | d :: ds, h => by
    obtain ⟨a, b⟩ := dp_all fun e he => h e (List.mem_cons_of_mem _ he)
    obtain ⟨c, e⟩ := h d List.mem_cons_self
    refine ⟨by simp [isPyL, a, c], ?_⟩
    simp [pyL, PyData.depthAll]
    omega
theorem dp_tup {n : Nat} {ds : List D} (h : ∀ d ∈ ds, Dp_ n d) : Dp_ (n + 1) (.tup ds) := by
  obtain ⟨a, b⟩ := dp_all h
  refine ⟨a, ?_⟩
  simp [D.py, PyData.depth]
  omega
theorem dp_lst {n : Nat} {ds : List D} (h : ∀ d ∈ ds, Dp_ n d) : Dp_ (n + 1) (.lst ds) := by
  obtain ⟨a, b⟩ := dp_all h
  refine ⟨a, ?_⟩
  simp [D.py, PyData.depth]
  omega
theorem dp_map {α : Type} {n : Nat} {r : α → D} {l : List α} (h : ∀ a ∈ l, Dp_ n (r a)) : ∀ d ∈ l.map r, Dp_ n d := fun d hd => by
  obtain ⟨a, ha, rfl⟩ := List.mem_map.mp hd
  exact h a ha
theorem eqv_str {a b : Str} : PyData.eqv (D.str a).py (D.str b).py = decide (a = b) := by
  simp only [D.py, PyData.eqv]
  by_cases h : a = b <;> simp [h]
theorem eqv_int {a b : Int} : PyData.eqv (D.int a).py (D.int b).py = decide (a = b) := by
  simp only [D.py, PyData.eqv]
  by_cases h : a = b <;> simp [h]
theorem eqv_all {α : Type} [DecidableEq α] {r : α → D} (h : ∀ a b, PyData.eqv (r a).py (r b).py = decide (a = b)) : ∀ {l k : List α}, PyData.eqvAll (pyL (l.map r)) (pyL (k.map r)) = decide (l = k)
  | [], [] => by simp [pyL, PyData.eqvAll]
  | [], _ :: _ => by simp [pyL, PyData.eqvAll]
  | _ :: _, [] => by simp [pyL, PyData.eqvAll]
  | a :: l, b :: k => by
    simp only [List.map_cons, pyL, PyData.eqvAll, h, eqv_all h]
    by_cases e : a = b <;> by_cases e2 : l = k <;> simp [e, e2]
theorem eqv_tups {α : Type} [DecidableEq α] {r : α → D} (h : ∀ a b, PyData.eqv (r a).py (r b).py = decide (a = b)) {l k : List α} : PyData.eqv (D.tup (l.map r)).py (D.tup (k.map r)).py = decide (l = k) := by
  simp only [D.py, PyData.eqv]
  exact eqv_all h
theorem eqv_lsts {α : Type} [DecidableEq α] {r : α → D} (h : ∀ a b, PyData.eqv (r a).py (r b).py = decide (a = b)) {l k : List α} : PyData.eqv (D.lst (l.map r)).py (D.lst (k.map r)).py = decide (l = k) := by
  simp only [D.py, PyData.eqv]
  exact eqv_all h
theorem eqv_pair {α β : Type} [DecidableEq α] [DecidableEq β] {r : α → D} {s : β → D} (h : ∀ a b, PyData.eqv (r a).py (r b).py = decide (a = b)) (g : ∀ a b, PyData.eqv (s a).py (s b).py = decide (a = b)) (p q : α × β) :
    PyData.eqv (D.tup [r p.1, s p.2]).py (D.tup [r q.1, s q.2]).py = decide (p = q) := by
  obtain ⟨a, b⟩ := p
  obtain ⟨c, d⟩ := q
  simp only [D.py, pyL, PyData.eqv, PyData.eqvAll, h, g, Bool.and_true]
  by_cases e : a = c <;> by_cases e2 : b = d <;> simp [e, e2]
theorem eqv_trip {α β γ : Type} [DecidableEq α] [DecidableEq β] [DecidableEq γ] {r : α → D} {s : β → D} {t : γ → D} (h : ∀ a b, PyData.eqv (r a).py (r b).py = decide (a = b)) (g : ∀ a b, PyData.eqv (s a).py (s b).py = decide (a = b)) (k : ∀ a b, PyData.eqv (t a).py (t b).py = decide (a = b)) (p q : α × β × γ) :
    PyData.eqv (D.tup [r p.1, s p.2.1, t p.2.2]).py (D.tup [r q.1, s q.2.1, t q.2.2]).py = decide (p = q) := by
  obtain ⟨a, b, c⟩ := p
  obtain ⟨d, e, f⟩ := q
  simp only [D.py, pyL, PyData.eqv, PyData.eqvAll, h, g, k, Bool.and_true]
  by_cases e1 : a = d <;> by_cases e2 : b = e <;> by_cases e3 : c = f <;> simp [e1, e2, e3]
theorem eqd_t {x y : D} {b : Bool} {Q : D → Prop} (c1 : Cmp x) (c2 : Cmp y) (h : PyData.eqv x.py y.py = b) (k : Q (.bl b)) : eqP false x y Q := ⟨c1, c2, by rw [if_neg Bool.false_ne_true, h]; exact k⟩
theorem eqd_f {x y : D} {b : Bool} {Q : D → Prop} (c1 : Cmp x) (c2 : Cmp y) (h : PyData.eqv x.py y.py = b) (k : Q (.bl (!b))) : eqP true x y Q := ⟨c1, c2, by rw [if_pos rfl, h]; exact k⟩
theorem eqv_strs (a b : Str) : PyData.eqv (D.str a).py (D.str b).py = decide (a = b) := eqv_str
theorem eqv_ints (a b : Int) : PyData.eqv (D.int a).py (D.int b).py = decide (a = b) := eqv_int
end DL

set_option Elab.async false
set_option linter.all false
set_option maxRecDepth 100000
set_option maxHeartbeats 2000000
/-! DL30: an own exception class made without an argument. -/
namespace DL
open PySem PySem.Spec PyProof.Rows L2
/-- what the top has written of an exception class without __init__ -/
structure Oex0 (K : PySem.W.Frag) (C : Addr) : Prop where
  ex : PySem.W.excIn K C [.type "ValueError", .type "Exception", .type "BaseException", .type "object"] "ValueError.__new__" = true
  kp : PySem.W.keepIn K (.ref C) = true
  sb : PySem.W.subIn K (.ref C) (.type "BaseException") = some true
  ty : PySem.W.typeIn K (.ref C) = some (.type "type")
section
variable {X : Cx}
theorem pmk_own0 {C : Addr} {x : Str} {p pos : Pos} (O : Oex0 X.K C) (gC : X.mg x = some (.ref C)) (hg : Gl X x) (hdb : (x == ("__debug__" : Str)) = false := by decide) :
    PMk X (.Call (.Name x p) [] [] pos) (fun _ H Q => Q (.ref C) none H) := by
  intro pins s σ H Q I h
  refine wpAny_Call_Name_kw (ld_glob I hg gC ?_ hdb)
  refine PySem.W.callWith_K0 I.kIn O.kp ?_
  obtain ⟨bm, N, nm, qn, bs, hdct, sn, sub, ab, col, dd, k0, k1, k2, k3, k5, mN, hC, hN, hni, T⟩ := exc_obj I.kIn O.ex
  refine wpAny_call_exc_subT PySem.F.excBase_ValueError T hC hN hni (fun h' e hm => ?_) (by show 0 ≤ sizeLine; omega)
  exact mk_of I hm (raises_own O.sb O.ty) h (I.hok.gone hm.new)
end
end DL

set_option Elab.async false
set_option linter.all false
set_option maxRecDepth 100000
set_option maxHeartbeats 2000000
/-! DL31: a try whose suite knows the exception's address; isinstance of what was caught. -/
namespace DL
open PySem PySem.Spec PyProof.Rows L2
section
variable {X : Cx} {c : Fc} {W : WX} {pos : Pos}
def tryDA (K : PySem.W.Frag) (cv : Value) (i : Nat) (tb : TDS) (ts : Addr → Value → Option Addr → TDS) : TDS := fun D δ =>
  tb { D with ex := fun x δ1 => ∃ b, PySem.W.exmOne K (.ref x.C) cv = some b ∧
    (b = true → ∀ a dd, (x.fs = none → dd = none) → ts a (.ref x.C) dd { nx := fun δ2 => D.nx (δ2.set i none), rt := D.rt, ex := noX, bk := fun δ2 => D.bk (δ2.set i none), ct := fun δ2 => D.ct (δ2.set i none) } (δ1.set i (some (.d (.exc a (.ref x.C) dd x.C x.fs))))) ∧ (b = false → D.ex x δ1) } δ
theorem psd_tryA (K : PySem.W.Frag) (hK : X.K = K) {x n : Str} {cv : Value} {i : Nat} {body suite : List Stmt} {b₀ : Stmt} {np pos pos' : Pos} {tb : TDS} {ts : Addr → Value → Option Addr → TDS} (ni : i ∉ c.sl) (hs : X.stack = X.env :: X.outer) (hf : X.env.frame = some X.env.locals) (hN : X.N.Nodup) (hi : X.N[i]? = some n) (hln : X.env.kindOf n = some .local) (hc : Names X x cv) (tk : Takes X W)
    (hb : ∀ (W : WX) (pn : List (Addr × Obj)) (xe : Value → Shared → Prop), Takes (X.tr pn xe) W → PassesOwn (model X.prog X.w) X.A X.env xe → PSs (X.tr pn xe) body (LS X.K c W tb))
    (hsu : ∀ (a : Addr) (oe : Obj) (cls : Value) (d : Option Addr) (pn : List (Addr × Obj)), Zc cls d oe → (∃ vs, oe.data = .fields vs) → PSs (X.suite a ((a, oe) :: pn)) (b₀ :: suite) (LS X.K c W0 (ts a cls d))) :
    PS X (.Try body [.ExceptHandler (some (.Name x np)) (some n) (b₀ :: suite) pos'] [] [] pos) (LS X.K c W (tryDA K cv i tb ts)) := by
  subst hK
  exact PS_imp (ps_try_as (tb := fun W => LS X.K c W tb) (ts := fun a cls d => LS X.K c W0 (ts a cls d)) hs hf hN hi hln hc tk hb hsu) fun D σ H ⟨δ, tmp, Dd, S, q, k, kr, kb, kc, w⟩ => by
    refine ⟨δ, tmp, _, S, q, k, kr, kb, kc, fun y δ1 σ1 H1 F ow cls d ⟨b, eb, yes, no⟩ S1 er => ?_⟩
    obtain ⟨C, fs⟩ := y
    obtain ⟨rfl, er'⟩ := id er
    refine ⟨b, eb, fun hb a na => ?_, fun hb => w _ _ _ _ F ow _ d (no hb) S1 er⟩
    have hn : fs = none → d = none := fun e => by subst e; exact er'
    have rx : Rep X.K F (.ref a) (.exc a (.ref C) d C fs) := by
      cases fs with
      | none => obtain rfl : d = none := er'; exact .exc0
      | some fs => obtain ⟨dd, vs, rfl, e2, e3⟩ := er'; exact .exc e2 e3
    exact ⟨_, tmp, _, (S1.push rx).set' ni, yes hb a d hn, fun δ2 σ2 H2 q2 ⟨F2, ow2, S2⟩ => k _ _ _ q2 ⟨F2, ow2, S2.del ni⟩, kr, fun δ2 σ2 H2 q2 ⟨F2, ow2, S2⟩ => kb _ _ _ q2 ⟨F2, ow2, S2.del ni⟩, fun δ2 σ2 H2 q2 ⟨F2, ow2, S2⟩ => kc _ _ _ q2 ⟨F2, ow2, S2.del ni⟩, fun _ _ _ _ _ _ _ _ z => z.elim⟩
/-! ### isinstance(e, c) -/
def rIsXc (K : PySem.W.Frag) (a : Addr) (cls : Value) (d : Option Addr) : List V → Hp → VK → Prop := fun xs H Q => ∃ (D : Addr) (c : V) (cv : Value) (b : Bool),
  xs = [.ref a, c] ∧ cls = .ref D ∧ (d = none ∨ ∃ dd fs, d = some dd ∧ H dd = some (.xd fs)) ∧ ExcC K D ∧ (∀ u, RelV c u → u = cv) ∧ PySem.W.kitOne K (.ref D) cv = some b ∧ Q (.bl b) H
theorem call_isXc {a : Addr} {oe : Obj} {pn : List (Addr × Obj)} {cls : Value} {d : Option Addr} (hz : Zc cls d oe) (hf : ∃ vs, oe.data = .fields vs) : CallR (X.suite a ((a, oe) :: pn)) (.builtin "isinstance") (rIsXc X.K a cls d) := by
  intro pins s σ H xs us Q I r h
  obtain ⟨D, c, cv, b, rfl, rfl, hd, T, hcv, e, q⟩ := h
  rcases hd with rfl | ⟨dd, fs, rfl, hdd⟩
  · exact call_isE T hz hf pins s σ H _ us Q I r ⟨c, cv, b, rfl, hcv, e, q⟩
  obtain ⟨u1, u2, rfl, r1, r2⟩ := vals2 r
  cases (show u1 = Value.ref a from r1)
  have e2 := hcv _ r2
  subst e2
  have hget := (I.pin (a, oe) (List.mem_append.mpr (.inl List.mem_cons_self))).1
  obtain ⟨vs, hd⟩ := hf
  obtain ⟨mA, hns, _⟩ := (show ObjOk X.prog X.w H s.heap dd (.xd fs) from I.hok dd _ hdd)
  obtain ⟨od, ho, _⟩ := lookIn_ns hns
  have J : PySem.W.InstAt s.heap a oe D (some od) := ⟨hget, hz.1, by unfold PySem.W.notCls; rw [hd] <;> rfl, by rw [hz.2]; exact ho⟩
  have hc : (PySem.W.clsIn X.K D).isSome = true := by
    obtain ⟨cd, hc, _⟩ := PySem.W.any_some T.hd
    rw [hc] <;> rfl
  exact PySem.W.kia_one (PySem.W.kitx_exc hc T.hg T.hk T.hs T.ha T.hn T.ht T.hm) I.kIn J e (fun z => nomatch z) fun tk => ⟨.bl b, H, I.kept (t' := tk) fun _ _ z => z, rfl, q⟩
theorem rel_adr {K : PySem.W.Frag} {F : Hp} {v : V} {C : Addr} (r : Rep K F v (.adr C)) : ∀ u, RelV v u → u = .ref C := by
  cases r
  intro u h
  exact h
abbrev isXcS (K : PySem.W.Frag) (a : Addr) (cls : Value) (d : Option Addr) : RDNs := fun ds Q => ∃ (C C2 : Addr) (fs : Option (List (Str × D))) (b : Bool), ds = [.exc a (.ref C) d C fs, .adr C2] ∧ cls = .ref C ∧ ExcC K C ∧ PySem.W.kitOne K (.ref C) (.ref C2) = some b ∧ Q (.bl b)
theorem cn_isXc {K : PySem.W.Frag} {a : Addr} {cls : Value} {d : Option Addr} : CallNs K (rIsXc K a cls d) (isXcS K a cls d) := fun xs ds F H Q Qd s r ⟨C, C2, fs, b, e, hc, T, hk, q⟩ k => by
  subst e
  cases r with
  | cons r t =>
    cases t with
    | cons r2 t =>
      cases t
      cases r with
      | exc0 => exact ⟨C, _, _, b, rfl, hc, .inl rfl, T, rel_adr r2, hk, k _ _ q rfl⟩
      | exc s1 h => exact ⟨C, _, _, b, rfl, hc, .inr ⟨_, _, rfl, s _ _ s1⟩, T, rel_adr r2, hk, k _ _ q rfl⟩
end
end DL
namespace DR
open PySem PySem.Spec PyProof.Rows L2 DL
theorem trya {K : PySem.W.Frag} {cv : Value} {i : Nat} {tb : TDS} {ts : Addr → Value → Option Addr → TDS} {D : EndsD} {δ : DSt} (h : tb { D with ex := fun x δ1 => ∃ b, PySem.W.exmOne K (.ref x.C) cv = some b ∧
    (b = true → ∀ a dd, (x.fs = none → dd = none) → ts a (.ref x.C) dd { nx := fun δ2 => D.nx (δ2.set i none), rt := D.rt, ex := noX, bk := fun δ2 => D.bk (δ2.set i none), ct := fun δ2 => D.ct (δ2.set i none) } (δ1.set i (some (.d (.exc a (.ref x.C) dd x.C x.fs))))) ∧ (b = false → D.ex x δ1) } δ) : tryDA K cv i tb ts D δ := h
end DR

set_option Elab.async false
set_option linter.all false
set_option maxRecDepth 100000
set_option maxHeartbeats 2000000
/-! DL32: a, b, c = x, y, z with plain local names. -/
namespace DL
open PySem PySem.Spec PyProof.Rows L2
def par3D (i j l : Nat) (oi oj ol : Bool) (t : TDK) : TDS := fun D δ => t δ (fun xs δ1 => ∃ x y z, xs = [x, y, z] ∧ D.nx (((δ1.set l (some (asD ol z))).set j (some (asD oj y))).set i (some (asD oi x)))) D.ex
section
variable {X : Cx} {c : Fc} {W : WX}
theorem psd_par3 {i j l : Nat} {oi oj ol : Bool} {x y z : Str} {a b e : Expr} {t : TDK} {px py pz pt pos : Pos} {kt k2 pt2} (ha : PA X [a, b, e] (LK X.K c W t)) (ni : i ∉ c.sl) (nj : j ∉ c.sl) (nl : l ∉ c.sl) (h : ∀ {ta : TA}, PA X [a, b, e] ta → PS X (.Assign [.Tuple [.Name x px, .Name y py, .Name z pz] k2 pt2] (.Tuple [a, b, e] kt pt) pos) (tPar3 i j l ta)) (hij : i ≠ j) (hil : i ≠ l) (hjl : j ≠ l) :
    PS X (.Assign [.Tuple [.Name x px, .Name y py, .Name z pz] k2 pt2] (.Tuple [a, b, e] kt pt) pos) (LS X.K c W (par3D i j l oi oj ol t)) :=
  PS_imp (h ha) fun D σ H ⟨δ, tmp, Dd, S, q, k, kr, kb, kc, w⟩ => ⟨δ, tmp, _, _, S, q, fun vs xs δ' H' ⟨x, y, z, e, q'⟩ hl S' => by
    subst e
    match vs, hl with
    | [v, u, s], _ =>
      obtain ⟨F, ow, S'⟩ := S'
      have S2 : SttF X.K c F ow δ' ((s, z) :: (u, y) :: (v, x) :: tmp) σ H' := S'
      obtain ⟨F3, S3⟩ := S2.top_as ol
      obtain ⟨F4, ow4, S4⟩ := S3.set' nl
      obtain ⟨F5, S5⟩ := S4.top_as oj
      obtain ⟨F6, ow6, S6⟩ := S5.set' nj
      obtain ⟨F7, S7⟩ := S6.top_as oi
      refine ⟨v, u, s, rfl, k _ _ _ q' ?_⟩
      rw [List.set_comm _ _ hjl, List.set_comm _ _ hil, List.set_comm _ _ hij]
      exact S7.set' ni, w⟩
end
end DL
namespace DR
open PySem PySem.Spec PyProof.Rows L2 DL
theorem par3 {i j l : Nat} {oi oj ol : Bool} {t : TDK} {D : EndsD} {δ : DSt} (h : t δ (fun xs δ1 => ∃ x y z, xs = [x, y, z] ∧ D.nx (((δ1.set l (some (asD ol z))).set j (some (asD oj y))).set i (some (asD oi x)))) D.ex) : par3D i j l oi oj ol t D δ := h
end DR

set_option Elab.async false
set_option linter.all false
set_option maxRecDepth 100000
set_option maxHeartbeats 2000000
/-! DL33: several except clauses whose suites know what was caught; a field of it. -/
namespace DL
open PySem PySem.Spec PyProof.Rows L2
structure ClauseA where
  cv : Value
  ix : Nat
  su : Addr → Value → Option Addr → TDS
def catchA (K : PySem.W.Frag) (D : EndsD) : List ClauseA → XD
  | [] => D.ex
  | q :: r => fun x δ => ∃ yes, PySem.W.exmOne K (.ref x.C) q.cv = some yes ∧ (yes = true → ∀ a dd, (x.fs = none → dd = none) → q.su a (.ref x.C) dd (sunkD q.ix D) (δ.set q.ix (some (.d (.exc a (.ref x.C) dd x.C x.fs))))) ∧ (yes = false → catchA K D r x δ)
def tryCA (K : PySem.W.Frag) (qs : List ClauseA) (tb : TDS) : TDS := fun D δ => tb { D with ex := catchA K D qs } δ
inductive ClausesA (X : Cx) (c : Fc) : List ExceptHandler → List ClauseA → Prop
  | nil : ClausesA X c [] []
  | cons {x n : Str} {cv : Value} {i : Nat} {su : Addr → Value → Option Addr → TDS} {s0 : Stmt} {more : List Stmt} {np pp : Pos} {hs : List ExceptHandler} {qs : List ClauseA} (ni : i ∉ c.sl) (hi : X.N[i]? = some n) (hl : X.env.kindOf n = some .local) (hn : Names X x cv)
      (hb : ∀ (a : Addr) (ob : Obj) (cls : Value) (dd : Option Addr) (pn : List (Addr × Obj)), Zc cls dd ob → (∃ vs, ob.data = .fields vs) → PSs (X.suite a ((a, ob) :: pn)) (s0 :: more) (LS X.K c W0 (su a cls dd))) (r : ClausesA X c hs qs) :
      ClausesA X c (.ExceptHandler (some (.Name x np)) (some n) (s0 :: more) pp :: hs) (⟨cv, i, su⟩ :: qs)
def ClauseA.up (K : PySem.W.Frag) (c : Fc) (q : ClauseA) : Clause := ⟨q.cv, q.ix, fun a cls d => LS K c W0 (q.su a cls d)⟩
theorem ClausesA.up {X : Cx} {c : Fc} {hs : List ExceptHandler} {qs : List ClauseA} (h : ClausesA X c hs qs) : Clauses X hs (qs.map (ClauseA.up X.K c)) := by
  induction h with
  | nil => exact .nil
  | cons ni hi hl hn hb r ih => exact .cons hi hl hn hb ih
theorem psd_tryCA (K : PySem.W.Frag) {X : Cx} (hK : X.K = K) {c : Fc} {W : WX} {bd : List Stmt} {g : ExceptHandler} {gs : List ExceptHandler} {qs : List ClauseA} {pos : Pos} {tb : TDS} (hst : X.stack = X.env :: X.outer) (hfr : X.env.frame = some X.env.locals) (nd : X.N.Nodup) (tk : Takes X W)
    (hb : ∀ (W : WX) (pn : List (Addr × Obj)) (xe : Value → Shared → Prop), Takes (X.tr pn xe) W → PassesOwn (model X.prog X.w) X.A X.env xe → PSs (X.tr pn xe) bd (LS X.K c W tb))
    (hh : ClausesA X c (g :: gs) qs) : PS X (.Try bd (g :: gs) [] [] pos) (LS X.K c W (tryCA K qs tb)) := by
  subst hK
  exact PS_imp (ps_tryC (tb := fun W => LS X.K c W tb) hst hfr nd tk hb hh.up) fun D σ H ⟨δ, tmp, Dd, S, q, k, kr, kb, kc, w⟩ => by
    refine ⟨δ, tmp, _, S, q, k, kr, kb, kc, ?_⟩
    have go : ∀ {hs : List ExceptHandler} {rs : List ClauseA}, ClausesA X c hs rs → WD X.K c (wishes X.K W D (rs.map (ClauseA.up X.K c))) tmp (catchA X.K Dd rs) := fun {hs rs} h => by
      induction h with
      | nil => exact w
      | @cons x n cv i su s0 more np pp hs2 rs2 ni hi hl hn hb r ih =>
        rintro ⟨C, fs⟩ δ1 σ1 H1 F ow cls d ⟨yes, ey, hy, hno⟩ S1 er
        obtain ⟨rfl, er2⟩ := id er
        have hn2 : fs = none → d = none := fun e => by subst e; exact er2
        refine ⟨yes, ey, fun e a na => ?_, fun e => ih _ _ _ _ F ow _ d (hno e) S1 er⟩
        have rx : Rep X.K F (.ref a) (.exc a (.ref C) d C fs) := by
          cases fs with
          | none => obtain rfl : d = none := er2; exact .exc0
          | some fs => obtain ⟨dd, vs, rfl, e2, e3⟩ := er2; exact .exc e2 e3
        exact ⟨_, tmp, _, (S1.push rx).set' ni, hy e a d hn2, fun δ2 σ2 H2 q2 ⟨F2, ow2, S2⟩ => k _ _ _ q2 ⟨F2, ow2, S2.del ni⟩, kr, fun δ2 σ2 H2 q2 ⟨F2, ow2, S2⟩ => kb _ _ _ q2 ⟨F2, ow2, S2.del ni⟩, fun δ2 σ2 H2 q2 ⟨F2, ow2, S2⟩ => kc _ _ _ q2 ⟨F2, ow2, S2.del ni⟩, fun _ _ _ _ _ _ _ _ z => z.elim⟩
    exact go hh
/-! ### e.f of what was caught -/
def xfD (a : Addr) (cls : Value) (d : Option Addr) (C : Addr) (f : Str) (t : TD) : TD := fun δ Q E => t δ (fun o δ1 => ∃ fs v, o.toD = .exc a (.ref C) d C (some fs) ∧ cls = .ref C ∧ fs.lookup f = some v ∧ Q (.d v) δ1) E
theorem pd_xf {X : Cx} {c : Fc} {W : WX} {a C : Addr} {oe : Obj} {cls : Value} {d : Option Addr} {pn : List (Addr × Obj)} {e : Expr} {t : TD} {pos : Pos} {n : Str} (T : XfC X.K C) (hno : PySem.W.findIn X.K (.ref C) n = some none)
    (hz : Zc cls d oe) (hf : ∃ vs, oe.data = .fields vs) (he : PE (X.suite a ((a, oe) :: pn)) e (LE X.K c W t)) (hb : attributeBase e n X.env (eval e X.env) = eval e X.env := by rfl) :
    PE (X.suite a ((a, oe) :: pn)) (.Attribute e n pos) (LE X.K c W (xfD a cls d C n t)) :=
  PE_imp (pe_xf T hno hz hf he hb) fun σ H Q ⟨δ, tmp, Qd, Ed, S, q, k, w⟩ => ⟨δ, tmp, _, _, S, q, fun v o δ' H' ⟨fs, x, eo, ec, el, q'⟩ ⟨F, ow, S'⟩ => by
    obtain ⟨F', S2, _⟩ := S'.top_frz
    rw [eo] at S2
    cases S2.top with
    | exc s h =>
      obtain ⟨u, e1, r⟩ := (RepF.lookup h).2 x el
      exact ⟨rfl, ec, _, _, u, rfl, S2.fh _ _ s, e1, k _ _ _ _ q' ⟨F', ow, S2.pop.push r⟩⟩, w⟩
end DL
namespace DR
open PySem PySem.Spec PyProof.Rows L2 DL
theorem tryca {K : PySem.W.Frag} {qs : List ClauseA} {tb : TDS} {D : EndsD} {δ : DSt} (h : tb { D with ex := catchA K D qs } δ) : tryCA K qs tb D δ := h
theorem xf {a : Addr} {cls : Value} {d : Option Addr} {C : Addr} {f : Str} {t : TD} {δ : DSt} {Q : DK} {E : XD} (h : t δ (fun o δ1 => ∃ fs v, o.toD = .exc a (.ref C) d C (some fs) ∧ cls = .ref C ∧ fs.lookup f = some v ∧ Q (.d v) δ1) E) : xfD a cls d C f t δ Q E := h
end DR

set_option Elab.async false
set_option linter.all false
set_option maxRecDepth 100000
set_option maxHeartbeats 2000000
/-! DL34: try .. except X: without a name. -/
namespace DL
open PySem PySem.Spec PyProof.Rows L2
def tryO (K : PySem.W.Frag) (cv : Value) (tb ts : TDS) : TDS := fun D δ =>
  tb { D with ex := fun x δ1 => ∃ b, PySem.W.exmOne K (.ref x.C) cv = some b ∧ (b = true → ts { D with ex := noX } δ1) ∧ (b = false → D.ex x δ1) } δ
theorem psd_tryO (K : PySem.W.Frag) {X : Cx} (hK : X.K = K) {c : Fc} {W : WX} {pos : Pos} {x : Str} {cv : Value} {body suite : List Stmt} {b₀ : Stmt} {np pos' : Pos} {tb ts : TDS} (hs : X.stack = X.env :: X.outer) (hf : X.env.frame = some X.env.locals) (hc : Names X x cv) (tk : Takes X W)
    (hb : ∀ (W : WX) (pn : List (Addr × Obj)) (xe : Value → Shared → Prop), Takes (X.tr pn xe) W → PassesOwn (model X.prog X.w) X.A X.env xe → PSs (X.tr pn xe) body (LS X.K c W tb))
    (hsu : ∀ (a : Addr) (oe : Obj) (cls : Value) (d : Option Addr) (pn : List (Addr × Obj)), Zc cls d oe → (∃ vs, oe.data = .fields vs) → PSs (X.suite a ((a, oe) :: pn)) (b₀ :: suite) (LS X.K c W0 ts)) :
    PS X (.Try body [.ExceptHandler (some (.Name x np)) none (b₀ :: suite) pos'] [] [] pos) (LS X.K c W (tryO K cv tb ts)) := by
  subst hK
  exact PS_imp (ps_try_only (tb := fun W => LS X.K c W tb) (ts := fun _ _ _ => LS X.K c W0 ts) hs hf hc tk hb hsu) fun D σ H ⟨δ, tmp, Dd, S, q, k, kr, kb, kc, w⟩ => by
    refine ⟨δ, tmp, _, S, q, k, kr, kb, kc, fun y δ1 σ1 H1 F ow cls d ⟨b, eb, yes, no⟩ S1 er => ?_⟩
    obtain ⟨C, fs⟩ := y
    obtain ⟨rfl, er'⟩ := id er
    exact ⟨b, eb, fun hb a na => ⟨δ1, tmp, _, ⟨F, ow, S1⟩, yes hb, k, kr, kb, kc, fun _ _ _ _ _ _ _ _ z => z.elim⟩, fun hb => w _ _ _ _ F ow _ d (no hb) S1 er⟩
end DL
namespace DR
open PySem PySem.Spec PyProof.Rows L2 DL
theorem tryo {K : PySem.W.Frag} {cv : Value} {tb ts : TDS} {D : EndsD} {δ : DSt} (h : tb { D with ex := fun x δ1 => ∃ b, PySem.W.exmOne K (.ref x.C) cv = some b ∧ (b = true → ts { D with ex := noX } δ1) ∧ (b = false → D.ex x δ1) } δ) : tryO K cv tb ts D δ := h
end DR

set_option Elab.async false
set_option linter.all false
set_option maxRecDepth 100000
/-! DL35: own errors whose __init__ sets fields (the last one set stands first) -/
namespace DL
open PySem PySem.Spec PyProof.Rows L2
def ErrR (K : PySem.W.Frag) (B : Addr) (ns : List Str) : Sp := fun vs H Q _ => ∃ (a : Addr) (xs : List V), vs = .ref a :: xs ∧ xs.length = ns.length ∧ H a = some (exo a B none) ∧ ∀ d, H d = none → d ≠ a → Q .non (upd (upd H d (exd d (ns.zip xs).reverse)) a (exo a B (some d)))
theorem repF_app {K : PySem.W.Frag} {F : Hp} : ∀ {vs us : List (Str × V)} {ds es : List (Str × D)}, RepF K F vs ds → RepF K F us es → RepF K F (vs ++ us) (ds ++ es)
  | _, _, _, _, .nil, g => g
  | _, _, _, _, .cons h t, g => .cons h (repF_app t g)
theorem repF_rev {K : PySem.W.Frag} {F : Hp} : ∀ {vs : List (Str × V)} {ds : List (Str × D)}, RepF K F vs ds → RepF K F vs.reverse ds.reverse
  | _, _, .nil => .nil
  | _, _, .cons h t => by
    rw [List.reverse_cons, List.reverse_cons]
    exact repF_app (repF_rev t) (.cons h .nil)
section
variable (P : Program) (w : World) (K : PySem.W.Frag) (mg : Str → Option Value) (base : Heap)
structure DefX (x : Str) (B : Addr) (ns : List Str) where
  f : Addr
  fd : FuncData
  ps : List Str
  ox : OexC K B
  ini : PySem.W.findIn K (.ref B) "__init__" = some (some (.ref f))
  ty : PySem.W.typeIn K (.ref f) = some (.type "function")
  ok : FnOk P w K mg base CX0 1 f fd ps (ErrR K B ns)
  b : Binds K fd ps []
  mg : mg x = some (.ref B)
end
section
variable {P : Program} {w : World} {K : PySem.W.Frag} {mg : Str → Option Value} {base : Heap} {B : Addr}
theorem ok_err1 {qual n : Str} {st : Stmt} {f : Addr} {fd : FuncData} (F : Fun K "__init__" qual st f fd) (sc : FnScope ["self", n] ["self", n] (defScope st)) (ox : OexC K B) (nw : PySem.W.findIn K (.ref B) n = some none)
    (ht : ∀ (cdv : Value) (A : Around) (outer : List Env) (s : Shared) (H : Hp) (E : XK), PSs (cxOf CX0 P w K mg base ["self", n] qual (defScope st) f cdv A outer s H E).nox (defBody st) (tOst K n (tVar 0) (tVar 1))) :
    FnOk P w K mg base CX0 1 f fd ["self", n] (ErrR K B [n]) := by
  refine F.ok sc (fun vs H Q E h => ?_) (fun cdv A outer s H vs Q E hr h => ?_)
  · obtain ⟨a, xs, rfl, hl, _⟩ := h
    match xs, hl with
    | [_], _ => rfl
  · obtain ⟨a, xs, rfl, hl, ha, k⟩ := h
    obtain ⟨x, rfl⟩ : ∃ x, xs = [x] := by
      match xs, hl with
      | [x], _ => exact ⟨x, rfl⟩
    refine ⟨_, ht cdv A outer s H E, ?_⟩
    refine ⟨x, rfl, .ref a, rfl, a, B, rfl, ox, nw, .inl ⟨ha, fun dx n ne => ?_⟩⟩
    exact k dx n ne
theorem ok_err2 {qual n m : Str} {st : Stmt} {f : Addr} {fd : FuncData} (F : Fun K "__init__" qual st f fd) (sc : FnScope ["self", n, m] ["self", n, m] (defScope st)) (ox : OexC K B) (nw : PySem.W.findIn K (.ref B) n = some none) (nw2 : PySem.W.findIn K (.ref B) m = some none)
    (ht : ∀ (cdv : Value) (A : Around) (outer : List Env) (s : Shared) (H : Hp) (E : XK), PSs (cxOf CX0 P w K mg base ["self", n, m] qual (defScope st) f cdv A outer s H E).nox (defBody st) (tSeq (tOst K n (tVar 0) (tVar 1)) (tOst K m (tVar 0) (tVar 2)))) :
    FnOk P w K mg base CX0 1 f fd ["self", n, m] (ErrR K B [n, m]) := by
  refine F.ok sc (fun vs H Q E h => ?_) (fun cdv A outer s H vs Q E hr h => ?_)
  · obtain ⟨a, xs, rfl, hl, _⟩ := h
    match xs, hl with
    | [_, _], _ => rfl
  · obtain ⟨a, xs, rfl, hl, ha, k⟩ := h
    obtain ⟨x, y, rfl⟩ : ∃ x y, xs = [x, y] := by
      match xs, hl with
      | [x, y], _ => exact ⟨x, y, rfl⟩
    refine ⟨_, ht cdv A outer s H E, ?_⟩
    refine ⟨x, rfl, .ref a, rfl, a, B, rfl, ox, nw, .inl ⟨ha, fun dx nd ne => ?_⟩⟩
    have e1 : upd (upd H dx (exd dx [(n, x)])) a (exo a B (some dx)) a = some (exo a B (some dx)) := upd_same
    have e2 : upd (upd H dx (exd dx [(n, x)])) a (exo a B (some dx)) dx = some (exd dx [(n, x)]) := by rw [upd_ne ne, upd_same]
    refine ⟨y, rfl, .ref a, rfl, a, B, rfl, ox, nw2, .inr ⟨dx, [(n, x)], e1, e2, (by show 1 ≤ 900; decide), ?_⟩⟩
    have z := k dx nd ne
    have e3 : upd (upd (upd H dx (exd dx [(n, x)])) a (exo a B (some dx))) dx (exd dx [(m, y), (n, x)]) = upd (upd H dx (exd dx (([n, m] : List Str).zip [x, y]).reverse)) a (exo a B (some dx)) := by
      funext b
      by_cases h1 : b = dx
      · subst h1; rw [upd_same, upd_ne ne, upd_same]; rfl
      · rw [upd_ne h1]
        by_cases h2 : b = a
        · subst h2; rw [upd_same, upd_same]
        · rw [upd_ne h2, upd_ne h2, upd_ne h1, upd_ne h1]
    rw [← e3] at z
    exact z
end
section
variable {X : Cx} {c : Fc} {W : WX}
def raiseR (B : Addr) (ns : List Str) (ta : TDA) : TDS := fun D δ => ta δ (fun as δ1 => ∃ ds, as = ds.map .d ∧ ds.length = ns.length ∧ ds.length ≤ 1000 ∧ D.ex ⟨B, some (ns.zip ds).reverse⟩ δ1) D.ex
theorem psd_raiseR {x : Str} {B : Addr} {ns : List Str} {e : Expr} {es : List Expr} {ta : TDA} {p pos pos2 : Pos} (hc : X.calm = true) (tk : Takes X W)
    (hk : ∀ {ta : TA}, PA X (e :: es) ta → PMk X (.Call (.Name x p) (e :: es) [] pos) (tMkO B (ErrR X.K B ns) [] ta)) (ha : PA X (e :: es) (LA X.K c W ta)) :
    PS X (.Raise (some (.Call (.Name x p) (e :: es) [] pos)) none pos2) (LS X.K c W (raiseR B ns ta)) :=
  PS_imp (ps_raise hc tk (hk ha)) fun D σ H ⟨δ, tmp, Dd, S, q, k, kr, kb, kc, w⟩ => ⟨δ, tmp, _, _, S, q, fun vs as δ1 F ow H1 ⟨ds, ea, hl, hz, q1⟩ S1 ra => by
    subst ea
    have r := args_d ra
    refine ⟨by rw [r.len]; exact hz, fun a na => ?_⟩
    refine ⟨a, vs, by rw [List.append_nil], by rw [r.len]; exact hl, upd_same, fun d nd ne => ⟨rfl, d, (ns.zip vs).reverse, upd_same, by rw [upd_ne ne, upd_same], by rwa [upd_ne ne] at nd, ?_⟩⟩
    have nd1 : H1 d = none := by rwa [upd_ne ne] at nd
    have eH : upd (del (upd (upd (upd H1 a (exo a B none)) d (exd d (ns.zip vs).reverse)) a (exo a B (some d))) a) d (.xd (ns.zip vs).reverse) = upd H1 d (.xd (ns.zip vs).reverse) := by
      funext b
      by_cases h1 : b = d
      · subst h1; rw [upd_same, upd_same]
      · rw [upd_ne h1, upd_ne h1]
        by_cases h2 : b = a
        · subst h2; rw [del_same]; exact na.symm
        · rw [del_ne h2, upd_ne h2, upd_ne h1, upd_ne h2]
    rw [eH]
    exact w _ _ _ _ _ ow _ _ q1 (S1.ext (Ext.new S1.fh nd1)) ⟨rfl, d, _, rfl, upd_same, repF_rev (repF_zip (r.mono (same_upd (Same.refl F) (S1.fh.free nd1))))⟩, w⟩
end
end DL
namespace DR
open PySem PySem.Spec PyProof.Rows L2 DL
theorem raiser {B : Addr} {ns : List Str} {ta : TDA} {D : EndsD} {δ : DSt} (h : ta δ (fun as δ1 => ∃ ds, as = ds.map .d ∧ ds.length = ns.length ∧ ds.length ≤ 1000 ∧ D.ex ⟨B, some (ns.zip ds).reverse⟩ δ1) D.ex) : raiseR B ns ta D δ := h
end DR

set_option Elab.async false
set_option linter.all false
set_option maxRecDepth 100000
/-! DL36: methods with defaults, classmethods with keywords, deep `in` of tuples, join -/
namespace DL
open PySem PySem.Spec PyProof.Rows L2
section
variable {X : Cx} {k n : Nat} {f g C : Addr} {fd : FuncData} {ps ks : List Str} {sp : Sp} {E : L2.St → XK} {x m : Str} {p pos apos : Pos} {e o : Expr} {es : List Expr} {kws : List Keyword} {t tk : TA} {to : TE} {gU : List Value → List Value → List Value} {gV : List V → List V → List V} {i : Nat}
/-! ### o.m(..) by values alone -/
def tMethR (C : Addr) (m : Str) (sp : Sp) (E : L2.St → XK) (ta : TE) (t : TA) : TE := fun σ H Q => ta σ H fun x H1 => ∃ a dx fs, x = .ref a ∧ H1 a = some (.ins C dx fs) ∧ fs.lookup m = none ∧ t σ H1 fun vs H2 => sp (x :: vs) H2 Q (E σ)
theorem pe_methR {pl : Sem Bool} (he : PE X o to) (c : Cls X.K C) (hm : Meth X.K C m f) (F : FnR X.prog X.w X.K X.mg X.base (L2.CX X.prog X.w) k f sp) (room : Room k X.A) (hx : ∀ σ, PassesAt (L2.CX X.prog X.w) X σ (E σ)) (ha : PA X (e :: es) t)
    (hst : starEach (e :: es) X.env = (false, eval e X.env) :: starEach es X.env := by rfl) (hpl : (backTo pos (starEach es X.env)).any (·.1) = false := by rfl)
    (ht : eval (.Call (.Attribute o m apos) (e :: es) [] pos) X.env = (do
      let ov ← eval o X.env
      standAt apos.atName
      let (f, first) ← holding [ov] (getMethod ov m pl)
      callWith pos f first (backTo pos (starEach (e :: es) X.env)) (backToKw pos (keywordEach [] X.env))) := by rfl) :
    PE X (.Call (.Attribute o m apos) (e :: es) [] pos) (tMethR C m sp E to t) := by
  refine ⟨fun pins s σ H Q I h => PySem.W.methodCall_KW (pl := pl) (thn (he.run pins s σ H _ I h) fun u s1 ⟨x, H1, I1, rx, a, dx, fs, ex, ea, l, q⟩ => ?_) ht⟩
  subst ex
  cases (show u = Value.ref a from rx)
  refine getmeth_ok I1 ea c hm l (PySem.W.callWith_K (first := [.ref a]) (h₀ := X.base) I.ok.mod.kin hm.kp (thn (ha.run pos pins s1 σ H1 _ I1 q) fun us s2 ⟨vs, H2, I2, r, q2⟩ => ⟨I2.kIn, ?_⟩) hst hpl)
  exact wpAny_call (run_R F room (hx σ) I2 (.cons (show RelV (V.ref a) (Value.ref a) from rfl) r) q2)
/-! ### C.m(.., k = v), m a classmethod -/
theorem run_N {pins : List (Addr × Obj)} {τ : L2.St} {G : Hp} {s : Shared} {Q : VK} {us ws : List Value} {vs zs : List V} (F : FnOk X.prog X.w X.K X.mg X.base (L2.CX X.prog X.w) k f fd ps sp) (room : Room k X.A) (kb : KBn X.K fd ps n ks gU gV) (hx : PassesAt (L2.CX X.prog X.w) X τ (E τ)) (I : Inv X pins τ G s)
    (rv : Vals vs us) (rz : Vals zs ws) (lv : vs.length = n) (lz : zs.length = ks.length) (h : sp (gV vs zs) G Q (E τ)) :
    codeAny (model X.prog X.w) X.A (.call (.ref f) ⟨us, ks.zip ws⟩) (fun fin s2 => match fin with | .ok (.ret v) => EP X pins τ Q v s2 | .ok _ => False | .error er => X.xe er s2) s := by
  refine codeAny_mono (F.run X.A X.stack s G ⟨us, ks.zip ws⟩ (gU us ws) (gV vs zs) Q (E τ) room I.env0 (kb.to s us ws I.kIn (rv.length.symm.trans lv) (rz.length.symm.trans lz)) (kb.rel rv rz) h) fun fin s2 y => ?_
  cases fin with
  | error er => exact hx pins G s er s2 I y
  | ok fl =>
    cases fl with
    | next => exact y.elim
    | brk => exact y.elim
    | cont => exact y.elim
    | ret u => exact I.after y
theorem pe_clsmK {mc : Value} {rp : Addr} {pl : Sem Bool} (ho : PE X o to) (cr : ClX.CRead X.K C mc) (cm : ClX.CMet X.K C mc m rp g) (F : FnOk X.prog X.w X.K X.mg X.base (L2.CX X.prog X.w) k g fd ps sp) (kb : KBn X.K fd ps (n + 1) ks gU gV) (room : Room k X.A) (hx : ∀ τ, PassesAt (L2.CX X.prog X.w) X τ (E τ)) (ha : PA X (e :: es) t) (hk : PK X kws tk)
    (hall : (backToKw pos (keywordEach kws X.env)).all (·.1.isSome) = true := by rfl) (hks : (backToKw pos (keywordEach kws X.env)).filterMap (·.1) = ks := by rfl)
    (hst : starEach (e :: es) X.env = (false, eval e X.env) :: starEach es X.env := by rfl) (hpl : ((backTo pos (starEach (e :: es) X.env)).any (·.1) || (backToKw pos (keywordEach kws X.env)).any (·.1.isNone)) = false := by rfl)
    (ht : eval (.Call (.Attribute o m apos) (e :: es) kws pos) X.env = (do
      let y ← eval o X.env
      standAt apos.atName
      let (u, ahead) ← holding [y] (getMethod y m pl)
      callWith pos u ahead (backTo pos (starEach (e :: es) X.env)) (backToKw pos (keywordEach kws X.env))) := by rfl) :
    PE X (.Call (.Attribute o m apos) (e :: es) kws pos) (fun τ G Q => to τ G fun x G1 => x = .ref C ∧ t τ G1 fun vs G2 => tk τ G2 fun zs G3 => vs.length = n ∧ zs.length = ks.length ∧ sp (gV (.ref C :: vs) zs) G3 Q (E τ)) := by
  refine ⟨fun pins s τ G Q I h => PySem.W.methodCall_KW (pl := pl) (thn (ho.run pins s τ G _ I h) fun u s1 ⟨x, G1, I1, rx, ex, q⟩ => ?_) ht⟩
  subst ex
  obtain rfl : u = Value.ref C := rx
  refine ClX.getmethcm_ok I1 cr cm fun s2 I2 => ?_
  refine PySem.W.callWith_of hpl (PySem.W.keeps_M (K := X.K) (q := s1.heap.objs.size) (f := g) (self := .ref C) cm.fi) (PyProof.Rows.evalArgs_kw2 hall (thn (ha.run pos _ s2 τ G1 _ I2 q) fun us s3 ⟨vs, G2, I3, rv, q2⟩ =>
    thn (hk.run pos _ s3 τ G2 _ I3 q2) fun ws s4 ⟨zs, G3, I4, rz, lv, lz, q3⟩ => ⟨⟨ClX.pin_at I4, I4.kIn⟩, ?_⟩) hst)
  rw [hks]
  exact thn (wpAny_call (PySem.W.method_call (ClX.pin_at I4) (run_N (us := .ref C :: us) (vs := .ref C :: vs) F room kb (hx τ) I4 (.cons rfl rv) rz (congrArg (· + 1) lv) lz q3))) fun _ _ y => ClX.unpinE y
end
section
variable {X : Cx} {c : Fc} {W : WX} {k n : Nat} {f g C : Addr} {fd : FuncData} {ps ks : List Str} {sd : SpD} {x m : Str} {p pos apos kpos : Pos} {e o : Expr} {es : List Expr} {kws : List Keyword} {t to : TD} {ta tk : TDA} {gU : List Value → List Value → List Value} {gV : List V → List V → List V} {i : Nat}
def methRD (C : Addr) (m : Str) (sd : SpD) (to : TD) (ta : TDA) : TD := fun δ Q E => to δ (fun o δ1 => ∃ fs, o.toD = .obj C fs ∧ fs.lookup m = none ∧ ta δ1 (fun as δ2 => ∃ ds : List D, as = ds.map .d ∧
  sd (.d (.obj C fs) :: ds.map .d) (fun r _ => Q r δ2) (fun x _ => E x δ2)) E) E
theorem pd_methR {pl : Sem Bool} (he : PE X o (LE X.K c W to)) (cl : Cls X.K C) (hm : Meth X.K C m f) (G : FnR X.prog X.w X.K X.mg X.base (L2.CX X.prog X.w) k f (spOf X.K sd)) (hr : Room k X.A) (tk0 : Takes X W) (ha : PA X (e :: es) (LA X.K c W ta))
    (hst : starEach (e :: es) X.env = (false, eval e X.env) :: starEach es X.env := by rfl) (hpl : (backTo pos (starEach es X.env)).any (·.1) = false := by rfl)
    (ht : eval (.Call (.Attribute o m apos) (e :: es) [] pos) X.env = (do
      let ov ← eval o X.env
      standAt apos.atName
      let (f, first) ← holding [ov] (getMethod ov m pl)
      callWith pos f first (backTo pos (starEach (e :: es) X.env)) (backToKw pos (keywordEach [] X.env))) := by rfl) :
    PE X (.Call (.Attribute o m apos) (e :: es) [] pos) (LE X.K c W (methRD C m sd to ta)) :=
  PE_imp (pe_methR (E := WE W) he cl hm G hr (fun σ => passAt tk0 σ) ha hst hpl ht) fun σ H Q ⟨δ, tmp, Qd, Ed, S, t, k, w⟩ =>
    ⟨δ, tmp, _, Ed, S, t, fun v o δ1 H1 ⟨fs, eo, nl, t1⟩ ⟨F, ow, S1⟩ => by
      obtain ⟨F', S2, _⟩ := S1.top_frz
      rw [eo] at S2
      cases S2.top with
      | @obj a _ dx vs _ s h =>
        refine ⟨a, dx, vs, rfl, S2.fh _ _ s, (RepF.lookup h).1 nl, δ1, _, _, Ed, ⟨F', ow, S2⟩, t1, fun ws as δ2 F2 ow2 H2 ⟨ds, ea, sp⟩ S3 ra => ?_, w.push⟩
        subst ea
        exact lift_data (ds := .obj C fs :: ds) S3.pop (.cons S3.top (args_d ra)) sp k w, w⟩
/-- C.m(.., k = v) -/
def clsmKD (C : Addr) (n m : Nat) (sd : SpD) (to : TD) (ta tk : TDA) : TD := fun δ Q E => to δ (fun o δ1 => o.toD = .adr C ∧ ta δ1 (fun as δ2 => ∃ ds : List D, as = ds.map .d ∧ ds.length = n ∧ tk δ2 (fun zs δ3 => ∃ es : List D, zs = es.map .d ∧ es.length = m ∧
  sd (.d (.adr C) :: (ds ++ es).map .d) (fun r _ => Q r δ3) (fun x _ => E x δ3)) E) E) E
theorem pd_clsmK {mc : Value} {rp : Addr} {pl : Sem Bool} (ho : PE X o (LE X.K c W to)) (cr : ClX.CRead X.K C mc) (cm : ClX.CMet X.K C mc m rp g) (G : FnOk X.prog X.w X.K X.mg X.base (L2.CX X.prog X.w) k g fd ps (spOf X.K sd)) (hr : Room k X.A) (kb : KBn X.K fd ps (n + 1) ks gU (fun vs zs => vs ++ zs ++ [])) (tk0 : Takes X W) (ha : PA X (e :: es) (LA X.K c W ta)) (hk : PK X kws (LA X.K c W tk))
    (hall : (backToKw pos (keywordEach kws X.env)).all (·.1.isSome) = true := by rfl) (hks : (backToKw pos (keywordEach kws X.env)).filterMap (·.1) = ks := by rfl)
    (hst : starEach (e :: es) X.env = (false, eval e X.env) :: starEach es X.env := by rfl) (hpl : ((backTo pos (starEach (e :: es) X.env)).any (·.1) || (backToKw pos (keywordEach kws X.env)).any (·.1.isNone)) = false := by rfl)
    (ht : eval (.Call (.Attribute o m apos) (e :: es) kws pos) X.env = (do
      let y ← eval o X.env
      standAt apos.atName
      let (u, ahead) ← holding [y] (getMethod y m pl)
      callWith pos u ahead (backTo pos (starEach (e :: es) X.env)) (backToKw pos (keywordEach kws X.env))) := by rfl) :
    PE X (.Call (.Attribute o m apos) (e :: es) kws pos) (LE X.K c W (clsmKD C n ks.length sd to ta tk)) :=
  PE_imp (pe_clsmK (E := WE W) ho cr cm G kb hr (fun τ => passAt tk0 τ) ha hk hall hks hst hpl ht) fun σ H Q ⟨δ, tmp, Qd, Ed, S, t, k, w⟩ =>
    ⟨δ, tmp, _, Ed, S, t, fun v y δ1 H1 ⟨ey, t1⟩ ⟨F, ow, S1⟩ => by
      obtain ⟨F', S2, _⟩ := S1.top_frz
      rw [ey] at S2
      have r := S2.top
      cases r
      refine ⟨rfl, δ1, tmp, _, Ed, ⟨F', ow, S2.pop⟩, t1, fun vs as δ2 F2 ow2 H2 ⟨ds, ea, ln, t2⟩ S3 ra => ?_, w⟩
      subst ea
      have r1 := args_d ra
      refine ⟨δ2, vs.zip (ds.map .d) ++ tmp, _, Ed, ⟨F2, ow2, S3.pushL r1⟩, t2, fun zs bs δ3 F3 ow3 H3 ⟨es, eb, lm, h⟩ S4 rb => ?_, w.pushL⟩
      subst eb
      have r2 := args_d rb
      obtain ⟨r1, S5⟩ := S4.popL r1.len
      refine ⟨r1.len.trans ln, r2.len.trans lm, ?_⟩
      show spOf X.K sd (V.ref C :: vs ++ zs ++ []) H3 Q (WE W σ)
      rw [List.append_nil]
      exact lift_data (ds := .adr C :: (ds ++ es)) S5 (.cons (.adr C) (r1.app r2)) h k w, w⟩
end
section
variable (P : Program) (w : World) (K : PySem.W.Frag) (mg : Str → Option Value) (base : Heap)
/-- a classmethod called with keywords -/
structure DefCK (C : Addr) (mc : Value) (x : Str) (k n : Nat) (ps ks : List Str) (sd : SpD) where
  p : Addr
  f : Addr
  fd : FuncData
  g : List Value → List Value → List Value
  ok : FnOk P w K mg base (L2.CX P w) k f fd ps (spOf K sd)
  kb : KBn K fd ps (n + 1) ks g (fun vs zs => vs ++ zs ++ [])
  cm : ClX.CMet K C mc x p f
/-- a method by values alone -/
structure DefMR (C : Addr) (x : Str) (k : Nat) (sd : SpD) where
  f : Addr
  ok : FnR P w K mg base (L2.CX P w) k f (spOf K sd)
  me : Meth K C x f
end
/-! ### x in (..), items of any depth -/
section
variable {X : Cx}
def rInT (K : PySem.W.Frag) (neg : Bool) : R2 := fun x y H Q => ∃ d ds, Dp K H x d ∧ (Dp K H y (.list ds) ∧ SeqAt.shaped (.list ds) = true ∨ Dp K H y (.tuple ds) ∧ SeqAt.shaped (.tuple ds) = true) ∧ SeqAt.shaped d = true ∧ Q (.bl (if neg then !ds.any fun z => PyData.eqv z d else ds.any fun z => PyData.eqv z d)) H
theorem op_inT (hu : X.A.units + 65 < cLine) : OpR X (compareOp .In) (rInT X.K false) := by
  intro pins s σ H x y v u Q I rx ry h
  obtain ⟨d, ds, hd, he, sd, q⟩ := h
  obtain ⟨as, r1⟩ := Dp.reads I d x v hd rx
  rcases he with ⟨he, se⟩ | ⟨he, se⟩
  · obtain ⟨bs, r2⟩ := Dp.reads I (.list ds) y u he ry
    exact SeqAt.in_list_reads r2 r1 (SeqAt.canLay_of_shaped se) (SeqAt.canLay_of_shaped sd) (room_in_shaped sd hu) ⟨.bl _, H, I, rfl, q⟩
  · obtain ⟨bs, r2⟩ := Dp.reads I (.tuple ds) y u he ry
    exact SeqAt.in_tuple_reads r2 r1 (SeqAt.canLay_of_shaped se) (SeqAt.canLay_of_shaped sd) (room_in_shaped sd hu) ⟨.bl _, H, I, rfl, q⟩
theorem op_notInT (hu : X.A.units + 65 < cLine) : OpR X (compareOp .NotIn) (rInT X.K true) := by
  intro pins s σ H x y v u Q I rx ry h
  obtain ⟨d, ds, hd, he, sd, q⟩ := h
  obtain ⟨as, r1⟩ := Dp.reads I d x v hd rx
  rcases he with ⟨he, se⟩ | ⟨he, se⟩
  · obtain ⟨bs, r2⟩ := Dp.reads I (.list ds) y u he ry
    exact SeqAt.notIn_list_reads r2 r1 (SeqAt.canLay_of_shaped se) (SeqAt.canLay_of_shaped sd) (room_in_shaped sd hu) ⟨.bl _, H, I, rfl, q⟩
  · obtain ⟨bs, r2⟩ := Dp.reads I (.tuple ds) y u he ry
    exact SeqAt.notIn_tuple_reads r2 r1 (SeqAt.canLay_of_shaped se) (SeqAt.canLay_of_shaped sd) (room_in_shaped sd hu) ⟨.bl _, H, I, rfl, q⟩
end
abbrev inTS (neg : Bool) : RD2s := fun a b Q => ∃ xs, (b = .lst xs ∨ b = .tup xs) ∧ Cmp a ∧ Cmp b ∧ Q (.bl (if neg then !(pyL xs).any fun z => PyData.eqv z a.py else (pyL xs).any fun z => PyData.eqv z a.py))
theorem op2_inT {K : PySem.W.Frag} (neg : Bool) : Op2s K (rInT K neg) (inTS neg) := fun x y a b F H Q Qd s rx ry ⟨xs, hb, ca, cb, q⟩ k => by
  refine ⟨a.py, pyL xs, dp_mono s (rx.dp ca.1), ?_, rx.shp ca, k _ _ q rfl⟩
  rcases hb with rfl | rfl
  · exact .inl ⟨dp_mono s (ry.dp cb.1), ry.shp cb⟩
  · exact .inr ⟨dp_mono s (ry.dp cb.1), ry.shp cb⟩
end DL
namespace DR
open PySem PySem.Spec PyProof.Rows L2 DL
section
variable {δ : DSt} {Q : DK} {E : XD}
theorem methr {C : Addr} {m : Str} {sd : SpD} {to : TD} {ta : TDA} (h : to δ (fun o δ1 => ∃ fs, o.toD = .obj C fs ∧ fs.lookup m = none ∧ ta δ1 (fun as δ2 => ∃ ds : List DL.D, as = ds.map .d ∧
  sd (.d (.obj C fs) :: ds.map .d) (fun r _ => Q r δ2) (fun x _ => E x δ2)) E) E) : methRD C m sd to ta δ Q E := h
theorem clsmk {C : Addr} {n m : Nat} {sd : SpD} {to : TD} {ta tk : TDA} (h : to δ (fun o δ1 => o.toD = .adr C ∧ ta δ1 (fun as δ2 => ∃ ds : List DL.D, as = ds.map .d ∧ ds.length = n ∧ tk δ2 (fun zs δ3 => ∃ es : List DL.D, zs = es.map .d ∧ es.length = m ∧
  sd (.d (.adr C) :: (ds ++ es).map .d) (fun r _ => Q r δ3) (fun x _ => E x δ3)) E) E) E) : clsmKD C n m sd to ta tk δ Q E := h
end
end DR

set_option Elab.async false
set_option linter.all false
set_option maxRecDepth 100000
/-! DL37: defs with positional defaults -/
namespace DL
open PySem PySem.Spec PyProof.Rows L2
section
variable {P : Program} {w : World} {K : PySem.W.Frag} {mg : Str → Option Value} {base : Heap}
theorem okDD {x qual : Str} {pa : Arguments} {bd : List Stmt} {sc : Scope} {dvs : List V} {kws : List (Str × V)} {f : Addr} {fd : FuncData} {N ps : List Str} {k : Nat} {sd : SpD} (G : FunD K x qual pa bd sc dvs kws f fd) (S : FnScope N ps sc) (sl : List Nat) (len : ∀ as Q E, sd as Q E → as.length = ps.length ∧ ownIx as 0 = sl)
    (hbody : ∃ t : TDS, (∀ (cdv : Value) (A : Around) (outer : List Env) (s : Shared) (H : Hp) (E : XK) (ad : List Addr) (F0 H0 : Hp), Room k (A.deeper (envOfC qual sc s.heap.objs.size f cdv)) →
        PSs (cxOf (L2.CX P w) P w K mg base N qual sc f cdv A outer s H E) bd (LS K ⟨sl, ad, F0, H0⟩ (fun cls d _ H => E cls d H) t)) ∧
      ∀ as Qd Ed, sd as Qd Ed → t (endsD sl Qd Ed) (startD N.length as)) :
    FnOk P w K mg base (L2.CX P w) (k + 1) f fd ps (spOf K sd) := by
  obtain ⟨t, ht, hq⟩ := hbody
  refine G.ok (CX := L2.CX P w) S (fun vs H Q E ⟨F, as, qs, Qd, Ed, _, A, h, _⟩ => by rw [A.len]; exact (len _ _ _ h).1) fun cdv A outer s H vs Q E hr ⟨F, as, qs, Qd, Ed, sm, ar, h, kq, ke⟩ => ?_
  have hsl := (len _ _ _ h).2
  have S0 := entry (N := N) sm ar
  rw [hsl] at S0
  have hpl : qs.length = sl.length := by rw [← hsl]; exact ar.plen
  have post : ∀ {δ' : DSt} {tmp : List (V × DV)} {σ' : L2.St} {F' H' : Hp} {ow' : Addr → Option Hold} {os : List OC}, SttF K ⟨sl, qs, F, H⟩ F' ow' δ' tmp σ' H' → takeB δ' sl os → Post K F H qs os F' H' := fun {δ' tmp σ' F' H' ow' os} S' tb =>
    ⟨S'.f0, S'.fh, S'.fr, S'.up, S'.fn, takeB_reps S' hpl S'.ps tb⟩
  refine ⟨_, ht cdv A outer s H E qs F H hr, startD N.length as, [], endsD sl Qd Ed, ⟨F, _, S0⟩, hq as Qd Ed h, fun δ' σ' H' ⟨os, tb, q⟩ ⟨F', ow', S'⟩ => ?_, fun v x δ' σ' H' ⟨os, tb, q⟩ ⟨F', ow', S'⟩ => ?_, fun _ _ _ z => z.elim, fun _ _ _ z => z.elim, fun x δ' σ' H' F' ow' cls d ⟨os, tb, q⟩ S' er => ?_⟩
  · exact kq .non (.d .non) os F' H' q (post S' tb) .non
  · refine kq v x os F' H' q (post S' tb) ?_
    cases x with
    | d y => exact S'.top
    | own o =>
      obtain ⟨p, rfl, e, b, n, r⟩ := S'.tm.1
      exact ⟨p, rfl, n.t, b, r⟩
  · exact ke cls d x os F' H' q (post S' tb) er
theorem FnOk.rawB {k : Nat} {f : Addr} {fd : FuncData} {ps : List Str} {sp : Sp} {dv : List V} {ds : List Value} (F : FnOk P w K mg base (L2.CX P w) k f fd ps sp) (hb : Binds K fd ps ds) (hd : Vals dv ds) : FnR P w K mg base (L2.CX P w) k f (fun vs H Q E => vs.length + dv.length = ps.length ∧ sp (vs ++ dv) H Q E) := by
  intro A outer s H us vs Q E hr e0 r ⟨hl, hs⟩
  have hl2 : (us ++ ds).length = ps.length := by rw [List.length_append, ← r.length, ← hd.length]; exact hl
  have z := hb s us (e0.mod.kin.keeps fun b o e => (e0.bs b o e).1) hl2
  exact F.run A outer s H ⟨us, []⟩ (us ++ ds) (vs ++ dv) Q E hr e0 z (r.append hd) hs
theorem FnOk.dfltB {k n : Nat} {f : Addr} {fd : FuncData} {ps : List Str} {sd : SpD} {dv : List V} {dd : List D} {ds : List Value} (F : FnOk P w K mg base (L2.CX P w) k f fd ps (spOf K sd)) (hb : Binds K fd ps ds) (hv : Vals dv ds) (hn : n + dv.length = ps.length) (hd : ∀ F, RepL K F dv dd) :
    FnR P w K mg base (L2.CX P w) k f (spOf K (dfltD n dd sd)) := (DL.FnOk.rawB F hb hv).imp fun vs H Q E ⟨F, as, qs, Qd, Ed, sm, ar, ⟨ds, ea, hm, h⟩, kq, ke⟩ => by
  subst ea
  obtain ⟨r, rfl⟩ := argsRep_d ar
  refine ⟨by rw [r.len, hm]; exact hn, ?_⟩
  exact ⟨F, _, [], _, _, sm, (r.app (hd F)).args, h, fun v x os F' H' q Pq rr => kq v x [] F' H' q (by cases Pq.nil; exact Pq) rr, fun cls d x os F' H' q Pq er => ke cls d x [] F' H' q (by cases Pq.nil; exact Pq) er⟩
end
end DL

set_option Elab.async false
set_option linter.all false
set_option maxRecDepth 100000
/-! DL38: sep.join(texts) -/
namespace DL
open PySem PySem.Spec PyProof.Rows L2
theorem strOk_join {y : Str} (hy : PyData.strOk y = true) : ∀ {xs : List Str}, (∀ x ∈ xs, PyData.strOk x = true) → PyData.strOk (Str.join y xs) = true
  | [], _ => by
    show PyData.strOk Str.empty = true
    decide +kernel
  | [x], h => h x List.mem_cons_self
  | x :: z :: r, h => by
    show PyData.strOk (x ++ y ++ Str.join y (z :: r)) = true
    exact strOk_app (strOk_app (h x List.mem_cons_self) hy) (strOk_join hy fun a ha => h a (List.mem_cons_of_mem _ ha))
theorem reps_strs {K : PySem.W.Frag} {F : Hp} : ∀ {ys : List Str} {vs : List V}, RepL K F vs (ys.map .str) → vs = ys.map V.str ∧ ∀ y ∈ ys, PyData.strOk y = true
  | [], _, .nil => ⟨rfl, fun y h => nomatch h⟩
  | y :: ys, _, .cons h t => by
    obtain ⟨rfl, ok⟩ := reps_strs t
    cases h with
    | str k => exact ⟨rfl, fun z hz => (List.mem_cons.mp hz).elim (fun e => by rw [e]; exact k) (ok z)⟩
section
variable {X : Cx} {c : Fc} {W : WX}
def joinD (to te : TD) : TD := fun δ Q E => to δ (fun x δ1 => ∃ a, x.toD = .str a ∧ te δ1 (fun y δ2 => ∃ ys : List Str, y.toD.its = some (ys.map .str) ∧ (ys.map (·.length)).sum + ys.length * a.length ≤ 16777216 ∧ Q (.d (.str (Str.join a ys))) δ2) E) E
theorem pd_join {o e : Expr} {to te : TD} {apos pos : Pos} (ho : PE X o (LE X.K c W to)) (he : PE X e (LE X.K c W te)) (hs : starEach [e] X.env = [(false, eval e X.env)] := by rfl) (hbase : attributeBase o "join" X.env (eval o X.env) = eval o X.env := by rfl) (hline : (apos.endLine == pos.line) = true := by rfl) :
    PE X (.Call (.Attribute o "join" apos) [e] [] pos) (LE X.K c W (joinD to te)) :=
  PE_imp (pe_join ho he hs hbase hline) fun σ H Q ⟨δ, tmp, Qd, Ed, S, t, k, w⟩ => ⟨δ, tmp, _, Ed, S, t, fun v x δ1 H1 ⟨a, ea, t1⟩ ⟨F, ow, S1⟩ => by
    obtain ⟨F', S2, _⟩ := S1.top_frz
    rw [ea] at S2
    have r := S2.top
    cases r with
    | str k1 =>
      refine ⟨⟨a, rfl⟩, δ1, _, _, Ed, ⟨F', ow, S2⟩, t1, fun u y δ2 H2 ⟨ys, ey, hz, q⟩ ⟨F3, ow3, S3⟩ => ?_, w.push⟩
      obtain ⟨F4, S4, _⟩ := S3.top_frz
      obtain ⟨p, vs, rfl, h, r⟩ := S4.top.row ey
      obtain ⟨rfl, ok⟩ := reps_strs r
      refine ⟨a, p, ys, rfl, rfl, sq_mono S4.fh h, hz, ?_⟩
      rw [TL.join_eq]
      exact k _ _ _ _ q ⟨F4, ow3, (S4.pop.pop).push (.str (strOk_join k1 ok))⟩, w⟩
end
end DL
namespace DR
open PySem PySem.Spec PyProof.Rows L2 DL
theorem join {δ : DSt} {Q : DK} {E : XD} {to te : TD} (h : to δ (fun x δ1 => ∃ a, x.toD = .str a ∧ te δ1 (fun y δ2 => ∃ ys : List Str, y.toD.its = some (ys.map .str) ∧ (ys.map (·.length)).sum + ys.length * a.length ≤ 16777216 ∧ Q (.d (.str (Str.join a ys))) δ2) E) E) : joinD to te δ Q E := h
end DR

set_option Elab.async false
set_option linter.all false
set_option maxRecDepth 100000
set_option maxHeartbeats 2000000
/-! DL39: dict(zip(a, b)) of two tuples, a of texts -/
namespace ZT
open PySem PySem.Spec
open PySem.Sem (wp)
section
variable {prog : Program} {w : World} {A : Around} {E : Value → Shared → Prop} {s : Shared} {z TI TO T i1 i2 l1 l2 : Addr} {f : Bool} {oT : Obj} {k1 k2 : Nat} {xs ys : Array Value}
/-- two tuples are zipped, a tuple given out before is still there -/
theorem item_h {x y : Value} {Q : Value → Shared → Prop} (D : ZipApart z TI TO i1 i2 l1 l2) (hz : IsZipHeld s.heap z TI TO T f) (hT : s.heap.get? T = some oT) (hI : IsPair s.heap TI (.ref i1) (.ref i2)) (a1 : s.heap.IsTupleIter i1 l1 k1) (a2 : s.heap.IsTupleIter i2 l2 k2) (b1 : s.heap.IsTuple l1 xs) (b2 : s.heap.IsTuple l2 ys) (ex : xs[k1]? = some x) (ey : ys[k2]? = some y)
    (hQ : ∀ g, IsZipHeld g z TI TO T true → g.IsTupleIter i1 l1 (k1 + 1) → g.IsTupleIter i2 l2 (k2 + 1) → IsPair g s.heap.objs.size x y → (∀ c o, c ≠ z → c ≠ i1 → c ≠ i2 → s.heap.get? c = some o → g.get? c = some o) → Q (.ref s.heap.objs.size) { s with heap := g }) :
    wpAny (model prog w) A (Builtin.«zip.__next__» ⟨[.ref z], []⟩) (fun fin s' => ∃ v, fin = .done (.ret v) ∧ Q v s') E s := by
  show wpAny _ _ (field (.ref z) 2 >>= _) _ _ _; refine wpAny_bind (wpAny_field hz rfl (x := .bool false) rfl ?_); show wpAny _ _ (field (.ref z) 3 >>= _) _ _ _
  refine wpAny_bind (wpAny_field hz rfl (x := .ref TI) rfl ?_); refine wpAny_bind (wpAny_seqItems hI rfl ?_); show wpAny _ _ (Builtin.SmallTypes.ownedTupleIsFree (.ref z) >>= _) _ _ _
  refine wpAny_bind (wpAny_tupleHeld_zip hz hT fun g1 z1 s1 => ?_); simp only [Bool.false_eq_true, if_false]; refine wpAny_bind ?_; rw [← Array.forIn_toList]; simp only [List.forIn_cons, List.forIn_nil]
  refine wpAny_bind (wpAny_bind (wpAny_holding ?_)); show wpAny _ _ (Builtin.SmallTypes.nextOf (.ref i1) >>= _) _ _ _
  refine wpAny_bind (RZ.nextOf_tuple_item (s := { s with heap := g1 }) (a1.extBut s1.extBut D.i1z) (b1.extBut s1.extBut D.l1z) ex fun g2 j1 s2 => wpAny_pure ?_); refine wpAny_pure ?_
  refine wpAny_bind (wpAny_bind (wpAny_holding ?_)); show wpAny _ _ (Builtin.SmallTypes.nextOf (.ref i2) >>= _) _ _ _
  refine wpAny_bind (RZ.nextOf_tuple_item (s := { s with heap := g2 }) ((a2.extBut s1.extBut D.i2z).extBut s2.extBut D.i12.symm) ((b2.extBut s1.extBut D.l2z).extBut s2.extBut D.l2i1) ey fun g3 j2 s3 => wpAny_pure ?_)
  refine wpAny_pure (wpAny_pure ?_); show wpAny _ _ (newTuple [x, y] >>= _) _ _ _; refine wpAny_bind (wpAny_newTuple ?_)
  have sz : g3.objs.size = s.heap.objs.size := by rw [s3.1, s2.1, s1.1]
  have z3 : IsZipHeld g3 z TI TO T true := s3.extBut _ _ D.i2z.symm (s2.extBut _ _ D.i1z.symm z1)
  have kp : ∀ c o, c ≠ z → c ≠ i1 → c ≠ i2 → s.heap.get? c = some o → g3.get? c = some o := fun c o c1 c2 c3 e => s3.extBut _ _ c3 (s2.extBut _ _ c2 (s1.extBut _ _ c1 e))
  have j3 : g3.IsTupleIter i1 l1 (k1 + 1) := j1.extBut s3.extBut D.i12
  refine wpAny_pure ⟨_, rfl, ?_⟩; show Q (.ref g3.objs.size) _
  have hp : IsPair (g3.push { cls := .type "tuple", data := .seq #[x, y] }) g3.objs.size x y := Heap.get?_push_size _ rfl; rw [sz] at hp ⊢
  exact hQ _ (Heap.get?_push_of_some _ z3) (j3.at fun o e => Heap.get?_push_of_some _ e) (j2.at fun o e => Heap.get?_push_of_some _ e) hp fun c o c1 c2 c3 e => Heap.get?_push_of_some _ (kp c o c1 c2 c3 e)
theorem end_h {Q : Fin → Shared → Prop} (hh : A.handled = none) (D : ZipApart z TI TO i1 i2 l1 l2) (hz : IsZipHeld s.heap z TI TO T f) (hT : s.heap.get? T = some oT) (hI : IsPair s.heap TI (.ref i1) (.ref i2)) (a1 : s.heap.IsTupleIter i1 l1 k1) (a2 : s.heap.IsTupleIter i2 l2 k2) (b1 : s.heap.IsTuple l1 xs) (b2 : s.heap.IsTuple l2 ys) (hend : xs[k1]? = none ∨ ys[k2]? = none)
    (hE : ∀ g e, (∀ c o, c ≠ z → c ≠ i1 → c ≠ i2 → s.heap.get? c = some o → g.get? c = some o) → (∃ o, g.get? e = some o ∧ o.cls = .type "StopIteration") → E (.ref e) { s with heap := g }) : wpAny (model prog w) A (Builtin.«zip.__next__» ⟨[.ref z], []⟩) Q E s := by
  show wpAny _ _ (field (.ref z) 2 >>= _) _ _ _; refine wpAny_bind (wpAny_field hz rfl (x := .bool false) rfl ?_); show wpAny _ _ (field (.ref z) 3 >>= _) _ _ _
  refine wpAny_bind (wpAny_field hz rfl (x := .ref TI) rfl ?_); refine wpAny_bind (wpAny_seqItems hI rfl ?_); show wpAny _ _ (Builtin.SmallTypes.ownedTupleIsFree (.ref z) >>= _) _ _ _
  refine wpAny_bind (wpAny_tupleHeld_zip hz hT fun g1 z1 s1 => ?_); simp only [Bool.false_eq_true, if_false]; refine wpAny_bind ?_; rw [← Array.forIn_toList]; simp only [List.forIn_cons, List.forIn_nil]
  refine wpAny_bind (wpAny_bind (wpAny_holding ?_)); show wpAny _ _ (Builtin.SmallTypes.nextOf (.ref i1) >>= _) _ _ _
  cases hx : xs[k1]? with
  | none => exact wpAny_bind (RZ.nextOf_tuple_end (s := { s with heap := g1 }) hh (a1.extBut s1.extBut D.i1z) (b1.extBut s1.extBut D.l1z) hx fun g2 e s2 he => hE g2 e (fun c o c1 c2 _ q => s2 _ _ c2 (s1.extBut _ _ c1 q)) he)
  | some x =>
    have hy : ys[k2]? = none := by rcases hend with h | h <;> first | exact h | (rw [hx] at h; cases h)
    refine wpAny_bind (RZ.nextOf_tuple_item (s := { s with heap := g1 }) (a1.extBut s1.extBut D.i1z) (b1.extBut s1.extBut D.l1z) hx fun g2 j1 s2 => wpAny_pure ?_); refine wpAny_pure ?_
    refine wpAny_bind (wpAny_bind (wpAny_holding ?_)); show wpAny _ _ (Builtin.SmallTypes.nextOf (.ref i2) >>= _) _ _ _
    exact wpAny_bind (RZ.nextOf_tuple_end (s := { s with heap := g2 }) hh ((a2.extBut s1.extBut D.i2z).extBut s2.extBut D.i12.symm) ((b2.extBut s1.extBut D.l2z).extBut s2.extBut D.l2i1) hy fun g3 e s3 he => hE g3 e (fun c o c1 c2 c3 q => s3 _ _ c3 (s2.extBut _ _ c2 (s1.extBut _ _ c1 q))) he)
theorem next_h {x y : Value} {Q : Option Value → Shared → Prop} (D : ZipApart z TI TO i1 i2 l1 l2) (hz : IsZipHeld s.heap z TI TO T f) (hT : s.heap.get? T = some oT) (hI : IsPair s.heap TI (.ref i1) (.ref i2)) (a1 : s.heap.IsTupleIter i1 l1 k1) (a2 : s.heap.IsTupleIter i2 l2 k2) (b1 : s.heap.IsTuple l1 xs) (b2 : s.heap.IsTuple l2 ys) (ex : xs[k1]? = some x) (ey : ys[k2]? = some y)
    (hQ : ∀ g, IsZipHeld g z TI TO T true → g.IsTupleIter i1 l1 (k1 + 1) → g.IsTupleIter i2 l2 (k2 + 1) → IsPair g s.heap.objs.size x y → (∀ c o, c ≠ z → c ≠ i1 → c ≠ i2 → s.heap.get? c = some o → g.get? c = some o) → Q (some (.ref s.heap.objs.size)) { s with heap := g }) :
    wpAny (model prog w) A (pyNext (.ref z)) Q E s := by
  have ty : s.TypeIs (.ref z) "zip" := ⟨_, hz, rfl⟩
  unfold pyNext
  exact wpAny_bind (wpAny_attempt (wpAny_callSpecial?_slot (name := Str.ofString "__next__") ty F.slot_zip_next (wpAny_call_entry F.slot_zip_next ty F.entry_zip_next (item_h D hz hT hI a1 a2 b1 b2 ex ey fun g c1 c2 c3 c4 c5 => wpAny_pure (hQ g c1 c2 c3 c4 c5)) (F.args_zip_next_1 _))))
theorem last_h {Q : Option Value → Shared → Prop} (hh : A.handled = none) (D : ZipApart z TI TO i1 i2 l1 l2) (hz : IsZipHeld s.heap z TI TO T f) (hT : s.heap.get? T = some oT) (hI : IsPair s.heap TI (.ref i1) (.ref i2)) (a1 : s.heap.IsTupleIter i1 l1 k1) (a2 : s.heap.IsTupleIter i2 l2 k2) (b1 : s.heap.IsTuple l1 xs) (b2 : s.heap.IsTuple l2 ys) (hend : xs[k1]? = none ∨ ys[k2]? = none)
    (hQ : ∀ g, (∀ c o, c ≠ z → c ≠ i1 → c ≠ i2 → s.heap.get? c = some o → g.get? c = some o) → Q none { s with heap := g }) : wpAny (model prog w) A (pyNext (.ref z)) Q E s := by
  have ty : s.TypeIs (.ref z) "zip" := ⟨_, hz, rfl⟩
  unfold pyNext
  refine wpAny_bind (wpAny_attempt (wpAny_callSpecial?_slot (name := Str.ofString "__next__") ty F.slot_zip_next (wpAny_call_entry F.slot_zip_next ty F.entry_zip_next (end_h hh D hz hT hI a1 a2 b1 b2 hend fun g e hk he => ?_) (F.args_zip_next_1 _))))
  obtain ⟨o, ho, hc⟩ := he
  exact wpAny_bind (wpAny_isInstance (T := "StopIteration") (b := true) ⟨o, ho, hc⟩ isSubtype_stop (wpAny_pure (hQ _ hk)))
end
section
variable {prog : Program} {w : World}
/-- zip of two tuples as what dict() reads -/
theorem arg (z TI TO i1 i2 l1 l2 : Addr) (D : ZipApart z TI TO i1 i2 l1 l2) (xs ys : Array Value) :
    PairArg prog w "zip" z [z, TI, TO, i1, i2, l1, l2] [z, TO, i1, i2] (min xs.size ys.size) (fun i k v => xs[i]? = some k ∧ ys[i]? = some v)
      (fun h => (IsZip h z TI TO .none ∧ IsPair h TI (.ref i1) (.ref i2)) ∧ (∃ a b, IsPair h TO a b) ∧ (h.IsTupleIter i1 l1 0 ∧ h.IsTupleIter i2 l2 0) ∧ h.IsTuple l1 xs ∧ h.IsTuple l2 ys) where
  type := fun s ok => ⟨_, ok.1.1, rfl⟩
  notDict := by decide
  keep := fun h h' ⟨⟨q1, q2⟩, ⟨a, b, q3⟩, ⟨q4, q5⟩, q6, q7⟩ hk => ⟨⟨hk _ _ q1, hk _ _ q2⟩, ⟨a, b, hk _ _ q3⟩, ⟨q4.at fun o e => hk _ o e, q5.at fun o e => hk _ o e⟩, q6.at fun o e => hk _ o e, q7.at fun o e => hk _ o e⟩
  there := fun h ⟨⟨q1, q2⟩, ⟨a, c, q3⟩, ⟨⟨o1, q4, _⟩, ⟨o2, q5, _⟩⟩, ⟨o3, q6, _⟩, ⟨o4, q7, _⟩⟩ b hb => by
    simp only [List.mem_cons, List.not_mem_nil, or_false] at hb
    rcases hb with rfl | rfl | rfl | rfl | rfl | rfl | rfl <;> first | exact ⟨_, q1⟩ | exact ⟨_, q2⟩ | exact ⟨_, q3⟩ | exact ⟨_, q4⟩ | exact ⟨_, q5⟩ | exact ⟨_, q6⟩ | exact ⟨_, q7⟩
  sub := fun b hb => by simp only [List.mem_cons, List.not_mem_nil, or_false] at hb ⊢; rcases hb with rfl | rfl | rfl | rfl <;> simp
  noKeys := fun A s Q E hA ok h => getAttrOr_miss_zip ok.1.1 rfl rfl rfl zip_no_keys (by decide +kernel) hA h
  iter := fun A s d Q E hA ⟨⟨q1, q2⟩, ⟨a, b, q3⟩, ⟨q4, q5⟩, q6, q7⟩ hd hdf h => by
    simp only [List.mem_cons, List.not_mem_nil, or_false, not_or] at hdf
    obtain ⟨dz, dTI, dTO, di1, di2, dl1, dl2⟩ := hdf
    refine wpAny_pyIter_zip q1 (h z [z, TO, i1, i2] (fun i h => IsPair h TI (.ref i1) (.ref i2) ∧ (h.IsTupleIter i1 l1 i ∧ h.IsTupleIter i2 l2 i) ∧ (h.IsTuple l1 xs ∧ h.IsTuple l2 ys) ∧
      ((IsZip h z TI TO .none ∧ ∃ a b, IsPair h TO a b) ∨ ∃ T f oT, IsZipHeld h z TI TO T f ∧ h.get? T = some oT ∧ T ≠ z ∧ T ≠ i1 ∧ T ≠ i2 ∧ T ≠ d)) s.heap s.toks ?_ ⟨q2, ⟨q4, q5⟩, ⟨q6, q7⟩, .inl ⟨q1, a, b, q3⟩⟩ (fun _ _ e => e) fun b hb => .inl hb)
    refine ⟨fun hm => ?_, fun i g g' st hk => ?_, fun i s1 Q1 E1 hi st hds hQ => ?_, fun s1 Q1 E1 st hQ => ?_⟩
    · simp only [List.mem_cons, List.not_mem_nil, or_false] at hm
      exact hm.elim dz fun q => q.elim dTO fun q => q.elim di1 di2
    · obtain ⟨q2, ⟨q4, q5⟩, ⟨q6, q7⟩, hz⟩ := st
      refine ⟨hk _ _ (Ne.symm dTI) q2, ⟨q4.at fun o e => hk _ o (Ne.symm di1) e, q5.at fun o e => hk _ o (Ne.symm di2) e⟩, ⟨q6.at fun o e => hk _ o (Ne.symm dl1) e, q7.at fun o e => hk _ o (Ne.symm dl2) e⟩, ?_⟩
      rcases hz with ⟨q1, a, b, q3⟩ | ⟨T, f, oT, q1, qT, r1, r2, r3, r4⟩
      · exact .inl ⟨hk _ _ (Ne.symm dz) q1, a, b, hk _ _ (Ne.symm dTO) q3⟩
      · exact .inr ⟨T, f, oT, hk _ _ (Ne.symm dz) q1, hk _ _ r4 qT, r1, r2, r3, r4⟩
    · obtain ⟨q2, ⟨q4, q5⟩, ⟨q6, q7⟩, hz⟩ := st
      have ex := Array.getElem?_eq_getElem (Nat.lt_of_lt_of_le hi (Nat.min_le_left ..))
      have ey := Array.getElem?_eq_getElem (Nat.lt_of_lt_of_le hi (Nat.min_le_right ..))
      have lt : ∀ {c o}, s1.heap.get? c = some o → s1.heap.objs.size ≠ c := fun e => Nat.ne_of_gt (Heap.lt_size e)
      have n1 : s1.heap.objs.size ≠ i1 := let ⟨_, e, _⟩ := q4; lt e
      have n2 : s1.heap.objs.size ≠ i2 := let ⟨_, e, _⟩ := q5; lt e
      rcases hz with ⟨q1, a, b, q3⟩ | ⟨T, f, oT, q1, qT, r1, r2, r3, r4⟩
      · refine RZ.pyNext_zipT_item D q1 q2 q3 q4 q5 q6 q7 ex ey fun g c1 c2 c3 c4 c5 c6 hk => ?_
        exact hQ s1.heap.objs.size _ _ g s1.toks ⟨ex, ey⟩ (.inl ⟨_, c5, rfl, _, rfl⟩) ⟨hk _ _ D.TIz D.TITO D.TIi1 D.TIi2 q2, ⟨c3, c4⟩, ⟨q6.at fun o e => hk _ o D.l1z D.l1TO D.l1i1 D.l1i2 e, q7.at fun o e => hk _ o D.l2z D.l2TO D.l2i1 D.l2i2 e⟩, .inr ⟨s1.heap.objs.size, false, _, c1, c5, lt q1, n1, n2, Nat.ne_of_gt hds⟩⟩
          fun c o hc e => hk c o (fun q => hc (by simp [q])) (fun q => hc (by simp [q])) (fun q => hc (by simp [q])) (fun q => hc (by simp [q])) e
      · refine next_h D q1 qT q2 q4 q5 q6 q7 ex ey fun g c1 c3 c4 c5 hk => ?_
        exact hQ s1.heap.objs.size _ _ g s1.toks ⟨ex, ey⟩ (.inl ⟨_, c5, rfl, _, rfl⟩) ⟨hk _ _ D.TIz D.TIi1 D.TIi2 q2, ⟨c3, c4⟩, ⟨q6.at fun o e => hk _ o D.l1z D.l1i1 D.l1i2 e, q7.at fun o e => hk _ o D.l2z D.l2i1 D.l2i2 e⟩, .inr ⟨T, true, oT, c1, hk _ _ r1 r2 r3 qT, r1, r2, r3, r4⟩⟩
          fun c o hc e => hk c o (fun q => hc (by simp [q])) (fun q => hc (by simp [q])) (fun q => hc (by simp [q])) e
    · obtain ⟨q2, ⟨q4, q5⟩, ⟨q6, q7⟩, hz⟩ := st
      have he : xs[min xs.size ys.size]? = none ∨ ys[min xs.size ys.size]? = none := by
        rcases Nat.le_total xs.size ys.size with h | h
        · exact .inl (Array.getElem?_eq_none (by rw [Nat.min_eq_left h]; exact Nat.le_refl _))
        · exact .inr (Array.getElem?_eq_none (by rw [Nat.min_eq_right h]; exact Nat.le_refl _))
      rcases hz with ⟨q1, a, b, q3⟩ | ⟨T, f, oT, q1, qT, r1, r2, r3, r4⟩
      · exact RZ.pyNext_zipT_end hA D q1 q2 q3 q4 q5 q6 q7 he fun g hk => hQ g s1.toks fun c o hc e => hk c o (fun q => hc (by simp [q])) (fun q => hc (by simp [q])) (fun q => hc (by simp [q])) (fun q => hc (by simp [q])) e
      · exact last_h hA D q1 qT q2 q4 q5 q6 q7 he fun g hk => hQ g s1.toks fun c o hc e => hk c o (fun q => hc (by simp [q])) (fun q => hc (by simp [q])) (fun q => hc (by simp [q])) e
end
end ZT
namespace DL
open PySem PySem.Spec PyProof.Rows L2
theorem kv_zip : ∀ {ks : List Str} {vs : List V} {us : List Value}, Vals vs us → KV ((ks.map Sum.inr : List Key).zip vs) ((ks.map Sum.inr : List Key).zip us)
  | [], _, _, _ => .nil
  | _ :: _, _, _, .nil => .nil
  | k :: ks, _, _, .cons h t => .cons ⟨rfl, h⟩ (kv_zip t)
theorem strs_at : ∀ {ks : List Str} {us : List Value} {i : Nat} {u : Value}, Vals (ks.map V.str) us → us[i]? = some u → ∃ k t, ks[i]? = some k ∧ u = .str k t
  | [], _, i, u, .nil, e => by simp at e
  | k :: ks, _, 0, u, .cons h t, e => by
    obtain ⟨tk, rfl⟩ := (show ∃ t, _ = Value.str k t from h)
    simp at e
    exact ⟨k, tk, rfl, e.symm⟩
  | k :: ks, _, i + 1, u, .cons h t, e => strs_at (ks := ks) (i := i) t e
/-- dict(zip(a, b)) -/
def tDZip (K : PySem.W.Frag) (ta : TA) : TE := fun σ H Q => ta σ H fun vs H1 => ∃ (a b : Addr) (ns : List Str) (xs : List V), vs = [.ref a, .ref b] ∧ SqT K H1 a (ns.map .str) ∧ SqT K H1 b xs ∧ xs.length = ns.length ∧ ns.length ≤ 1000 ∧
  ∀ p, H1 p = none → Q (.ref p) (upd H1 p (.dK (mergeK [] ((ns.map Sum.inr : List Key).zip xs))))
theorem pe_dzip {X : Cx} {e e2 : Expr} {ta : TA} {p q pos pos2 : Pos} (hcalm : X.calm = true) (hgD : Gl X "dict") (hmD : X.mg "dict" = none) (hgZ : Gl X "zip") (hmZ : X.mg "zip" = none) (ha : PA X [e, e2] ta)
    (hs : starEach [e, e2] X.env = (false, eval e X.env) :: starEach [e2] X.env := by rfl) (hpl : (backTo pos2 (starEach [e2] X.env)).any (·.1) = false := by rfl)
    (hs0 : starEach [Expr.Call (.Name "zip" q) [e, e2] [] pos2] X.env = (false, eval (.Call (.Name "zip" q) [e, e2] [] pos2) X.env) :: starEach [] X.env := by rfl) (hp0 : (backTo pos (starEach [] X.env)).any (·.1) = false := by rfl) :
    PE X (.Call (.Name "dict" p) [.Call (.Name "zip" q) [e, e2] [] pos2] [] pos) (tDZip X.K ta) := by
  refine ⟨fun pins s σ H Q I h => ?_⟩
  refine Call_ (ld_blt I hgD hmD PyProof.Rows.boot_dict (PyProof.Rows.callWith_type1 ?_ hs0 hp0))
  rw [hs0]
  show wpAny _ _ (spliced ((false, eval (.Call (.Name "zip" q) [e, e2] [] pos2) X.env) :: backTo pos (starEach [] X.env))) _ _ s
  refine Calls.spliced_cons ?_
  refine Call_ (ld_blt I hgZ hmZ PyProof.Rows.boot_zip (PyProof.Rows.callWith_type1 (thn (ha.run pos2 pins s σ H _ I h) fun us s1 ⟨vs, H1, I1, r1, q1⟩ => ?_) hs hpl))
  obtain ⟨a, b, ns, xs, ex, sa, sb, hl, hz, q1⟩ := q1
  subst ex
  cases r1 with
  | cons r rr =>
    cases rr with
    | cons r' rr =>
      cases rr
      cases r
      cases r'
      obtain ⟨its, rv, p1, _⟩ := I1.tuple sa
      obtain ⟨its2, rv2, p2, _⟩ := I1.tuple sb
      obtain ⟨o1, ho1, _⟩ := id p1
      obtain ⟨o2, ho2, _⟩ := id p2
      have D := PySem.W.ktu_apart s1.heap.objs.size a b (Heap.lt_size ho1) (Heap.lt_size ho2)
      have l1 : its.length = ns.length := by rw [← rv.length, List.length_map]
      have l2 : its2.length = ns.length := by rw [← rv2.length, hl]
      refine RZ.call_zipT (show s1.heap.IsTuple a its.toArray from p1) (show s1.heap.IsTuple b its2.toArray from p2) fun h' hz0 hTI hTO h1 h2 hsz hk => ?_
      refine Calls.spliced_nil ?_
      have hn : min its.toArray.size its2.toArray.size = ns.length := by simp [l1, l2]
      refine call_dict_pairs (knd := mixKind X.prog X.w) (kvs := (ns.map Sum.inr : List Key).zip its2) (ZT.arg _ _ _ _ _ _ _ D its.toArray its2.toArray) (I.ok.hd hcalm)
        ⟨⟨hz0, hTI⟩, ⟨_, _, hTO⟩, ⟨h1, h2⟩, (show s1.heap.IsTuple a its.toArray from p1).at fun o e => hk _ o e, (show s1.heap.IsTuple b its2.toArray from p2).at fun o e => hk _ o e⟩
        ⟨by rw [hn, List.length_zip, List.length_map, l2]; simp, fun i key v ⟨e1, e2⟩ => ?_⟩ (by rw [hn]; exact Nat.le_trans hz (by decide)) fun h'' tk hd' hk' => ?_
      · obtain ⟨k, t, ek, rfl⟩ := strs_at rv (show its[i]? = some key by simpa using e1)
        refine ⟨.inr k, ?_, ?_⟩
        · rw [List.getElem?_zip_eq_some, List.getElem?_map, ek]
          exact ⟨rfl, by simpa using e2⟩
        · show Value.isStrOf k (.str k t) = true
          simp [Value.isStrOf]
      · have kp : ∀ b o, s1.heap.get? b = some o → h''.get? b = some o := fun b o eb => hk' b o (fun hb => by
          have hlt := Heap.lt_size eb
          simp only [List.mem_cons, List.not_mem_nil, or_false] at hb
          rcases hb with rfl | rfl | rfl | rfl
          · exact absurd hlt (Nat.not_lt.mpr (Nat.le_add_right _ _))
          · exact absurd hlt (Nat.not_lt.mpr (Nat.le_add_right _ _))
          · exact absurd hlt (Nat.lt_irrefl _)
          · exact absurd hlt (Nat.not_lt.mpr (Nat.le_add_right _ _))) (hk b o eb)
        have hge : s1.heap.objs.size ≤ h'.objs.size := by rw [hsz]; exact Nat.le_add_right _ _
        have kv := kv_zip (ks := ns) rv2
        have hlen : (mergeK [] ((ns.map Sum.inr : List Key).zip xs)).length ≤ sizeLine := by
          refine Nat.le_trans (length_mergeK _ []) ?_
          rw [List.length_nil, Nat.zero_add, List.length_zip, List.length_map]
          exact Nat.le_trans (Nat.min_le_left _ _) (Nat.le_trans hz (by decide))
        have hm : (h'.objs.size == sysModules) = false := beq_eq_false_iff_ne.mpr (Nat.ne_of_gt (Nat.lt_of_lt_of_le I1.big hge))
        exact ⟨.ref h'.objs.size, upd H1 h'.objs.size (.dK (mergeK [] ((ns.map Sum.inr : List Key).zip xs))), I1.laid (t' := tk) kp hge (show ObjOk X.prog X.w _ _ _ (.dK (mergeK [] ((ns.map Sum.inr : List Key).zip xs))) from ⟨hlen, hm, merged [] ((ns.map Sum.inr : List Key).zip its2), KV.merge kv .nil, hd'⟩), rfl, q1 _ (I1.hok.fresh hge)⟩
end DL

set_option Elab.async false
set_option linter.all false
set_option maxRecDepth 100000
set_option maxHeartbeats 2000000
/-! DL40: dicts by plain keys in data; tuple * int; index of a text; isinstance of what was caught, of a built-in class -/
namespace DL
open PySem PySem.Spec PyProof.Rows L2
/-! ### dict(zip(a, b)) -/
theorem merge_nd : ∀ {kvs acc : List (Key × V)}, ((acc ++ kvs).map (·.1)).Nodup → mergeK acc kvs = acc ++ kvs
  | [], acc, _ => by rw [List.append_nil]; rfl
  | (k, v) :: kvs, acc, h => by
    have e : putK acc k v = acc ++ [(k, v)] := by
      unfold putK
      rw [if_neg]
      intro q
      obtain ⟨p, hp, e⟩ := List.any_eq_true.mp q
      rw [List.map_append, List.map_cons] at h
      exact (List.nodup_append.mp h).2.2 p.1 (List.mem_map_of_mem hp) k List.mem_cons_self (of_decide_eq_true e)
    show mergeK (putK acc k v) kvs = _
    rw [e, merge_nd (acc := acc ++ [(k, v)]) (by rw [List.append_assoc]; exact h), List.append_assoc]
    rfl
theorem keys_nd {ns : List Str} {α : Type} : ∀ {xs : List α}, ns.Nodup → (((ns.map Sum.inr : List Key).zip xs).map (·.1)).Nodup := fun {xs} h => by
  have h2 : (ns.map Sum.inr : List Key).Nodup := List.Pairwise.map _ (fun a b q e => q (Sum.inr.inj e)) h
  have sub : (((ns.map Sum.inr : List Key).zip xs).map (·.1)).Sublist (ns.map Sum.inr : List Key) := by
    generalize (ns.map Sum.inr : List Key) = l
    induction l generalizing xs with
    | nil => exact List.Sublist.refl _
    | cons a l ih =>
      cases xs with
      | nil => exact List.nil_sublist _
      | cons x xs => exact (ih (xs := xs)).cons_cons _
  exact h2.sublist sub
theorem repK_zip {K : PySem.W.Frag} {F : Hp} : ∀ {ks : List Key} {vs : List V} {ds : List D}, RepL K F vs ds → RepK K F (ks.zip vs) (ks.zip ds)
  | [], _, _, _ => .nil
  | _ :: _, _, _, .nil => .nil
  | _ :: _, _, _, .cons h t => .cons h (repK_zip t)
section
variable {X : Cx} {c : Fc} {W : WX}
def dzipD (ta : TDA) : TD := fun δ Q E => ta δ (fun as δ1 => ∃ (ns : List Str) (ds : List D), as = [.d (.tup (ns.map .str)), .d (.tup ds)] ∧ ds.length = ns.length ∧ ns.length ≤ 1000 ∧ ns.Nodup ∧ Q (.own (.dK ((ns.map Sum.inr : List Key).zip ds))) δ1) E
theorem pd_dzip {e e2 : Expr} {ta : TDA} {p q pos pos2 : Pos} (hcalm : X.calm = true) (hgD : Gl X "dict") (hmD : X.mg "dict" = none) (hgZ : Gl X "zip") (hmZ : X.mg "zip" = none) (ha : PA X [e, e2] (LA X.K c W ta))
    (hs : starEach [e, e2] X.env = (false, eval e X.env) :: starEach [e2] X.env := by rfl) (hpl : (backTo pos2 (starEach [e2] X.env)).any (·.1) = false := by rfl)
    (hs0 : starEach [Expr.Call (.Name "zip" q) [e, e2] [] pos2] X.env = (false, eval (.Call (.Name "zip" q) [e, e2] [] pos2) X.env) :: starEach [] X.env := by rfl) (hp0 : (backTo pos (starEach [] X.env)).any (·.1) = false := by rfl) :
    PE X (.Call (.Name "dict" p) [.Call (.Name "zip" q) [e, e2] [] pos2] [] pos) (LE X.K c W (dzipD ta)) :=
  PE_imp (pe_dzip hcalm hgD hmD hgZ hmZ ha hs hpl hs0 hp0) fun σ H Q ⟨δ, tmp, Qd, Ed, S, t, k, w⟩ => ⟨δ, tmp, _, Ed, S, t, fun vs as δ1 F ow H1 ⟨ns, ds, ea, hl, hz, nd, q⟩ S1 ra => by
    subst ea
    cases ra with
    | d r1 ra =>
      cases ra with
      | d r2 ra =>
        cases ra
        cases r1 with
        | tup s1 q1 =>
          cases r2 with
          | tup s2 q2 =>
            obtain ⟨rfl, _⟩ := reps_strs q1
            refine ⟨_, _, ns, _, rfl, SqT.of (S1.fh _ _ s1), SqT.of (S1.fh _ _ s2), q2.len.trans hl, hz, fun p np => k _ _ _ _ q ⟨F, _, S1.pushNew (o := .dK _) np ⟨_, upd_same, ?_⟩⟩⟩
            rw [merge_nd (by rw [List.nil_append]; exact keys_nd nd), List.nil_append]
            exact repK_zip q2, w⟩
/-! ### d[k] -/
def valK (kvs : List (Key × D)) (k : Key) : Option D := (kvs.find? fun p => decide (p.1 = k)).map (·.2)
theorem repK_get {K : PySem.W.Frag} {F : Hp} {k : Key} : ∀ {vs : List (Key × V)} {ds : List (Key × D)}, RepK K F vs ds → ∀ d, valK ds k = some d → ∃ v, valV vs k = some v ∧ Rep K F v d
  | _, _, .nil => fun d h => nomatch h
  | _, _, .cons (n := n) (v := v) (d := d) (vs := vs) (ds := ds) h t => by
    by_cases e : n = k
    · have e1 : valK ((n, d) :: ds) k = some d := by simp [valK, List.find?_cons, e]
      rw [e1, valV_pos (p := (n, v)) e]
      exact fun d z => by cases z; exact ⟨v, rfl, h⟩
    · have e1 : valK ((n, d) :: ds) k = valK ds k := by simp [valK, List.find?_cons, e]
      rw [e1, valV_neg (p := (n, v)) e]
      exact repK_get t
def keyOne : Key → D
  | .inl i => .int i
  | .inr x => .str x
theorem key_one {K : PySem.W.Frag} {F : Hp} {v : V} : ∀ {k : Key}, Rep K F v (keyOne k) → v = kV k
  | .inl i, r => by cases r; rfl
  | .inr x, r => by cases r; rfl
def getK (to ti : TD) : TD := fun δ Q E => to δ (fun o δ1 => ti δ1 (fun k δ2 => ∃ kvs key d, o.toD = .dK kvs ∧ k.toD = keyOne key ∧ valK kvs key = some d ∧ Q (.d d) δ2) E) E
theorem pd_getK {o i : Expr} {to ti : TD} {pos : Pos} (h : ∀ {to ti : TE}, PE X o to → PE X i ti → PE X (.Subscript o i pos) (tDGet to ti)) (ho : PE X o (LE X.K c W to)) (hi : PE X i (LE X.K c W ti)) : PE X (.Subscript o i pos) (LE X.K c W (getK to ti)) :=
  PE_imp (h ho hi) fun σ H Q ⟨δ, tmp, Qd, Ed, S, q, k, w⟩ => ⟨δ, tmp, _, Ed, S, q, fun u x δ1 H1 q1 S1 => ⟨δ1, _, _, Ed, S1, q1, fun t y δ2 H2 ⟨kvs, key, d, eo, ek, ed, q2⟩ ⟨F, ow, S2⟩ => by
    obtain ⟨F3, S3, _⟩ := S2.top_frz2
    rw [eo, ek] at S3
    obtain rfl := key_one S3.top
    have r0 := S3.pop.top
    cases r0 with
    | dK s r =>
      obtain ⟨z, ez, rz⟩ := repK_get r d ed
      exact ⟨_, z, rfl, .inl ⟨_, key, rd_mono S3.fh s, rfl, ez.symm⟩, k _ _ _ _ q2 ⟨F3, ow, S3.pop.pop.push rz⟩⟩, w.push⟩, w⟩
/-! ### xs.index(x), texts -/
def indexD (to : TD) (ta : TDA) : TD := fun δ Q E => to δ (fun x δ1 => ∃ ns : List Str, x.toD = .lst (ns.map .str) ∧ ta δ1 (fun as δ2 => ∃ (z : Str) (j : Nat), as = [.d (.str z)] ∧ ns[j]? = some z ∧ (∀ m, m < j → ns[m]? ≠ some z) ∧ Q (.d (.int j)) δ2) E) E
theorem pd_index {o e : Expr} {to : TD} {ta : TDA} {apos cpos : Pos} (ho : PE X o (LE X.K c W to)) (ha : PA X [e] (LA X.K c W ta)) (hbase : attributeBase o "index" X.env (eval o X.env) = eval o X.env := by rfl)
    (hfew : ((backTo cpos (starEach [e] X.env)).all (fun x => !x.1) && (backToKw cpos (keywordEach [] X.env)).all (fun x => x.1.isSome) && decide ([e].length + ([] : List Keyword).length + (if ([] : List Keyword).isEmpty then 0 else 1) < 30)) = true := by rfl)
    (hline : (apos.endLine == cpos.line) = true := by rfl) (hs : starEach [e] X.env = (false, eval e X.env) :: starEach [] X.env := by rfl) (hplain : (backTo cpos (starEach [] X.env)).any (·.1) = false := by rfl) :
    PE X (.Call (.Attribute o "index" apos) [e] [] cpos) (LE X.K c W (indexD to ta)) :=
  PE_imp (pe_bm PySem.F.plainAttrs_list PySem.F.slot_list_index PySem.F.type_list_index mt_index ho ha hbase hfew hline hs hplain) fun σ H Q ⟨δ, tmp, Qd, Ed, S, t, k, w⟩ => ⟨δ, tmp, _, Ed, S, t, fun v x δ1 H1 ⟨ns, ex, t1⟩ ⟨F, ow, S1⟩ => by
    obtain ⟨F', S2, _⟩ := S1.top_frz
    rw [ex] at S2
    have r := S2.top
    cases r with
    | lst s1 r1 =>
      obtain ⟨rfl, _⟩ := reps_strs r1
      refine ⟨.inl ⟨rfl, _, SqL.of (S2.fh _ _ s1)⟩, δ1, _, _, Ed, ⟨F', ow, S2⟩, t1, fun vs as δ2 F2 ow2 H2 ⟨z, j, ea, ej, hno, q⟩ S3 ra => ?_, w.push⟩
      subst ea
      cases ra with
      | d rz ra =>
        cases ra
        cases rz
        have r3 := S3.top
        cases r3 with
        | lst s3 r3 =>
          obtain ⟨rfl, _⟩ := reps_strs r3
          refine ⟨_, ns.map V.str, .str z, j, .str z, rfl, rfl, SqL.of (S3.fh _ _ s3), rfl, ?_, by rw [List.getElem?_map, ej]; rfl, ?_, fun m z' hm hz' => ?_, k _ _ _ _ q ⟨F2, ow2, S3.pop.push (.int _)⟩⟩
          · exact List.all_eq_true.mpr fun v hv => by obtain ⟨_, _, rfl⟩ := List.mem_map.mp hv; rfl
          · simp [eqV]
          · rw [List.getElem?_map] at hz'
            obtain ⟨y, hy, rfl⟩ := Option.map_eq_some_iff.mp hz'
            have : y ≠ z := fun e => hno m hm (by rw [hy, e])
            simp [eqV, this], w⟩
/-! ### isinstance(e, X), X a built-in class -/
abbrev isXcT (K : PySem.W.Frag) (a : Addr) (cls : Value) (d : Option Addr) : RDNs := fun ds Q => ∃ (C : Addr) (n : String) (fs : Option (List (Str × D))) (b : Bool), ds = [.exc a (.ref C) d C fs, .ty n] ∧ cls = .ref C ∧ ExcC K C ∧ PySem.W.kitOne K (.ref C) (.type n) = some b ∧ Q (.bl b)
theorem rel_ty {K : PySem.W.Frag} {F : Hp} {v : V} {n : String} (r : Rep K F v (.ty n)) : ∀ u, RelV v u → u = .type n := by
  cases r
  intro u h
  exact h
theorem cn_isXcT {K : PySem.W.Frag} {a : Addr} {cls : Value} {d : Option Addr} : CallNs K (rIsXc K a cls d) (isXcT K a cls d) := fun xs ds F H Q Qd s r ⟨C, n, fs, b, e, hc, T, hk, q⟩ k => by
  subst e
  cases r with
  | cons r t =>
    cases t with
    | cons r2 t =>
      cases t
      cases r with
      | exc0 => exact ⟨C, _, _, b, rfl, hc, .inl rfl, T, rel_ty r2, hk, k _ _ q rfl⟩
      | exc s1 h => exact ⟨C, _, _, b, rfl, hc, .inr ⟨_, _, rfl, s _ _ s1⟩, T, rel_ty r2, hk, k _ _ q rfl⟩
/-! ### (x, ..) * n -/
theorem mul_one (l : Addr) (items : Array Value) (n : Nat) (dd : Option Addr) (sl : Array (Option Value)) (u : Tok) : Meets (Builtin.«tuple.__mul__» ⟨[.ref l, .int 1 u], []⟩) (fun _ R s => s.heap.get? l = some { cls := .type "tuple", dict := dd, data := .seq items n, slots := sl } ∧ R (.ok (.ret (.ref l))) s) :=
  .of_wp fun prog w A R s h => by
    obtain ⟨hp, g, d, tk, os⟩ := s
    obtain ⟨hl, h⟩ := h
    have f1 := AutoSeq1.idx_int
    wp_walk using wpAny_loadPart' hl
    exact ⟨_, rfl, h⟩
def rRepA (K : PySem.W.Frag) : R2 := fun x y H Q => (∃ l xs, x = .ref l ∧ y = .int 1 ∧ SqT K H l xs ∧ Q (.ref l) H) ∨ rRepT K x y H Q
theorem op_repA {X : Cx} : OpR X (binaryOp .Mult) (rRepA X.K) := by
  intro pins s σ H x y v u Q I rx ry h
  rcases h with ⟨l, xs, rfl, rfl, hT, q⟩ | h
  · cases rx
    obtain ⟨t, rfl⟩ := ry
    obtain ⟨its, r, ⟨⟨cls, dd, data, sl⟩, ho, hc, n, hd⟩, hs⟩ := I.tuple hT
    simp only at hc hd
    subst hc hd
    exact wpAny_binaryOp_repeat_ref (T := "tuple") (U := "int") (by decide) ⟨_, ho, rfl⟩ (fun s' => typeIs_int s' 1 t) noFill_tuple_mul F.fills_int_mul F.slot_int_rmul repeat_tuple F.slot_int_index.lookup (call_meets F.slot_int_rmul (typeIs_int s 1 t) F.entry_int_rmul (F.args_int_rmul_2 _ _)
      (int_rmul_tuple 1 t l its.toArray n dd sl) ⟨ho, rfl, ⟨_, ho, rfl⟩, call_meets F.slot_tuple_mul ⟨_, ho, rfl⟩ F.entry_tuple_mul (F.args_tuple_mul_2 _ _) (mul_one l its.toArray n dd sl t) ⟨ho, ⟨.ref l, H, I, rfl, q⟩⟩⟩)
  · exact op_repT pins s σ H x y v u Q I rx ry h
theorem op2_repA {K : PySem.W.Frag} : Op2 K (rRepA K) (fun a b Q => ∃ xs n, a = .tup xs ∧ b = .int n ∧ xs ≠ [] ∧ 1 ≤ n ∧ n ≤ 1000 ∧ xs.length ≤ 1000 ∧ Q (.d (.tup (List.replicate n.toNat xs).flatten))) := fun x y a b F H Q Qd s rx ry ⟨xs, n, e1, e2, ne, h1, h2, h3, q⟩ k => by
  subst e1 e2
  cases ry
  cases rx with
  | tup s1 r1 =>
    by_cases c : n = 1
    · subst c
      have e : (List.replicate (1 : Int).toNat xs).flatten = xs := by simp
      rw [e] at q
      exact .inl ⟨_, _, rfl, rfl, SqT.of (s _ _ s1), k _ _ _ _ q (made_d s (.tup s1 r1))⟩
    · exact .inr ⟨_, _, _, rfl, rfl, SqT.of (s _ _ s1), fun e => ne ((RepL.nil_iff r1).mp e), by omega, h2, by rw [r1.len]; exact h3, fun p np => by have z := made_tup np s (r1.rep n.toNat); exact k _ _ _ _ q z⟩
end
end DL
namespace DR
open PySem PySem.Spec PyProof.Rows L2 DL
section
variable {δ : DSt} {Q : DK} {E : XD}
theorem dzip {ta : TDA} (h : ta δ (fun as δ1 => ∃ (ns : List Str) (ds : List DL.D), as = [.d (.tup (ns.map .str)), .d (.tup ds)] ∧ ds.length = ns.length ∧ ns.length ≤ 1000 ∧ ns.Nodup ∧ Q (.own (.dK ((ns.map Sum.inr : List Key).zip ds))) δ1) E) : dzipD ta δ Q E := h
theorem getK {to ti : TD} (h : to δ (fun o δ1 => ti δ1 (fun k δ2 => ∃ kvs key d, o.toD = .dK kvs ∧ k.toD = keyOne key ∧ valK kvs key = some d ∧ Q (.d d) δ2) E) E) : DL.getK to ti δ Q E := h
theorem index {to : TD} {ta : TDA} (h : to δ (fun x δ1 => ∃ ns : List Str, x.toD = .lst (ns.map .str) ∧ ta δ1 (fun as δ2 => ∃ (z : Str) (j : Nat), as = [.d (.str z)] ∧ ns[j]? = some z ∧ (∀ m, m < j → ns[m]? ≠ some z) ∧ Q (.d (.int j)) δ2) E) E) : indexD to ta δ Q E := h
end
end DR

set_option Elab.async false
set_option linter.all false
set_option maxRecDepth 100000
set_option maxHeartbeats 2000000
/-! DL41: f(a, *xs) of a def with a star; sum of a list of numbers -/
namespace DL
open PySem PySem.Spec PyProof.Rows L2
theorem args_app {K : PySem.W.Frag} {F : Hp} {σ : L2.St} {ws : List V} {as : List AV} (h : RepArgs K F σ ws as) : ∀ {vs : List V} {ds : List D}, RepL K F vs ds → RepArgs K F σ (vs ++ ws) (ds.map .d ++ as)
  | _, _, .nil => h
  | _, _, .cons r t => .d r (args_app h t)
/-- *e in an argument list -/
def starA (t : TD) (r : TDA) : TDA := fun δ Q E => t δ (fun x δ1 => ∃ xs, (x.toD = .tup xs ∨ x.toD = .lst xs) ∧ r δ1 (fun as δ2 => Q (xs.map .d ++ as) δ2) E) E
section
variable {X : Cx} {c : Fc} {W : WX}
theorem pda_star {e : Expr} {es : List Expr} {p : Pos} {t : TD} {r : TDA} (he : PE X e (LE X.K c W t)) (hr : PA X es (LA X.K c W r)) (hs : starEach (.Starred e p :: es) X.env = (true, eval e X.env) :: starEach es X.env := by rfl) : PA X (.Starred e p :: es) (LA X.K c W (starA t r)) :=
  PA_imp (StX.pa_star he hr hs) fun σ H Q ⟨δ, tmp, Qd, Ed, S, t, k, w⟩ => ⟨δ, tmp, _, Ed, S, t, fun v x δ1 H1 ⟨xs, ex, q1⟩ ⟨F, ow, S1⟩ => by
    obtain ⟨F', S2, _⟩ := S1.top_frz
    obtain ⟨q, vs, rfl, hq, hv⟩ : ∃ q vs, v = .ref q ∧ (SqT X.K H1 q vs ∨ SqL X.K H1 q vs) ∧ RepL X.K F' vs xs := by
      rcases ex with e | e <;> rw [e] at S2 <;> have r := S2.top
      · cases r with | tup s1 r1 => exact ⟨_, _, rfl, .inl (SqT.of (S2.fh _ _ s1)), r1⟩
      · cases r with | lst s1 r1 => exact ⟨_, _, rfl, .inr (SqL.of (S2.fh _ _ s1)), r1⟩
    refine ⟨q, vs, rfl, hq, δ1, _, _, Ed, ⟨F', ow, S2.pop.pushL hv⟩, q1, fun ws as δ2 F2 ow2 H2 q2 S3 ra => ?_, w.pushL⟩
    obtain ⟨h1, h2⟩ := SttF.popL hv.len S3
    exact k _ _ _ _ _ _ q2 h2 (args_app ra h1), w⟩
end
section
variable {X : Cx} {c : Fc} {W : WX}
variable {k : Nat} {f C : Addr} {sd : SpD} {x m : Str} {p pos apos : Pos} {e o : Expr} {es : List Expr} {ta : TDA}
theorem pd_callRS (G : FnR X.prog X.w X.K X.mg X.base (L2.CX X.prog X.w) k f (spOf X.K sd)) (hr : Room k X.A) (hg : Gl X x) (hm : X.mg x = some (.ref f)) (kp : PySem.W.keepIn X.K (.ref f) = true) (tk0 : Takes X W) (ha : PA X (e :: es) (LA X.K c W ta))
    (hdb : (x == ("__debug__" : Str)) = false := by decide) (he : starEach (e :: es) X.env = (false, eval e X.env) :: starEach es X.env := by rfl) (hst : (backTo pos (starEach es X.env)).any (·.1) = true := by rfl) :
    PE X (.Call (.Name x p) (e :: es) [] pos) (LE X.K c W (callRD sd ta)) :=
  PE_imp (pe_callRS (E := WE W) G hr hg hm kp (fun τ => passAt tk0 τ) ha hdb he hst) lift_R
end
/-! ### if xs: a tuple or a list -/
def tseqD (t : TD) : TDT := fun δ Q E => t δ (fun x δ1 => ∃ xs, (x.toD = .tup xs ∨ x.toD = .lst xs) ∧ Q (!xs.isEmpty) δ1) E
section
variable {X : Cx} {c : Fc} {W : WX}
theorem repL_nil {K : PySem.W.Frag} {F : Hp} : ∀ {vs : List V} {xs : List D}, RepL K F vs xs → vs.isEmpty = xs.isEmpty
  | _, _, .nil => rfl
  | _, _, .cons _ _ => rfl
theorem ptd_seq {e : Expr} {t : TD} (he : PE X e (LE X.K c W t)) (h : ∀ whole, isTrue e X.env whole = (do let v ← whole; standAt e.pos; holding [v] (truthy v)) := by intro _; rfl) : PT X e (LT X.K c W (tseqD t)) :=
  PT_imp (pt_truth he h) fun σ H Q ⟨δ, tmp, Qd, Ed, S, q, k, w⟩ => ⟨δ, tmp, _, Ed, S, q, fun v x δ1 H1 ⟨xs, ex, q1⟩ ⟨F, ow, S1⟩ => by
    obtain ⟨F', S2, _⟩ := S1.top_frz
    rcases ex with e | e <;> rw [e] at S2 <;> have r := S2.top
    · cases r with | tup s1 r1 => exact ⟨!xs.isEmpty, .inr (.inl ⟨_, SqT.of (S2.fh _ _ s1), by rw [repL_nil r1]⟩), k _ _ _ q1 ⟨F', ow, S2.pop⟩⟩
    · cases r with | lst s1 r1 => exact ⟨!xs.isEmpty, .inl ⟨_, SqL.of (S2.fh _ _ s1), by rw [repL_nil r1]⟩, k _ _ _ q1 ⟨F', ow, S2.pop⟩⟩, w⟩
end
end DL
namespace DR
open PySem PySem.Spec PyProof.Rows L2 DL
variable {δ : DSt} {E : XD}
theorem tseq {t : TD} {Q : Bool → DSt → Prop} (h : t δ (fun x δ1 => ∃ xs, (x.toD = .tup xs ∨ x.toD = .lst xs) ∧ Q (!xs.isEmpty) δ1) E) : DL.tseqD t δ Q E := h
theorem starA {t : TD} {r : TDA} {Q : List AV → DSt → Prop} (h : t δ (fun x δ1 => ∃ xs, (x.toD = .tup xs ∨ x.toD = .lst xs) ∧ r δ1 (fun as δ2 => Q (xs.map .d ++ as) δ2) E) E) : DL.starA t r δ Q E := h
end DR

set_option Elab.async false
set_option linter.all false
set_option maxRecDepth 100000
/-! comprehensions whose body may raise: the exception leaves the block, and then the def or a try of it -/
namespace L2
open PySem PySem.Spec PyProof.Rows
section
variable {M : Model} {A : Around} {E : Value → Shared → Prop} {s : Shared} {env : Env}
/-- what is wished behind the block, its environment known -/
def postX (M : Model) (A : Around) (E : Value → Shared → Prop) (use : Option (Value → Sem Unit)) (Q : Value → Shared → Prop) (acc : Value) (ce : Env) (r : Result) (s' : Shared) : Prop :=
  match r with
  | .ok f => compPost M A E use Q acc ce.locals (.ok f) s'
  | .error x => ∃ m, s'.heap.Ns ce.locals m ∧
      ∀ h', Heap.SameBut ce.locals s'.heap h' →
        wpAny M A (passOn "comprehension.variables-let-go" x ce : Sem Value) (fun _ _ => False) E { s' with heap := h' }
theorem comp_postX {e : Expr} {scope : Scope} {pos : Pos} {newAcc first : Sem Value} {g : Comprehension} {gs : List Comprehension} {cl : List (Str × Addr)}
    {use : Option (Value → Sem Unit)} {Q : Value → Shared → Prop} (hcl : clausesOf e = g :: gs) (hs : ∀ x, foldedSetIterable g.iter env x = pure x)
    (hclos : closureFor scope env = pure cl) (hkind : scope.kind = .function)
    (hnames : ∀ x ∈ scope.names, x.2 = .local → scope.names.lookup x.1 = some .local)
    (h : wpAny M A first (fun x s₁ => wpAny M A (pyIter x) (fun it s₂ =>
      wpAny M A newAcc (fun acc s₃ =>
        wpAny M A (newFunctionEnv scope env.globals cl [] env.qual none .none (some env)) (fun ce s₄ =>
          codeAny M A (.compStart e 0 it acc { ce with scope := relabel scope env })
            (postX M A E use Q acc { ce with scope := relabel scope env }) s₄) E s₃) E s₂) E s₁) E s) :
    wpAny M A (comprehension e scope env pos newAcc false first use) Q E s := by
  have on : ∀ {α : Type} {t : Sem α} {P : α → Shared → Prop} {s : Shared}, wpAny M A t P E s → wpAny M A t P E s := fun h => h
  unfold comprehension
  rw [hclos, hcl]
  refine wpAny_bind (wpAny_mono h (fun x s₁ h₁ => ?_) fun _ _ z => z)
  refine wpAny_bind (wpAny_standAt (wpAny_bind (wpAny_of_eq (hs x) (wpAny_bind (wpAny_holding ?_)))))
  refine wpAny_mono h₁ (fun it s₂ h₂ => ?_) fun _ _ z => z
  refine wpAny_standIf (wpAny_bind (wpAny_mono h₂ (fun acc s₃ h₃ => ?_) fun _ _ z => z))
  refine wpAny_bind (wpAny_pure (wpAny_bind (wpAny_mono h₃ (fun ce s₄ h₄ => ?_) fun _ _ z => z)))
  dsimp only
  have ofL : ∀ x ∈ scope.names, x.2 = .local → Env.kindOf { ce with scope := relabel scope env } x.1 = some .local :=
    fun x hx hl => lookup_relabel_local (hnames x hx hl)
  have inL : ∀ {x}, x ∈ (scope.names.filter fun x => (x.2 == .local || x.2 == .cell) && x.1 != (".0" : Str)).reverse → x ∈ scope.names :=
    fun hx => (List.mem_filter.mp (List.mem_reverse.mp hx)).1
  refine wpAny_holding (wpAny_bind (wpAny_attempt (wpAny_holding (wpAny_run (codeAny_mono h₄ fun r s' hr => ?_)))))
  cases r with
  | ok f =>
    cases use with
    | none =>
      obtain ⟨m, hn, hr⟩ := hr
      refine wpAny_bind (wpAny_holding ?_)
      exact wpAny_comp_letGo (cenv := { ce with scope := relabel scope env }) hkind _ s' m (fun x hx => ofL x (inL hx)) hn
        fun h' m' _ hs' => wpAny_pure (hr h' hs')
    | some u =>
      refine wpAny_bind (wpAny_rule (wpAny_bind (wpAny_holding ?_)))
      refine wpAny_mono hr (fun _ s'' hr' => ?_) fun _ _ z => z
      obtain ⟨m, hn, hr'⟩ := hr'
      refine wpAny_bind ?_
      exact wpAny_comp_letGo (cenv := { ce with scope := relabel scope env }) hkind _ s'' m
        (fun x hx => ofL x ((List.mem_append.mp hx).elim (fun z => inL (List.mem_of_mem_drop z)) fun z => inL (List.mem_of_mem_take z))) hn
        fun h' m' _ hs' => wpAny_pure (hr' h' hs')
  | error x =>
    obtain ⟨m, hn, hr⟩ := hr
    refine wpAny_bind (wpAny_holding ?_)
    exact wpAny_comp_letGo (cenv := { ce with scope := relabel scope env }) hkind _ s' m (fun x hx => ofL x (inL hx)) hn
      fun h' m' _ hs' => wpAny_mono (hr h' hs') (fun _ _ f => f.elim) fun _ _ z => z
end
section
variable {M : Model} {A : Around} {E : Value → Shared → Prop} {s : Shared} {env : Env} {base : Heap} {outer : List Env} {e L : Addr} {Z : Obj → Prop} {fl : Value}
/-- noted in the frame L, whatever flight it was on -/
theorem notes_on {Q : Unit → Shared → Prop} (hZ : HandSPX.Steady Z) (hfr : A.frames = some (env :: outer)) (hf : env.frame = some L) (nf : (fl == rawInt L) = false)
    (hkb : base.StaysIn s.heap) (hen : base.get? e = none) (hl : s.heap.FunFrames base (env :: outer)) (tr : HandSPX.TracedZ s.heap base e Z fl)
    (hQ : ∀ h', HandSPX.HeldZ base (env :: outer) e Z L h' → s.heap.UpToSlots h' → Q () { s with heap := h' }) : wpAny M A (noteFrame (.ref e) env) Q E s := by
  obtain ⟨oe, vs, T, oT, ts, he, hz, hd, h1, hnT, hTe, hT, hdT, h3⟩ := tr
  have keep : ∀ b, b ≠ T → (s.heap.update T (Obj.mapFields (·.setIfInBounds 3 Value.none))).get? b = s.heap.get? b :=
    fun b hb => Heap.get?_update_other _ _ fun q => hb q.symm
  have apart : ∀ b o, s.heap.get? b = some o → (∀ vs, o.data ≠ .fields vs) → b ≠ T := fun b o hb hnf q => by
    subst q
    rw [hT] at hb
    cases hb
    exact hnf _ hdT
  unfold noteFrame
  simp only [hf]
  refine wpAny_bind (wpAny_field he hd h1 ?_)
  rw [if_pos (show (Value.ref T != Value.none) = true from by simp)]
  refine wpAny_bind (wpAny_field hT hdT h3 ?_)
  rw [nf, if_neg Bool.false_ne_true]
  refine wpAny_bind (wpAny_setField hT hdT (Array.getElem?_eq_some_iff.mp h3).1 ?_)
  refine HandSPX.wpAny_entryZ (oe := oe) (vs := vs) hZ hfr ?_ hf ?_ ?_ hen hd (Array.getElem?_eq_some_iff.mp h1).1 hz fun h' hN => ?_
  · exact hl.of_keeps fun b o hb hnf => ⟨o, by rw [keep b (apart b o hb hnf)]; exact hb, rfl⟩
  · rw [keep e fun z => hTe z.symm]
    exact he
  · intro b o hb
    rw [keep b fun q => by rw [q, hnT] at hb; cases hb]
    exact hkb b o hb
  · obtain ⟨x1, x2, x3, x4⟩ := hN
    refine hQ h' ⟨x1, hen, x2, x3⟩ fun b o hb hnf => x4 b o ?_ hnf
    rw [keep b (apart b o hb hnf)]
    exact hb
end
/-- an exception of the block is noted -/
theorem Sky.note {M : Model} {A : Around} {E : Value → Shared → Prop} {s : Shared} {env ce : Env} {outer : List Env} {B : Heap} {a L C : Addr} {Z : Obj → Prop} {Q : Unit → Shared → Prop} (hZ : HandSPX.Steady Z) (hfr : A.frames = some (env :: outer)) (hf : env.frame = some L)
    (hce : ce.frame = env.frame) (hC : C ≠ L) (x : Sky B (env :: outer) a Z C s.heap) (hQ : ∀ h', HandSPX.HeldZ B (env :: outer) a Z L h' → s.heap.UpToSlots h' → Q () { s with heap := h' }) :
    wpAny M A (noteFrame (.ref a) ce) Q E s := by
  have e : noteFrame (.ref a) ce = noteFrame (.ref a) env := by
    unfold noteFrame PySem.frameOf
    rw [hce]
  rw [e]
  rcases x with ⟨hB, hn, hl, oe, vs, he, hz, hd, h1⟩ | ⟨f1, f2, f3, f4⟩ | ⟨f1, f2, f3, f4⟩
  · exact HandSPX.look_newZ hZ hfr hl hf he hB hn hd h1 hz hQ
  · exact notes_on hZ hfr hf (by simp [rawInt]) f1 f2 f3 f4 hQ
  · refine notes_on hZ hfr hf ?_ f1 f2 f3 f4 hQ
    have : rawInt C ≠ rawInt L := fun z => hC (Int.ofNat.inj (by simpa [rawInt] using z))
    simpa using this
end L2
namespace L2
open PySem PySem.Spec PyProof.Rows
section
variable {X : Cx}
/-- the block's context, a wish for what is raised with it -/
abbrev Cx.blkX (X : Cx) (s : Shared) (H : Hp) (scope : Scope) (ce : Env) (fp : List Addr) (xe : Value → Shared → Prop) : Cx := (X.blk s H scope ce fp).tr [] xe
def tLcX (W : WX) (wi : TI) (g : TG) (tt : WX → TT) (te : WX → TE) (vs : List Nat) : TE := fun σ H Q =>
  wi σ H fun J H1 => ∀ D, H1 D = none → ∃ W' : WX, (∀ cls d σ' H', W' cls d σ' H' → W cls d σ H') ∧
    ∃ I : Nat → Nat → Hp → Prop, (∃ m, I 0 m (upd H1 D (.lst []))) ∧ ∀ i m H, I i m H → (J.stop i H ∧ Q (.ref D) H) ∨
      (J.go i H ∧ ∃ Nx : Hp → Prop, (∀ H', Nx H' → ∃ m', m' < m ∧ I (i + 1) m' H') ∧ ∀ x H', J.yld i H x H' → g x (wipe σ vs) H' fun σ2 H2 =>
        wipe σ2 vs = wipe σ vs ∧ tt W' σ2 H2 fun b H3 => if b = true then te W' σ2 H3 (fun y H4 => ∃ acc, H4 D = some (.lst acc) ∧ acc.length < sizeLine ∧ Nx (upd H4 D (.lst (acc ++ [y])))) else Nx H3)
theorem Inv.toX {s : Shared} {H : Hp} {scope : Scope} {ce : Env} {fp : List Addr} {xe : Value → Shared → Prop} {pins : List (Addr × Obj)} {σ : St} {H' : Hp} {s' : Shared} (I : Inv (X.blk s H scope ce fp) pins σ H' s') : Inv (X.blkX s H scope ce fp xe) pins σ H' s' :=
  ⟨I.ok.toTry [] xe, I.os, I.bare, I.base, I.loc, I.cell, I.free, I.freeC, I.pin, I.hok, I.len⟩
theorem funFrames_at {B B' h h' : Heap} : ∀ {l : List Env}, h.FunFrames B l → (∀ L ∈ frs l, h'.get? L = h.get? L ∧ (B.get? L = none → B'.get? L = none)) → h'.FunFrames B' l
  | [], _, _ => trivial
  | env :: l, k, hn => by
    obtain ⟨hk, ⟨L, o, hf, hb, ho, hd⟩, hr⟩ := k
    have hL := hn L (List.mem_filterMap.mpr ⟨env, List.mem_cons_self, hf⟩)
    refine ⟨hk, ⟨L, o, hf, hL.2 hb, hL.1.trans ho, hd⟩, funFrames_at hr fun b hb => ?_⟩
    obtain ⟨e, he, q⟩ := List.mem_filterMap.mp hb
    exact hn b (List.mem_filterMap.mpr ⟨e, List.mem_cons_of_mem _ he, q⟩)
/-- the exception of a block is the def's: what was noted, the block's names gone -/
theorem blk_raises {W W' : WX} {pins : List (Addr × Obj)} {s3 : Shared} {H3 : Hp} {σ : St} {scope : Scope} {ce : Env} {fp : List Addr} {xe : Value → Shared → Prop} {use : Option (Value → Sem Unit)} {Qf : Value → Shared → Prop} {acc : Value} (hs : X.stack = X.env :: X.outer) (hf : X.env.frame = some X.env.locals) (hce : ce.frame = X.env.frame) (tk : Takes X W) (hW : ∀ cls d σ' H', W' cls d σ' H' → W cls d σ H')
    (I3 : Inv X pins σ H3 s3) (hC : s3.heap.objs.size ≤ ce.locals)
    (f3 : ∀ b ∈ fp, FpOk X pins H3 b) {u : Value} {s' : Shared} (x : XE (X.blkX s3 H3 scope ce fp xe) W' u s') :
    notedBy (model X.prog X.w) X.A ce (fun e s' => postX (model X.prog X.w) X.A X.xe use Qf acc ce (.error e) s') u s' := by
  obtain ⟨a, B, sI, pins', σ', H', cls, d, rfl, I, nb, up, sky, na, os, ag, w⟩ := x
  have hfr : X.A.frames = some (X.env :: X.outer) := by rw [I3.ok.frames, hs]
  have nCL : ce.locals ≠ X.env.locals := fun z => absurd (Nat.lt_of_lt_of_le I3.lt hC) (by rw [z]; exact Nat.lt_irrefl _)
  have sky' : Sky B (X.env :: X.outer) a (Zc cls d) ce.locals s'.heap := by
    rw [← hs]
    exact sky
  have fC : FpOk X pins H' ce.locals := I3.fpOk hC I.free
  show wpAny _ _ (noteFrame (.ref a) ce) _ _ _
  refine Sky.note Zc.steady hfr hf hce nCL sky' fun h1 hh up1 => ?_
  obtain ⟨k1, k2, k3, oe, vs, T, oT, ts, he, hz, hd, h1', hnT, hTe, hT, hdT, h3'⟩ := hh
  obtain ⟨m, ⟨oC, es, ep, eC, dC, sk, nf⟩, _⟩ := I.loc
  have eC1 : ∃ sl, h1.get? ce.locals = some { oC with slots := sl } := by
    have nd : ∀ vs, oC.data ≠ .fields vs := fun vs z => by rw [dC] at z; cases z
    obtain ⟨sl, q⟩ := up _ _ eC nd
    obtain ⟨sl2, q2⟩ := up1 _ _ q nd
    exact ⟨sl2, q2⟩
  obtain ⟨sl1, eC1⟩ := eC1
  refine ⟨m, ⟨_, es, ep, eC1, dC, sk, nf⟩, fun h' sb => ?_⟩
  have nA : a ≠ ce.locals := fun z => by
    rw [z, eC1] at he
    cases he
    have hd : oC.data = .fields vs := hd
    rw [dC] at hd
    cases hd
  have nT : T ≠ ce.locals := fun z => by
    rw [z, eC1] at hT
    cases hT
    have hdT : oC.data = .fields ts := hdT
    rw [dC] at hdT
    cases hdT
  have he' : h'.get? a = some oe := by rw [sb.2 a nA]; exact he
  have hT' : h'.get? T = some oT := by rw [sb.2 T nT]; exact hT
  have hid : ∀ (h : Heap) b o, (PySem.W.hideAll h [ce.locals]).get? b = some o → h.get? b = some o ∧ b ≠ ce.locals := fun h b o q =>
    ⟨PySem.W.of_hideAll _ q, fun z => by
      rw [z] at q
      rw [PySem.W.hideAll_none [ce.locals] (List.mem_singleton.mpr rfl)] at q
      cases q⟩
  have hidn : ∀ (h : Heap) b, h.get? b = none → (PySem.W.hideAll h [ce.locals]).get? b = none := fun h b q => by
    cases z : (PySem.W.hideAll h [ce.locals]).get? b with
    | none => rfl
    | some o =>
      have := (hid h b o z).1
      rw [q] at this
      cases this
  have onl : ∀ (h : Heap) b o, h.get? b = some o → b ≠ ce.locals → (PySem.W.hideAll h [ce.locals]).get? b = some o := fun h b o q n =>
    PySem.W.hideAll_get _ q fun z => n (List.mem_singleton.mp z)
  have st : (PySem.W.hideAll B [ce.locals]).StaysIn h' := fun b o q => by
    obtain ⟨q1, q2⟩ := hid B b o q
    rw [sb.2 b q2]
    exact k1 b o q1
  have nfr : ∀ b ∈ frs (X.env :: X.outer), b ≠ ce.locals := fun b hb z => by
    rw [← hs] at hb
    rcases List.mem_cons.mp (I3.stkSub b hb) with y | y
    · exact nCL (z.symm.trans y)
    · exact fC.2.2.1 (z ▸ y)
  have ff : h'.FunFrames (PySem.W.hideAll B [ce.locals]) (X.env :: X.outer) := funFrames_at k3 fun b hb => ⟨sb.2 b (nfr b hb), fun q => hidn B b q⟩
  unfold PySem.passOn
  refine wpAny_bind (wpAny_field he' hd h1' ?_)
  rw [if_neg (show ¬ ((Value.ref T == Value.none) = true) from by simp)]
  have J : Inv X pins σ H' { sI with heap := PySem.W.hideAll sI.heap [ce.locals] } := by
    have J0 : Inv X pins σ H' sI := I3.call' (ch := fp) I.os I.base I.hok I.bare fun b hb => ⟨(f3 b hb).2.2.2.1, (f3 b hb).2.1, (f3 b hb).2.2.2.2.1, (f3 b hb).2.2.2.2.2⟩
    exact J0.turned (t' := sI.toks) (it := ce.locals) (fun b o n e => onl _ b o e n) fC.1 fC.2.1 fC.2.2.2.1 fC.2.2.2.2.1 fC.2.2.2.2.2
  have fin : wpAny (model X.prog X.w) X.A (setFlight (.ref a) ce.frame) (fun _ s4 => wpAny (model X.prog X.w) X.A (throw (.ref a) : Sem Value) (fun _ _ => False) X.xe s4) X.xe { s' with heap := h' } := by
    rw [hce, hf]
    refine HandSPX.setFlight_anyZ (base := PySem.W.hideAll B [ce.locals]) (l := X.env :: X.outer) (Z := Zc cls d) (fl := rawInt X.env.locals) st ff ⟨oe, vs, T, oT, ts, he', hz, hd, h1', hidn B T hnT, hTe, hT', hdT, h3'⟩ fun h4 y1 y2 y3 up4 => wpAny_throw (tk _ _ ?_)
    refine ⟨a, PySem.W.hideAll B [ce.locals], _, pins, σ, H', cls, d, rfl, J, fun b o q hb => ?_, fun b o q hd => ?_, .inr (.inr ?_), na, os, ag, hW _ _ _ _ w⟩
    · obtain ⟨q1, q2⟩ := hid _ b o q
      exact onl _ b o (nb b o q1 hb) q2
    · obtain ⟨q1, q2⟩ := hid _ b o q
      obtain ⟨sl, z1⟩ := up b o q1 hd
      obtain ⟨sl2, z2⟩ := up1 b _ z1 hd
      have z3 : h'.get? b = _ := (sb.2 b q2).trans z2
      obtain ⟨sl4, z4⟩ := up4 b _ z3 hd
      exact ⟨sl4, z4⟩
    · rw [hs]
      exact ⟨y1, hidn B a k2, y2, y3⟩
  first
    | exact wpAny_bind (wpAny_pure (wpAny_bind fin))
    | exact wpAny_bind fin
end
end L2
namespace L2
open PySem PySem.Spec PyProof.Rows
section
variable {X : Cx} {W : WX}
theorem lcX_core {pins : List (Addr × Obj)} {s : Shared} {σ : St} {H : Hp} {Q : VK} {elt tg iter : Expr} {ifs : List Expr} {scope : Scope} {own : List (Str × Nat)} {pos pos' : Pos} {wi : TI} {g : TG} {tt : WX → TT} {te : WX → TE}
    {use : Option (Value → Sem Unit)} {Qf : Value → Shared → Prop} (hst : X.stack = X.env :: X.outer) (hfm : X.env.frame = some X.env.locals) (tk : Takes X W)
    (hc : X.calm = true) (hN : X.N.Nodup) (I : Inv X pins σ H s) (hi : PI X tg iter wi) (ok : BlkOk X.N X.env.scope scope own)
    (hg : ∀ (s : Shared) (H : Hp) (C : Addr) (cl : List (Str × Addr)) (fp : List Addr) (xe : Value → Shared → Prop),
      PG (X.blkX s H scope (compEnvC scope cl C X.env) fp xe) tg g)
    (ht : ∀ (W' : WX) (s : Shared) (H : Hp) (C : Addr) (cl : List (Str × Addr)) (fp : List Addr) (xe : Value → Shared → Prop),
      Takes (X.blkX s H scope (compEnvC scope cl C X.env) fp xe) W' → PTs (X.blkX s H scope (compEnvC scope cl C X.env) fp xe) ifs (tt W'))
    (he : ∀ (W' : WX) (s : Shared) (H : Hp) (C : Addr) (cl : List (Str × Addr)) (fp : List Addr) (xe : Value → Shared → Prop),
      Takes (X.blkX s H scope (compEnvC scope cl C X.env) fp xe) W' → PE (X.blkX s H scope (compEnvC scope cl C X.env) fp xe) elt (te W'))
    (hs : ∀ x, foldedSetIterable iter X.env x = pure x)
    (h : tLcX W wi g tt te (own.map (·.2)) σ H Q)
    (hRR : ∀ D C s' m H', Inv X pins σ H' s' → Q (.ref D) H' → s'.heap.Ns C m → FpOk X pins H' C →
      compPost (model X.prog X.w) X.A X.xe use Qf (.ref D) C (.ok .next) s') :
    wpAny (model X.prog X.w) X.A (comprehension (.ListComp elt [⟨tg, iter, ifs, 0⟩] scope pos) scope X.env pos' (newList []) false (eval iter X.env) use) Qf X.xe s := by
  have cells : ∀ y ∈ scope.names, y.2 = .free → ∃ c, X.env.cells.lookup y.1 = some c := fun y hy e =>
    (ok.free y hy e).elim (fun k => I.ok.has _ (.inl k)) fun k => I.ok.has _ (.inr k)
  refine comp_postX (use := use) rfl hs (closure_ok cells) ok.kind (fun y hy e => by rw [ok.uniq y hy, e]) ?_
  refine thn (hi.run pins s σ H _ I h) fun xv s1 hx => thn hx fun itv s2 h2 => ?_
  obtain ⟨it, fp, tn, J, H2, rfl, I2, T, st2, f2, q⟩ := h2
  refine wpAny_newObj_type (newEnv_comp ?_) (by show 0 ≤ sizeLine; decide)
  generalize hD : s2.heap.objs.size = D
  obtain ⟨W', hW, B, ⟨m0, w0⟩, turn⟩ := q D (I2.hok.fresh (Nat.le_of_eq hD))
  generalize e3 : ({ s2 with heap := s2.heap.push { cls := .type "list", data := .seq ([] : List Value).toArray } } : Shared) = s3
  have h3 : s3.heap = s2.heap.push { cls := .type "list", data := .seq ([] : List Value).toArray } := by rw [← e3]
  have I3 : Inv X pins σ (upd H2 D (.lst [])) s3 := by
    rw [← e3]
    refine I2.laid (t' := s2.toks) (fun b o e => Heap.get?_push_of_some _ e) (Nat.le_of_eq hD) ⟨Nat.zero_le _, [], 0, .nil, ?_⟩
    rw [← hD]
    exact Heap.get?_push_size _ rfl
  have f3 : ∀ b ∈ fp, FpOk X pins (upd H2 D (.lst [])) b ∧ b < s3.heap.objs.size := fun b hb => by
    obtain ⟨o, e, _⟩ := T.obj _ _ st2 b hb
    have lt := Heap.lt_size e
    refine ⟨⟨?_, (f2 b hb).2⟩, ?_⟩
    · rw [upd_ne (by rw [← hD]; exact Nat.ne_of_lt lt)]
      exact (f2 b hb).1
    · rw [h3, Heap.size_push]
      exact Nat.lt_succ_of_lt lt
  have st3 : tn 0 s3.heap := T.keep _ _ _ st2 fun b _ o e => by
    rw [h3]
    exact Heap.get?_push_of_some _ e
  have I4 := block_start I3 ok hN f3
  have hLs : X.env.locals < s3.heap.objs.size := I3.lt
  generalize hcl : cellsFrom (s3.heap.objs.size + 1) scope.names (cloFrom X.env.cells scope.names []) = cl at I4 ⊢
  show codeAny _ _ (.compStart (.ListComp elt [⟨tg, iter, ifs, 0⟩] scope pos) 0 (.ref it) (.ref D) (compEnvC scope cl s3.heap.objs.size X.env))
    (postX (model X.prog X.w) X.A X.xe use Qf (.ref D) (compEnvC scope cl s3.heap.objs.size X.env)) { s3 with heap := pushCells (s3.heap.push { cls := .type "dict", data := .dict #[] }) scope.names }
  have pg := hg s3 (upd H2 D (.lst [])) s3.heap.objs.size cl fp
  have pt := fun xe => ht W' s3 (upd H2 D (.lst [])) s3.heap.objs.size cl fp xe
  have pe := fun xe => he W' s3 (upd H2 D (.lst [])) s3.heap.objs.size cl fp xe
  have fr0 : ∀ b ∈ fp, (upd H2 D (.lst [])) b = none := fun b hb => (f3 b hb).1.1
  have nC : s3.heap.objs.size ≤ (compEnvC scope cl s3.heap.objs.size X.env).locals := Nat.le_refl _
  have cf : (compEnvC scope cl s3.heap.objs.size X.env).frame = X.env.frame := rfl
  have cL : (compEnvC scope cl s3.heap.objs.size X.env).locals = s3.heap.objs.size := rfl
  generalize compEnvC scope cl s3.heap.objs.size X.env = ce at I4 pg pt pe nC cf cL ⊢
  generalize upd H2 D (.lst []) = H3 at I3 I4 pg pt pe w0 fr0 f3
  generalize hs4 : ({ s3 with heap := pushCells (s3.heap.push { cls := .type "dict", data := .dict #[] }) scope.names } : Shared) = s4 at I4 ⊢
  have st4 : tn 0 s4.heap := T.keep _ _ _ st3 fun b _ o e => by
    rw [← hs4]
    exact pushCells_keeps _ _ _ _ (Heap.get?_push_of_some _ e)
  -- what is raised
  obtain ⟨xe, hxe⟩ : ∃ xe : Value → Shared → Prop, xe = fun u s' => XE (X.blkX s3 H3 scope ce fp fun _ _ => False) W' u s' := ⟨_, rfl⟩
  have tkB : Takes (X.blkX s3 H3 scope ce fp xe) W' := fun u s' ⟨a, B, sI, pins', σ', H', cls, d, e1, I', r⟩ => by
    rw [hxe]
    exact ⟨a, B, sI, pins', σ', H', cls, d, e1, ⟨⟨I'.ok.mod, I'.ok.kind, I'.ok.glob, I'.ok.blt, I'.ok.above, I'.ok.inj, I'.ok.has, I'.ok.cab, I'.ok.hd, I'.ok.frames, I'.ok.stk, I'.ok.exf, I'.ok.bs, I'.ok.bsz, I'.ok.noex, I'.ok.exfs, I'.ok.funs, I'.ok.frf⟩,
      I'.os, I'.bare, I'.base, I'.loc, I'.cell, I'.free, I'.freeC, I'.pin, I'.hok, I'.len⟩, r⟩
  have out : ∀ u s', xe u s' → notedBy (model X.prog X.w) X.A ce (fun e s' => postX (model X.prog X.w) X.A X.xe use Qf (.ref D) ce (.error e) s') u s' := fun u s' x => by
    rw [hxe] at x
    exact blk_raises hst hfm cf tk hW I3 nC (fun b hb => (f3 b hb).1) x
  have pt := pt xe tkB
  have pe := pe xe tkB
  have pg := pg xe
  have I4 : Inv (X.blkX s3 H3 scope ce fp xe) [] (wipe σ (own.map (·.2))) H3 s4 := I4.toX
  clear hxe tkB
  have fps : ∀ {σ' : St} {H' : Hp} {s' : Shared}, Inv (X.blkX s3 H3 scope ce fp xe) [] σ' H' s' → (∀ b ∈ fp, H' b = none) → ∀ b ∈ fp, FpOk (X.blkX s3 H3 scope ce fp xe) [] H' b := fun {σ' H' s'} I' hn b hb =>
    ⟨hn b hb, (I'.ok.exf b hb).1, I'.ok.exfs b hb, .inl hb, fun x c e => (I'.ok.exf b hb).2 x c e, fun p hp => absurd (show p ∈ ([] : List (Addr × Obj)) ++ [] from hp) (by simp)⟩
  have loop : codeAny (model X.prog X.w) X.A (.compLoop (.ListComp elt [⟨tg, iter, ifs, 0⟩] scope pos) 0 (.ref it) (.ref D) ce) (postX (model X.prog X.w) X.A X.xe use Qf (.ref D) ce) s4 := by
    refine compLoop_any (fun n s' => ∃ i H', Inv (X.blkX s3 H3 scope ce fp xe) [] (wipe σ (own.map (·.2))) H' s' ∧ tn i s'.heap ∧
      (∀ b ∈ fp, H' b = none) ∧ B i n H') ?_ m0 ⟨0, H3, I4, st4, fr0, w0⟩
    rintro n s5 ⟨i, H5, I5, st5, n5, w5⟩
    rcases turn i n H5 w5 with ⟨stop, qq⟩ | ⟨go, Nx, hNx, step⟩
    · refine thnF (T.done (X.blkX s3 H3 scope ce fp xe) rfl rfl rfl hc i [] s5 _ H5 (fun _ _ => False) I5 (fps I5 n5) st5 stop) fun r s6 ⟨hr, I6⟩ => ?_
      subst hr
      have I7 : Inv X pins σ H5 s6 := I3.call' (ch := fp) I6.os I6.base I6.hok I6.bare fun b hb =>
        let z := (f3 b hb).1.2
        ⟨z.2.2.1, z.1, z.2.2.2.1, z.2.2.2.2⟩
      obtain ⟨m, hn, _⟩ := I6.loc
      exact hRR D ce.locals s6 m H5 I7 qq hn (I3.fpOk nC I6.free)
    · refine thnF (T.item (X.blkX s3 H3 scope ce fp xe) rfl rfl rfl hc i [] s5 _ H5 (fun _ _ => False) I5 (fps I5 n5) st5 go) fun r s6 ⟨u, hr, h6⟩ => ?_
      subst hr
      refine thnF h6 fun _ s7 ⟨x, H7, I7, r7, y7, st7, n7⟩ => ?_
      refine wpAny_mono (pg.run _ s7 _ H7 x u _ (I7.pinned (fps I7 n7) (T.obj _ _ st7)) r7 (step x H7 y7)) (fun _ s8 ⟨σ8, H8, I8, hw8, q8⟩ => ?_) out
      refine wpAny_mono (pt.run _ s8 σ8 H8 _ I8 q8) (fun b s9 ⟨H9, I9, q9⟩ => ?_) out
      have next : ∀ {s' : Shared} {H' : Hp}, Inv (X.blkX s3 H3 scope ce fp xe) ([] ++ pinsAt fp s7.heap) σ8 H' s' → Nx H' →
          ∃ m, m < n ∧ ∃ i H', Inv (X.blkX s3 H3 scope ce fp xe) [] (wipe σ (own.map (·.2))) H' s' ∧ tn i s'.heap ∧ (∀ b ∈ fp, H' b = none) ∧ B i m H' := fun {s' H'} I' nx => by
        obtain ⟨m', hm, w'⟩ := hNx H' nx
        have pin' : ∀ b ∈ fp, ∀ o, s7.heap.get? b = some o → s'.heap.get? b = some o ∧ H' b = none := fun b hb o e =>
          let z := I'.pin (b, o) (List.mem_append_right _ (List.mem_append_right _ (mem_pinsAt hb e)))
          ⟨z.1, z.2.1⟩
        refine ⟨m', hm, i + 1, H', (I'.unpinned (pins := [])).weak (by rw [← hw8, wipe_length]) (fun j v e => ?_), T.keep _ _ _ st7 fun b hb o e => (pin' b hb o e).1, fun b hb => ?_, w'⟩
        · rw [← hw8] at e
          exact (wipe_some e).1
        · obtain ⟨o, e, _⟩ := T.obj _ _ st7 b hb
          exact (pin' b hb o e).2
      cases b with
      | false => exact next I9 q9
      | true =>
        have q9 : te W' σ8 H9 (fun y H4 => ∃ acc, H4 D = some (.lst acc) ∧ acc.length < sizeLine ∧ Nx (upd H4 D (.lst (acc ++ [y])))) := q9
        refine wpAny_mono (pe.run _ s9 σ8 H9 _ I9 q9) (fun z s10 ⟨yv, H10, I10, r10, acc, hD10, hz10, nx⟩ => ?_) out
        exact app_ok (X := X.blkX s3 H3 scope ce fp xe) I10 hD10 hz10 r10 fun s11 I11 => next I11 nx
  exact codeAny_compStart_list loop (T.self X.A 0 _ _ _ st4 loop)
end
end L2
namespace L2
open PySem PySem.Spec PyProof.Rows
section
variable {X : Cx} {W : WX} {elt tg iter : Expr} {ifs : List Expr} {scope : Scope} {own : List (Str × Nat)} {pos : Pos} {wi : TI} {g : TG} {tt : WX → TT} {te : WX → TE}
/-- as a value -/
theorem pe_lcX (hst : X.stack = X.env :: X.outer) (hfm : X.env.frame = some X.env.locals) (tk : Takes X W) (hc : X.calm = true) (hN : X.N.Nodup) (hi : PI X tg iter wi) (ok : BlkOk X.N X.env.scope scope own)
    (hg : ∀ (s : Shared) (H : Hp) (C : Addr) (cl : List (Str × Addr)) (fp : List Addr) (xe : Value → Shared → Prop),
      PG (X.blkX s H scope (compEnvC scope cl C X.env) fp xe) tg g)
    (ht : ∀ (W' : WX) (s : Shared) (H : Hp) (C : Addr) (cl : List (Str × Addr)) (fp : List Addr) (xe : Value → Shared → Prop),
      Takes (X.blkX s H scope (compEnvC scope cl C X.env) fp xe) W' → PTs (X.blkX s H scope (compEnvC scope cl C X.env) fp xe) ifs (tt W'))
    (he : ∀ (W' : WX) (s : Shared) (H : Hp) (C : Addr) (cl : List (Str × Addr)) (fp : List Addr) (xe : Value → Shared → Prop),
      Takes (X.blkX s H scope (compEnvC scope cl C X.env) fp xe) W' → PE (X.blkX s H scope (compEnvC scope cl C X.env) fp xe) elt (te W'))
    (hs : ∀ x, foldedSetIterable iter X.env x = pure x := by intro _; rfl) : PE X (.ListComp elt [⟨tg, iter, ifs, 0⟩] scope pos) (tLcX W wi g tt te (own.map (·.2))) := by
  refine ⟨fun pins s σ H Q I h => ?_⟩
  rw [eval_ListComp]
  refine lcX_core hst hfm tk hc hN I hi ok hg ht he hs h fun D C s' m H' I' q hn f => ⟨m, hn, fun h'' sb => ?_⟩
  exact ⟨.ref D, H', I'.turned (t' := s'.toks) (fun b o hb e => (sb.2 b hb).trans e) f.1 f.2.1 f.2.2.2.1 f.2.2.2.2.1 f.2.2.2.2.2, rfl, q⟩
/-- name = [..] on one line -/
theorem ps_setLcX {i : Nat} {y : Str} {py spos : Pos} (hst : X.stack = X.env :: X.outer) (hfm : X.env.frame = some X.env.locals) (tk : Takes X W) (hc : X.calm = true) (hN : X.N.Nodup) (hy : X.N[i]? = some y) (hyl : X.env.scope.names.lookup y = some .local)
    (hsw : swapsWith (.ListComp elt [⟨tg, iter, ifs, 0⟩] scope pos) (some (.Name y py)) spos.line X.env = pure true) (hi : PI X tg iter wi) (ok : BlkOk X.N X.env.scope scope own)
    (hg : ∀ (s : Shared) (H : Hp) (C : Addr) (cl : List (Str × Addr)) (fp : List Addr) (xe : Value → Shared → Prop),
      PG (X.blkX s H scope (compEnvC scope cl C X.env) fp xe) tg g)
    (ht : ∀ (W' : WX) (s : Shared) (H : Hp) (C : Addr) (cl : List (Str × Addr)) (fp : List Addr) (xe : Value → Shared → Prop),
      Takes (X.blkX s H scope (compEnvC scope cl C X.env) fp xe) W' → PTs (X.blkX s H scope (compEnvC scope cl C X.env) fp xe) ifs (tt W'))
    (he : ∀ (W' : WX) (s : Shared) (H : Hp) (C : Addr) (cl : List (Str × Addr)) (fp : List Addr) (xe : Value → Shared → Prop),
      Takes (X.blkX s H scope (compEnvC scope cl C X.env) fp xe) W' → PE (X.blkX s H scope (compEnvC scope cl C X.env) fp xe) elt (te W'))
    (hs : ∀ x, foldedSetIterable iter X.env x = pure x := by intro _; rfl) :
    PS X (.Assign [.Name y py] (.ListComp elt [⟨tg, iter, ifs, 0⟩] scope pos) spos) (tAsg (tLcX W wi g tt te (own.map (·.2))) (gName i)) := by
  refine ⟨fun pins s σ H D I h => ?_⟩
  rw [exec_Assign_Name_used _ _ _ _ hsw]
  refine wpAny_bind (wpAny_standAt (wpAny_bind (wpAny_bind ?_)))
  have h : tLcX W wi g tt te (own.map (·.2)) σ H (fun x H1 => gName i x σ H1 D.nx) := h
  refine thn (lcX_core (use := some (assign (.Name y py) X.env)) (Qf := fun _ s' => SP X pins D .next s') hst hfm tk hc hN I hi ok hg ht he hs h fun L C s' m H' I' q hn f => ?_) fun _ s' hq => wpAny_pure (wpAny_pure hq)
  refine wpAny_assign_Name (store_ok2 (v := V.ref L) I' hN hy (.inl hyl) rfl (fun s2 I2 ⟨a, sb, ha⟩ => ?_) (.inr hyl))
  have nCa : C ≠ a := fun z => by
    rcases ha with e | e
    · exact f.2.1 (z.trans e)
    · exact f.2.2.2.2.1 y a e z.symm
  refine ⟨m, hn.sameBut sb nCa, fun h3 sb3 => ?_⟩
  exact ⟨_, H', I2.turned (t' := s2.toks) (fun b o hb e => (sb3.2 b hb).trans e) f.1 f.2.1 f.2.2.2.1 f.2.2.2.2.1 f.2.2.2.2.2, q⟩
end
end L2

set_option Elab.async false
set_option linter.all false
set_option maxRecDepth 100000
namespace DL
open PySem PySem.Spec PyProof.Rows L2
/-- what is known behind an exception of a block: the data as it was ahead -/
def outX (δ : DSt) : DSt := δ.map fun o => match o with
  | some (.d x) => some (.d x)
  | _ => none
def lcXD (g : TDG) (tt : TDT) (te : TD) (vs : List Nat) (E : XD) : List DL.D → List DL.D → DSt → (List DL.D → DSt → Prop) → Prop
  | [], acc, δ, Q => Q acc δ
  | x :: xs, acc, δ, Q => g x δ fun δ1 => tt δ1 (fun b δ2 => if b = true then te δ2 (fun y δ3 => acc.length < sizeLine ∧ lcXD g tt te vs E xs (acc ++ [y.toD]) (wipeD δ3 vs) Q) E
    else lcXD g tt te vs E xs acc (wipeD δ2 vs) Q) E
def compXD (ti : TDI) (g : TDG) (tt : TDT) (te : TD) (vs : List Nat) : TD := fun δ Q E => ti δ (fun xs δ1 => lcXD g tt te vs (fun x _ => E x (outX δ1)) xs [] (wipeD δ1 vs) fun acc δ2 => Q (.own (.lst acc)) δ2) E
section
variable {K : PySem.W.Frag} {c : Fc} {F F' H H' : Hp} {ow ow' : Addr → Option Hold} {δ δ' : DSt} {tmp : List (V × DV)} {σ σ' : L2.St}
theorem outX_get {i : Nat} {x : DV} (h : (outX δ)[i]? = some (some x)) : ∃ y, x = .d y ∧ δ[i]? = some (some (.d y)) := by
  unfold outX at h
  rw [List.getElem?_map] at h
  cases q : δ[i]? with
  | none => rw [q] at h; cases h
  | some o =>
    rw [q] at h
    match o with
    | none => cases h
    | some (.own _) => cases h
    | some (.d y) => cases h; exact ⟨y, rfl, rfl⟩
/-- the data of a state, as values -/
theorem SttF.stash (S : SttF K c F ow δ tmp σ H) : ∃ vs ds, RepL K F vs ds ∧ ∀ (i : Nat) (x : D), δ[i]? = some (some (.d x)) → ∃ (n : Nat) (v : V), σ[i]? = some (some v) ∧ vs[n]? = some v ∧ ds[n]? = some x := by
  have go : ∀ m, ∃ vs ds, RepL K F vs ds ∧ ∀ (i : Nat) (x : D), i < m → δ[i]? = some (some (.d x)) → ∃ (n : Nat) (v : V), σ[i]? = some (some v) ∧ vs[n]? = some v ∧ ds[n]? = some x := fun m => by
    induction m with
    | zero => exact ⟨[], [], .nil, fun i x h => absurd h (Nat.not_lt_zero _)⟩
    | succ m ih =>
      obtain ⟨vs, ds, r, h⟩ := ih
      by_cases hx : ∃ x, δ[m]? = some (some (.d x))
      · obtain ⟨x, hx⟩ := hx
        obtain ⟨v, e, rv⟩ := S.sl m _ hx
        refine ⟨v :: vs, x :: ds, .cons rv r, fun i y hi q => ?_⟩
        by_cases z : i = m
        · subst z
          rw [hx] at q; cases q
          exact ⟨0, v, e, rfl, rfl⟩
        · obtain ⟨n, u, e1, e2, e3⟩ := h i y (by omega) q
          exact ⟨n + 1, u, e1, e2, e3⟩
      · refine ⟨vs, ds, r, fun i y hi q => ?_⟩
        by_cases z : i = m
        · subst z; exact absurd ⟨y, q⟩ hx
        · exact h i y (by omega) q
  obtain ⟨vs, ds, r, h⟩ := go δ.length
  refine ⟨vs, ds, r, fun i x q => h i x ?_ q⟩
  rcases Nat.lt_or_ge i δ.length with z | z
  · exact z
  · rw [List.getElem?_eq_none z] at q; cases q
theorem RepL.at {vs : List V} {ds : List D} (r : RepL K F vs ds) : ∀ {n : Nat} {v : V} {x : D}, vs[n]? = some v → ds[n]? = some x → Rep K F v x := by
  intro n
  induction n generalizing vs ds with
  | zero =>
    intro v x h k
    cases r with
    | nil => cases h
    | cons h1 t => cases h; cases k; exact h1
  | succ n ih =>
    intro v x h k
    cases r with
    | nil => cases h
    | cons h1 t => exact ih t h k
/-- back in the outer state -/
theorem SttF.out {F0 H0 : Hp} {ow0 : Addr → Option Hold} {tmp0 : List (V × DV)} (S0 : SttF K c F0 ow0 δ tmp0 σ H0) {vs : List V} {ds : List D} (st : ∀ (i : Nat) (x : D), δ[i]? = some (some (.d x)) → ∃ (n : Nat) (v : V), σ[i]? = some (some v) ∧ vs[n]? = some v ∧ ds[n]? = some x)
    (S : SttF K c F ow δ' tmp σ' H) (r : RepL K F vs ds) : SttF K c F ow (outX δ) tmp σ H := by
  refine { S with len := ?_, sl := fun i x q => ?_, ps := S0.ps }
  · rw [S0.len]
    unfold outX
    rw [List.length_map]
  · obtain ⟨y, rfl, e⟩ := outX_get q
    obtain ⟨n, v, e1, e2, e3⟩ := st i y e
    exact ⟨v, e1, r.at e2 e3⟩
end
section
variable {X : Cx} {c : Fc} {W : WX}
theorem lift_compX {K : PySem.W.Frag} {ti : TDI} {g : TDG} {tt : TDT} {te : TD} {vs : List Nat} (hv : ∀ i ∈ vs, i ∉ c.sl) : ∀ σ H Q, LE K c W (compXD ti g tt te vs) σ H Q →
    tLcX W (LI K c W ti) (LG K c vs g) (fun W' => LT K c W' tt) (fun W' => LE K c W' te) vs σ H Q := fun σ H Q ⟨δ, tmp, Qd, Ed, S, q, k, w⟩ => by
  refine ⟨δ, tmp, _, _, S, q, fun J v src items δ1 H1 q1 sv ⟨F1, ow1, S1⟩ => ?_, w⟩
  intro D nD
  obtain ⟨zs, ds, rz, st⟩ := S1.stash
  have S1' := S1.push (Rep.gho rz)
  have S2 := (S1'.wipe hv).pushNew (o := .lst []) nD ⟨[], upd_same, .nil⟩
  refine ⟨fun cls d _ H' => W cls d σ H', fun _ _ _ _ z => z, fun i m H => m = items.length - i ∧ i ≤ items.length ∧ ∃ δ acc, Stt K c (wipeD δ vs) ((.ref D, .own (.lst acc)) :: (.int 0, .d (.gho zs ds)) :: (v, .d src) :: tmp) (wipe σ vs) H ∧ lcXD g tt te vs (fun x _ => Ed x (outX δ1)) (items.drop i) acc (wipeD δ vs) fun acc δ2 => Qd (.own (.lst acc)) δ2,
    ⟨items.length, by simp, Nat.zero_le _, δ1, [], ⟨_, _, S2⟩, q1⟩, ?_⟩
  have wd : ∀ {acc : List DL.D}, WD K c (fun cls d _ H' => W cls d σ H') ((.ref D, .own (.lst acc)) :: (.int 0, .d (.gho zs ds)) :: (v, .d src) :: tmp) fun x _ => Ed x (outX δ1) := fun {acc} x δ' σ' H' F' ow' cls d hx S' er => by
    have rg : RepL K F' zs ds := by
      have := S'.tm.2.1
      cases (show Rep K F' (.int 0) (.gho zs ds) from this) with
      | gho h => exact h
    exact w x (outX δ1) σ H' F' ow' cls d hx (S1.out st S'.pop.pop.pop rg) er
  rintro i m H2 ⟨rfl, hi, δ2, acc, ⟨F2, ow2, S3⟩, q2⟩
  have src2 : Rep K F2 v src := S3.tm.2.2.1
  by_cases hlt : i < items.length
  · refine .inr ⟨sv.go i F2 H2 S3.fh src2 hlt, fun H => i + 1 ≤ items.length ∧ ∃ δ acc, Stt K c (wipeD δ vs) ((.ref D, .own (.lst acc)) :: (.int 0, .d (.gho zs ds)) :: (v, .d src) :: tmp) (wipe σ vs) H ∧ lcXD g tt te vs (fun x _ => Ed x (outX δ1)) (items.drop (i + 1)) acc (wipeD δ vs) fun acc δ2 => Qd (.own (.lst acc)) δ2,
      fun H' h => ⟨items.length - (i + 1), by omega, rfl, h⟩, fun x H' y => ?_⟩
    obtain ⟨F3, e3, r3⟩ := sv.yld i F2 H2 x H' S3.fh src2 y _ (List.getElem?_eq_getElem hlt)
    rw [List.drop_eq_getElem_cons hlt] at q2
    refine ⟨wipeD δ2 vs, (.ref D, .own (.lst acc)) :: (.int 0, .d (.gho zs ds)) :: (v, .d src) :: tmp, _, _, ⟨F3, ow2, (S3.ext e3).push r3⟩, q2, fun δ4 σ4 H4 q4 S4 hw => ?_⟩
    have hw' : wipe σ4 vs = wipe σ vs := by
      rw [hw]
      exact wipe_idem vs fun _ h => h
    refine ⟨hw', δ4, _, _, _, S4, q4, fun b δ5 H5 q5 ⟨F5, ow5, S5⟩ => ?_, wd⟩
    cases b with
    | false =>
      have S6 := S5.wipe hv
      rw [hw'] at S6
      exact ⟨hlt, δ5, acc, ⟨_, _, S6⟩, q5⟩
    | true =>
      refine ⟨δ5, _, _, _, ⟨F5, ow5, S5⟩, q5, fun u z δ6 H6 ⟨hz, q6⟩ ⟨F6, ow6, S6⟩ => ?_, wd⟩
      obtain ⟨F7, S7, s7⟩ := S6.top_frz
      obtain ⟨p', e0, _, _, _, ws, ep, rw'⟩ := S7.tm.2.1
      cases e0
      have S8 := S7.pop.writeT (o' := .lst (acc ++ [z.toD])) (ob := .lst (ws ++ [u])) ⟨_, upd_same, rw'.app (.cons S7.top .nil)⟩
      have S9 := S8.wipe hv
      rw [hw'] at S9
      exact ⟨ws, ep, by rw [rw'.len]; exact hz, hlt, δ6, _, ⟨_, _, S9⟩, q6⟩
  · have e : i = items.length := by omega
    subst e
    rw [List.drop_length] at q2
    refine .inl ⟨sv.stop _ F2 H2 S3.fh src2 (Nat.le_refl _), k _ _ _ _ q2 ?_⟩
    obtain ⟨ow4, S4⟩ := (S3.unwipe hv).down
    obtain ⟨ow5, S5⟩ := S4.down
    exact ⟨F2, ow5, S5⟩
theorem pd_lcX {elt tg iter : Expr} {ifs : List Expr} {scope : Scope} {own : List (Str × Nat)} {pos : Pos} {ti : TDI} {g : TDG} {tt : TDT} {te : TD} (hst : X.stack = X.env :: X.outer) (hfm : X.env.frame = some X.env.locals) (tk : Takes X W) (hc : X.calm = true) (hN : X.N.Nodup) (hi : PI X tg iter (LI X.K c W ti)) (ok : BlkOk X.N X.env.scope scope own)
    (hg : ∀ (s : Shared) (H : Hp) (C : Addr) (cl : List (Str × Addr)) (fp : List Addr) (xe : Value → Shared → Prop), PG (X.blkX s H scope (compEnvC scope cl C X.env) fp xe) tg (LG X.K c (own.map (·.2)) g))
    (ht : ∀ (W' : WX) (s : Shared) (H : Hp) (C : Addr) (cl : List (Str × Addr)) (fp : List Addr) (xe : Value → Shared → Prop), Takes (X.blkX s H scope (compEnvC scope cl C X.env) fp xe) W' → PTs (X.blkX s H scope (compEnvC scope cl C X.env) fp xe) ifs (LT X.K c W' tt))
    (he : ∀ (W' : WX) (s : Shared) (H : Hp) (C : Addr) (cl : List (Str × Addr)) (fp : List Addr) (xe : Value → Shared → Prop), Takes (X.blkX s H scope (compEnvC scope cl C X.env) fp xe) W' → PE (X.blkX s H scope (compEnvC scope cl C X.env) fp xe) elt (LE X.K c W' te))
    (hv : ∀ i ∈ own.map (·.2), i ∉ c.sl) (hs : ∀ x, foldedSetIterable iter X.env x = pure x := by intro _; rfl) :
    PE X (.ListComp elt [⟨tg, iter, ifs, 0⟩] scope pos) (LE X.K c W (compXD ti g tt te (own.map (·.2)))) :=
  PE_imp (pe_lcX (tt := fun W' => LT X.K c W' tt) (te := fun W' => LE X.K c W' te) hst hfm tk hc hN hi ok hg ht he hs) (lift_compX hv)
theorem psd_setLcX {i : Nat} {o : Bool} {y : Str} {py : Pos} {elt tg iter : Expr} {ifs : List Expr} {scope : Scope} {own : List (Str × Nat)} {pos spos : Pos} {ti : TDI} {g : TDG} {tt : TDT} {te : TD} (ni : i ∉ c.sl) (hst : X.stack = X.env :: X.outer) (hfm : X.env.frame = some X.env.locals) (tk : Takes X W) (hc : X.calm = true) (hN : X.N.Nodup) (hy : X.N[i]? = some y) (hyl : X.env.scope.names.lookup y = some .local)
    (hsw : swapsWith (.ListComp elt [⟨tg, iter, ifs, 0⟩] scope pos) (some (.Name y py)) spos.line X.env = pure true) (hi : PI X tg iter (LI X.K c W ti)) (ok : BlkOk X.N X.env.scope scope own)
    (hg : ∀ (s : Shared) (H : Hp) (C : Addr) (cl : List (Str × Addr)) (fp : List Addr) (xe : Value → Shared → Prop), PG (X.blkX s H scope (compEnvC scope cl C X.env) fp xe) tg (LG X.K c (own.map (·.2)) g))
    (ht : ∀ (W' : WX) (s : Shared) (H : Hp) (C : Addr) (cl : List (Str × Addr)) (fp : List Addr) (xe : Value → Shared → Prop), Takes (X.blkX s H scope (compEnvC scope cl C X.env) fp xe) W' → PTs (X.blkX s H scope (compEnvC scope cl C X.env) fp xe) ifs (LT X.K c W' tt))
    (he : ∀ (W' : WX) (s : Shared) (H : Hp) (C : Addr) (cl : List (Str × Addr)) (fp : List Addr) (xe : Value → Shared → Prop), Takes (X.blkX s H scope (compEnvC scope cl C X.env) fp xe) W' → PE (X.blkX s H scope (compEnvC scope cl C X.env) fp xe) elt (LE X.K c W' te))
    (hv : ∀ i ∈ own.map (·.2), i ∉ c.sl) (hs : ∀ x, foldedSetIterable iter X.env x = pure x := by intro _; rfl) :
    PS X (.Assign [.Name y py] (.ListComp elt [⟨tg, iter, ifs, 0⟩] scope pos) spos) (LS X.K c W (setLcD i o (compXD ti g tt te (own.map (·.2))))) :=
  PS_imp (ps_setLcX (i := i) (tt := fun W' => LT X.K c W' tt) (te := fun W' => LE X.K c W' te) hst hfm tk hc hN hy hyl hsw hi ok hg ht he hs) fun D σ H ⟨δ, tmp, Dd, S, q, k, kr, kb, kc, w⟩ => by
    show tLcX _ _ _ _ _ _ σ H fun x H1 => gName i x σ H1 D.nx
    refine lift_compX hv _ _ _ ⟨δ, tmp, _, _, S, q, fun v x δ' H' q' ⟨F, ow, S'⟩ => ?_, w⟩
    obtain ⟨F', S2⟩ := S'.top_as o
    exact k _ _ _ q' (S2.set' ni)
end
end DL
namespace DR
open PySem PySem.Spec PyProof.Rows L2 DL
theorem compX {δ : DSt} {Q : DK} {E : XD} {ti : TDI} {g : TDG} {tt : TDT} {te : TD} {vs : List Nat} (h : ti δ (fun xs δ1 => lcXD g tt te vs (fun x _ => E x (outX δ1)) xs [] (wipeD δ1 vs) fun acc δ2 => Q (.own (.lst acc)) δ2) E) : compXD ti g tt te vs δ Q E := h
/-- by what stays true -/
theorem lcX_inv {g : TDG} {tt : TDT} {te : TD} {vs : List Nat} {xs : List DL.D} {δ : DSt} {Q : List DL.D → DSt → Prop} {E : XD} (J : Nat → List DL.D → DSt → Prop) (h0 : J 0 [] δ)
    (hs : ∀ i x acc δ (N : List DL.D → DSt → Prop), xs[i]? = some x → J i acc δ → (∀ acc' δ', J (i + 1) acc' δ' → N acc' δ') →
      g x δ (fun δ1 => tt δ1 (fun b δ2 => if b = true then te δ2 (fun y δ3 => acc.length < sizeLine ∧ N (acc ++ [y.toD]) (wipeD δ3 vs)) E else N acc (wipeD δ2 vs)) E))
    (hn : ∀ acc δ, J xs.length acc δ → Q acc δ) : lcXD g tt te vs E xs [] δ Q := by
  have go : ∀ (m i : Nat) acc δ, i + m = xs.length → J i acc δ → lcXD g tt te vs E (xs.drop i) acc δ Q := fun m => by
    induction m with
    | zero =>
      intro i acc δ e h
      have e : i = xs.length := e
      subst e
      rw [List.drop_length]
      exact hn acc δ h
    | succ m ih =>
      intro i acc δ e h
      have hl : i < xs.length := by omega
      rw [List.drop_eq_getElem_cons hl]
      exact hs i _ acc δ (fun a d => lcXD g tt te vs E (xs.drop (i + 1)) a d Q) (List.getElem?_eq_getElem hl) h fun acc' δ' h' => ih (i + 1) acc' δ' (by omega) h'
  exact go xs.length 0 [] δ (Nat.zero_add _) h0
/-- the first item is the last: its turn raises -/
theorem lcX_cons {g : TDG} {tt : TDT} {te : TD} {vs : List Nat} {x : DL.D} {xs acc : List DL.D} {δ : DSt} {Q : List DL.D → DSt → Prop} {E : XD}
    (h : ∀ N : List DL.D → DSt → Prop, g x δ (fun δ1 => tt δ1 (fun b δ2 => if b = true then te δ2 (fun y δ3 => acc.length < sizeLine ∧ N (acc ++ [y.toD]) (wipeD δ3 vs)) E else N acc (wipeD δ2 vs)) E)) : lcXD g tt te vs E (x :: xs) acc δ Q :=
  h fun a d => lcXD g tt te vs E xs a d Q
/-- the items stand for others; each gives one, or the body raises and nothing of it is asked further -/
theorem lcX_mapM {α : Type} {g : TDG} {tt : TDT} {te : TD} {vs : List Nat} {l : List α} {r : α → DL.D} {δ : DSt} {Q : List DL.D → DSt → Prop} {E : XD} (f : α → DL.D)
    (hs : ∀ x (acc : List DL.D) (N : List DL.D → DSt → Prop), x ∈ l → acc.length < l.length → N (acc ++ [f x]) δ →
      g (r x) δ (fun δ1 => tt δ1 (fun b δ2 => if b = true then te δ2 (fun y δ3 => acc.length < sizeLine ∧ N (acc ++ [y.toD]) (wipeD δ3 vs)) E else N acc (wipeD δ2 vs)) E))
    (hn : Q (l.map f) δ) : lcXD g tt te vs E (l.map r) [] δ Q := by
  refine lcX_inv (fun i acc δ' => δ' = δ ∧ acc = (l.take i).map f) ⟨rfl, by rw [List.take_zero]; rfl⟩ (fun i x acc δ' N hx ⟨e1, e2⟩ k => ?_) fun acc δ' ⟨e1, e2⟩ => by subst e1; rw [e2, List.length_map, List.take_length]; exact hn
  subst e1
  obtain ⟨x, hy, rfl⟩ := map_at hx
  have hl := at_lt hy
  refine hs x acc N (List.mem_of_getElem? hy) (by rw [e2, List.length_map, List.length_take]; omega) (k _ _ ⟨rfl, ?_⟩)
  rw [List.take_succ, hy, List.map_append, ← e2]
  rfl
end DR

set_option Elab.async false
set_option linter.all false
set_option maxRecDepth 100000
/-! zip of two, each a list or a tuple, of one length -/
namespace Z2
open PySem
open PySem.Sem (wp)
def It (b : Bool) (h : Heap) (it l : Addr) (i : Nat) : Prop := if b = true then h.IsTupleIter it l i else h.IsListIter it l i
def Sq (b : Bool) (h : Heap) (l : Addr) (xs : Array Value) : Prop := if b = true then h.IsTuple l xs else h.IsList l xs
theorem keepI {b : Bool} {h h2 : Heap} {it l : Addr} {i : Nat} (z : It b h it l i) (k : ∀ o, h.get? it = some o → h2.get? it = some o) : It b h2 it l i := by
  cases b with
  | false => obtain ⟨o, a, r⟩ := (show h.IsListIter it l i from z); exact (show h2.IsListIter it l i from ⟨o, k o a, r⟩)
  | true => obtain ⟨o, a, r⟩ := (show h.IsTupleIter it l i from z); exact (show h2.IsTupleIter it l i from ⟨o, k o a, r⟩)
theorem keepL {b : Bool} {h h2 : Heap} {l : Addr} {xs : Array Value} (z : Sq b h l xs) (k : ∀ o, h.get? l = some o → h2.get? l = some o) : Sq b h2 l xs := by
  cases b with
  | false => obtain ⟨o, a, r⟩ := (show h.IsList l xs from z); exact (show h2.IsList l xs from ⟨o, k o a, r⟩)
  | true => obtain ⟨o, a, r⟩ := (show h.IsTuple l xs from z); exact (show h2.IsTuple l xs from ⟨o, k o a, r⟩)
theorem It.there {b : Bool} {h : Heap} {it l : Addr} {i : Nat} (z : It b h it l i) : ∃ o, h.get? it = some o ∧ ∀ v, o.data ≠ .cell v := by
  cases b with
  | false => obtain ⟨o, a, c, d⟩ := (show h.IsListIter it l i from z); exact ⟨o, a, fun v q => by rw [d] at q; cases q⟩
  | true => obtain ⟨o, a, c, d⟩ := (show h.IsTupleIter it l i from z); exact ⟨o, a, fun v q => by rw [d] at q; cases q⟩
section
variable {prog : Program} {w : World} {A : Around} {E : Value → Shared → Prop} {s : Shared} {p q : Bool}
theorem nextOf_item {it l : Addr} {i : Nat} {xs : Array Value} {x : Value} {Q : Value → Shared → Prop} (h1 : It p s.heap it l i) (h2 : Sq p s.heap l xs) (hx : xs[i]? = some x)
    (hQ : ∀ k, It p k it l (i + 1) → Heap.SameBut it s.heap k → Q x { s with heap := k }) : wpAny (model prog w) A (Builtin.SmallTypes.nextOf (.ref it)) Q E s := by
  cases p with
  | false => exact wpAny_nextOf_list_item (show s.heap.IsListIter it l i from h1) (show s.heap.IsList l xs from h2) hx fun k a b => hQ k (show k.IsListIter it l (i + 1) from a) b
  | true => exact RZ.nextOf_tuple_item (show s.heap.IsTupleIter it l i from h1) (show s.heap.IsTuple l xs from h2) hx fun k a b => hQ k (show k.IsTupleIter it l (i + 1) from a) b
theorem nextOf_end {it l : Addr} {i : Nat} {xs : Array Value} {Q : Value → Shared → Prop} (hh : A.handled = none) (h1 : It p s.heap it l i) (h2 : Sq p s.heap l xs) (hx : xs[i]? = none)
    (hE : ∀ k e, Heap.ExtBut it s.heap k → (∃ o, k.get? e = some o ∧ o.cls = .type "StopIteration") → E (.ref e) { s with heap := k }) : wpAny (model prog w) A (Builtin.SmallTypes.nextOf (.ref it)) Q E s := by
  cases p with
  | false => exact wpAny_nextOf_list_end hh (show s.heap.IsListIter it l i from h1) (show s.heap.IsList l xs from h2) hx hE
  | true => exact RZ.nextOf_tuple_end hh (show s.heap.IsTupleIter it l i from h1) (show s.heap.IsTuple l xs from h2) hx hE
abbrev Duo (h : Heap) (T : Addr) (a b : Value) : Prop := h.get? T = some { cls := .type "tuple", data := .seq #[a, b] }
theorem put {T : Addr} {a b x : Value} {k : Nat} {Q : Unit → Shared → Prop} (hT : Duo s.heap T a b) (h : ∀ h2, h2.get? T = some { cls := .type "tuple", data := .seq ((#[a, b] : Array Value).setIfInBounds k x) } → Heap.SameBut T s.heap h2 → Q () { s with heap := h2 }) :
    wpAny (model prog w) A (updateSeq T (·.setIfInBounds k x)) Q E s := by
  refine wpAny_updateSeq hT rfl (h _ ?_ (Heap.SameBut.update ..))
  rw [Heap.get?_update_self _ hT rfl]
  simp [Obj.mapSeq]
variable {n l1 l2 : Nat} {i : Nat} {xs ys : Array Value} {x y a b : Value}
theorem next_item {Q : Value → Shared → Prop} (g1 : l1 < n) (g2 : l2 < n) (hz : IsZip s.heap (n + 4) (n + 2) (n + 3) .none) (hI : Duo s.heap (n + 2) (.ref n) (.ref (n + 1))) (hO : Duo s.heap (n + 3) a b)
    (h1 : It p s.heap n l1 i) (h2 : It q s.heap (n + 1) l2 i) (q1 : Sq p s.heap l1 xs) (q2 : Sq q s.heap l2 ys) (e1 : xs[i]? = some x) (e2 : ys[i]? = some y)
    (hQ : ∀ k, IsZip k (n + 4) (n + 2) (n + 3) (rawInt s.heap.objs.size) → Duo k (n + 3) x y → It p k n l1 (i + 1) → It q k (n + 1) l2 (i + 1) → Duo k s.heap.objs.size x y → k.objs.size = s.heap.objs.size + 1 →
      (∀ d o, d ≠ n + 4 → d ≠ n + 3 → d ≠ n → d ≠ n + 1 → s.heap.get? d = some o → k.get? d = some o) → Q (.ref s.heap.objs.size) { s with heap := k }) :
    wpAny (model prog w) A (Builtin.«zip.__next__» ⟨[.ref (n + 4)], []⟩) (fun fin t => ∃ v, fin = .done (.ret v) ∧ Q v t) E s := by
  show wpAny _ _ (field (.ref (n + 4)) 2 >>= _) _ _ s
  refine wpAny_bind (wpAny_field hz rfl (x := .bool false) rfl ?_)
  show wpAny _ _ (field (.ref (n + 4)) 3 >>= _) _ _ s
  refine wpAny_bind (wpAny_field hz rfl (x := .ref (n + 2)) rfl (wpAny_bind (wpAny_seqItems hI rfl ?_)))
  show wpAny _ _ (Builtin.SmallTypes.ownedTupleIsFree (.ref (n + 4)) >>= _) _ _ s
  refine wpAny_bind ?_
  unfold Builtin.SmallTypes.ownedTupleIsFree
  refine wpAny_bind (wpAny_field hz rfl (x := .none) rfl (wpAny_pure ?_))
  simp only [if_true]
  refine wpAny_bind (wpAny_rule (wpAny_bind (wpAny_field hz rfl (x := .ref (n + 3)) rfl (wpAny_bind (wpAny_setField_rec hz (by simp) fun k1 z1 sb1 => ?_)))))
  have z1 : IsZip k1 (n + 4) (n + 2) (n + 3) .ellipsis := z1
  refine wpAny_bind ?_
  simp only [List.zipIdx_cons, List.zipIdx_nil, List.forIn_cons, List.forIn_nil]
  -- the first
  refine wpAny_bind (wpAny_bind (wpAny_onRaise ?_))
  show wpAny _ _ (Builtin.SmallTypes.nextOf (.ref n) >>= _) _ _ _
  refine wpAny_bind (nextOf_item (keepI h1 fun o q => (sb1.2 n (by change @Ne Nat _ _; omega)).trans q) (keepL q1 fun o q => (sb1.2 l1 (by change @Ne Nat _ _; omega)).trans q) e1 fun k2 i1 sb2 => wpAny_pure ?_)
  have O2 : Duo k2 (n + 3) a b := (sb2.2 (n + 3) (by change @Ne Nat _ _; omega)).trans ((sb1.2 (n + 3) (by change @Ne Nat _ _; omega)).trans hO)
  refine wpAny_bind (wpAny_seqItems O2 rfl (wpAny_bind (put O2 fun k3 O3 sb3 => wpAny_bind (wpAny_letGo (wpAny_pure ?_)))))
  have O3 : Duo k3 (n + 3) x b := O3
  -- the second
  refine wpAny_bind (wpAny_bind (wpAny_onRaise ?_))
  show wpAny _ _ (Builtin.SmallTypes.nextOf (.ref (n + 1)) >>= _) _ _ _
  have up3 : ∀ d o, d ≠ n + 4 → d ≠ n + 3 → d ≠ n → s.heap.get? d = some o → k3.get? d = some o := fun d o d1 d2 d3 q => (sb3.2 d d2).trans ((sb2.2 d d3).trans ((sb1.2 d d1).trans q))
  refine wpAny_bind (nextOf_item (keepI h2 fun o q => up3 _ o (by change @Ne Nat _ _; omega) (by change @Ne Nat _ _; omega) (by change @Ne Nat _ _; omega) q) (keepL q2 fun o q => up3 _ o (by change @Ne Nat _ _; omega) (by change @Ne Nat _ _; omega) (by change @Ne Nat _ _; omega) q) e2 fun k4 i2 sb4 => wpAny_pure ?_)
  have O4 : Duo k4 (n + 3) x b := (sb4.2 (n + 3) (by change @Ne Nat _ _; omega)).trans O3
  refine wpAny_bind (wpAny_seqItems O4 rfl (wpAny_bind (put O4 fun k7 O7 sb7 => wpAny_bind (wpAny_letGo (wpAny_pure (wpAny_pure ?_))))))
  have O7 : Duo k7 (n + 3) x y := O7
  -- the new tuple
  refine wpAny_bind (wpAny_seqItems O7 rfl (wpAny_bind (wpAny_newTuple ?_)))
  have sz : k7.objs.size = s.heap.objs.size := by rw [sb7.1, sb4.1, sb3.1, sb2.1, sb1.1]
  have up7 : ∀ d o, d ≠ n + 4 → d ≠ n + 3 → d ≠ n → d ≠ n + 1 → s.heap.get? d = some o → k7.get? d = some o := fun d o d1 d2 d3 d4 q => (sb7.2 d d2).trans ((sb4.2 d d4).trans (up3 d o d1 d2 d3 q))
  have z7 : IsZip k7 (n + 4) (n + 2) (n + 3) .ellipsis := (sb7.2 (n + 4) (by change @Ne Nat _ _; omega)).trans ((sb4.2 (n + 4) (by change @Ne Nat _ _; omega)).trans ((sb3.2 (n + 4) (by change @Ne Nat _ _; omega)).trans ((sb2.2 (n + 4) (by change @Ne Nat _ _; omega)).trans z1)))
  have j1 : It p k7 n l1 (i + 1) := keepI i1 fun o q => (sb7.2 n (by change @Ne Nat _ _; omega)).trans ((sb4.2 n (by change @Ne Nat _ _; omega)).trans ((sb3.2 n (by change @Ne Nat _ _; omega)).trans q))
  have j2 : It q k7 (n + 1) l2 (i + 1) := keepI i2 fun o q => (sb7.2 (n + 1) (by change @Ne Nat _ _; omega)).trans q
  have zl : n + 4 < k7.objs.size := Heap.lt_size z7
  show wpAny _ _ (Builtin.SmallTypes.ownedTupleHandOut (.ref (n + 4)) (.ref k7.objs.size) >>= _) _ _ _
  refine wpAny_bind ?_
  unfold Builtin.SmallTypes.ownedTupleHandOut
  have z8 : IsZip (k7.push { cls := .type "tuple", data := .seq #[x, y] }) (n + 4) (n + 2) (n + 3) .ellipsis := Heap.get?_push_of_some _ z7
  refine wpAny_bind (wpAny_setField_rec z8 (by simp) fun k8 z9 sb8 => ?_)
  have z9 : IsZip k8 (n + 4) (n + 2) (n + 3) (rawInt k7.objs.size) := z9
  refine wpAny_setField_rec z9 (by simp) fun k9 z10 sb9 => wpAny_pure ⟨_, rfl, ?_⟩
  have z10 : IsZip k9 (n + 4) (n + 2) (n + 3) (rawInt k7.objs.size) := z10
  have up : ∀ d o, d ≠ n + 4 → k7.get? d = some o → k9.get? d = some o := fun d o d1 q => (sb9.2 d d1).trans ((sb8.2 d d1).trans (Heap.get?_push_of_some _ q))
  have T9 : Duo k9 k7.objs.size x y := (sb9.2 _ (Nat.ne_of_gt zl)).trans ((sb8.2 _ (Nat.ne_of_gt zl)).trans (Heap.get?_push_size _ rfl))
  have s9 : k9.objs.size = k7.objs.size + 1 := by rw [sb9.1, sb8.1, Heap.size_push]
  show Q (.ref k7.objs.size) _
  rw [sz] at z10 T9 s9 ⊢
  exact hQ k9 z10 (up _ _ (by change @Ne Nat _ _; omega) O7) (keepI j1 fun o q => up _ o (by change @Ne Nat _ _; omega) q) (keepI j2 fun o q => up _ o (by change @Ne Nat _ _; omega) q) T9 s9 fun d o d1 d2 d3 d4 q => up d o d1 (up7 d o d1 d2 d3 d4 q)
theorem next_end {Q : Fin → Shared → Prop} (hh : A.handled = none) (g1 : l1 < n) (hz : IsZip s.heap (n + 4) (n + 2) (n + 3) .none) (hI : Duo s.heap (n + 2) (.ref n) (.ref (n + 1))) (h1 : It p s.heap n l1 i) (q1 : Sq p s.heap l1 xs) (e1 : xs[i]? = none)
    (hE : ∀ k e, (∀ d o, d ≠ n + 4 → d ≠ n → s.heap.get? d = some o → k.get? d = some o) → (∃ o, k.get? e = some o ∧ o.cls = .type "StopIteration") → E (.ref e) { s with heap := k }) :
    wpAny (model prog w) A (Builtin.«zip.__next__» ⟨[.ref (n + 4)], []⟩) Q E s := by
  show wpAny _ _ (field (.ref (n + 4)) 2 >>= _) _ _ s
  refine wpAny_bind (wpAny_field hz rfl (x := .bool false) rfl ?_)
  show wpAny _ _ (field (.ref (n + 4)) 3 >>= _) _ _ s
  refine wpAny_bind (wpAny_field hz rfl (x := .ref (n + 2)) rfl (wpAny_bind (wpAny_seqItems hI rfl ?_)))
  show wpAny _ _ (Builtin.SmallTypes.ownedTupleIsFree (.ref (n + 4)) >>= _) _ _ s
  refine wpAny_bind ?_
  unfold Builtin.SmallTypes.ownedTupleIsFree
  refine wpAny_bind (wpAny_field hz rfl (x := .none) rfl (wpAny_pure ?_))
  simp only [if_true]
  refine wpAny_bind (wpAny_rule (wpAny_bind (wpAny_field hz rfl (x := .ref (n + 3)) rfl (wpAny_bind (wpAny_setField_rec hz (by simp) fun k1 z1 sb1 => ?_)))))
  have z1 : IsZip k1 (n + 4) (n + 2) (n + 3) .ellipsis := z1
  refine wpAny_bind ?_
  simp only [List.zipIdx_cons, List.zipIdx_nil, List.forIn_cons, List.forIn_nil]
  refine wpAny_bind (wpAny_bind (wpAny_onRaise ?_))
  show wpAny _ _ (Builtin.SmallTypes.nextOf (.ref n) >>= _) _ _ _
  refine wpAny_bind (nextOf_end hh (keepI h1 fun o q => (sb1.2 n (by change @Ne Nat _ _; omega)).trans q) (keepL q1 fun o q => (sb1.2 l1 (by change @Ne Nat _ _; omega)).trans q) e1 fun k2 e sb2 ⟨oe, hoe, hc⟩ => ?_)
  have z2 : IsZip k2 (n + 4) (n + 2) (n + 3) .ellipsis := sb2 _ _ (by change @Ne Nat _ _; omega) z1
  have ne : e ≠ n + 4 := fun x => by subst x; rw [z2] at hoe; cases hoe; simp at hc
  exact wpAny_setField_rec z2 (by simp) fun k3 _ sb3 => hE k3 e (fun d o d1 d2 q => (sb3.2 d d1).trans (sb2 _ _ d2 ((sb1.2 d d1).trans q))) ⟨oe, (sb3.2 e ne).trans hoe, hc⟩
theorem pyNext_item {Q : Option Value → Shared → Prop} (g1 : l1 < n) (g2 : l2 < n) (hz : IsZip s.heap (n + 4) (n + 2) (n + 3) .none) (hI : Duo s.heap (n + 2) (.ref n) (.ref (n + 1))) (hO : Duo s.heap (n + 3) a b)
    (h1 : It p s.heap n l1 i) (h2 : It q s.heap (n + 1) l2 i) (q1 : Sq p s.heap l1 xs) (q2 : Sq q s.heap l2 ys) (e1 : xs[i]? = some x) (e2 : ys[i]? = some y)
    (hQ : ∀ k, IsZip k (n + 4) (n + 2) (n + 3) (rawInt s.heap.objs.size) → Duo k (n + 3) x y → It p k n l1 (i + 1) → It q k (n + 1) l2 (i + 1) → Duo k s.heap.objs.size x y → k.objs.size = s.heap.objs.size + 1 →
      (∀ d o, d ≠ n + 4 → d ≠ n + 3 → d ≠ n → d ≠ n + 1 → s.heap.get? d = some o → k.get? d = some o) → Q (some (.ref s.heap.objs.size)) { s with heap := k }) : wpAny (model prog w) A (pyNext (.ref (n + 4))) Q E s := by
  have ty : s.TypeIs (.ref (n + 4)) "zip" := ⟨_, hz, rfl⟩
  unfold pyNext
  refine wpAny_bind (wpAny_attempt (wpAny_callSpecial?_slot (name := Str.ofString "__next__") ty F.slot_zip_next (wpAny_call_entry F.slot_zip_next ty F.entry_zip_next ?_ (F.args_zip_next_1 _))))
  exact next_item g1 g2 hz hI hO h1 h2 q1 q2 e1 e2 fun k a1 a2 a3 a4 a5 a6 a7 => wpAny_pure (hQ k a1 a2 a3 a4 a5 a6 a7)
theorem pyNext_end {Q : Option Value → Shared → Prop} (hh : A.handled = none) (g1 : l1 < n) (hz : IsZip s.heap (n + 4) (n + 2) (n + 3) .none) (hI : Duo s.heap (n + 2) (.ref n) (.ref (n + 1))) (h1 : It p s.heap n l1 i) (q1 : Sq p s.heap l1 xs) (e1 : xs[i]? = none)
    (hQ : ∀ k, (∀ d o, d ≠ n + 4 → d ≠ n → s.heap.get? d = some o → k.get? d = some o) → Q none { s with heap := k }) : wpAny (model prog w) A (pyNext (.ref (n + 4))) Q E s := by
  have ty : s.TypeIs (.ref (n + 4)) "zip" := ⟨_, hz, rfl⟩
  unfold pyNext
  refine wpAny_bind (wpAny_attempt (wpAny_callSpecial?_slot (name := Str.ofString "__next__") ty F.slot_zip_next (wpAny_call_entry F.slot_zip_next ty F.entry_zip_next (next_end hh g1 hz hI h1 q1 e1 fun k e hk ⟨o, ho, hc⟩ => ?_) (F.args_zip_next_1 _))))
  exact wpAny_bind (wpAny_isInstance (T := "StopIteration") (b := true) ⟨o, ho, hc⟩ isSubtype_stop (wpAny_pure (hQ _ hk)))
end
/-! ### making one -/
abbrev lit (p : Bool) (l : Addr) : Obj := { cls := .type (if p = true then "tuple_iterator" else "list_iterator"), data := .fields #[.ref l, .int 0 0] }
abbrev K1 (h : Heap) (p : Bool) (l1 : Addr) : Heap := h.push (lit p l1)
abbrev K2 (h : Heap) (p q : Bool) (l1 l2 : Addr) : Heap := (K1 h p l1).push (lit q l2)
abbrev K3 (h : Heap) (p q : Bool) (l1 l2 : Addr) : Heap := (K2 h p q l1 l2).push { cls := .type "tuple", data := .seq #[.ref h.objs.size, .ref (K1 h p l1).objs.size] }
abbrev K4 (h : Heap) (p q : Bool) (l1 l2 : Addr) : Heap := (K3 h p q l1 l2).push { cls := .type "tuple", data := .seq #[.none, .none] }
abbrev K5 (h : Heap) (p q : Bool) (l1 l2 : Addr) : Heap := (K4 h p q l1 l2).push { cls := .type "zip", data := .fields #[.none, .bool false, .bool false, .ref (K2 h p q l1 l2).objs.size, .ref (K3 h p q l1 l2).objs.size] }
set_option maxHeartbeats 1000000 in
theorem meets_new (l1 l2 : Addr) (xs ys : Array Value) (p q : Bool) (hpq : p ≠ q) : Meets (Builtin.«zip.__new__» ⟨[.type "zip", .ref l1, .ref l2], []⟩) (fun _ R s => Sq p s.heap l1 xs ∧ Sq q s.heap l2 ys ∧
      R (.ok (.ret (.ref (K4 s.heap p q l1 l2).objs.size))) { s with heap := K5 s.heap p q l1 l2 }) :=
  .of_wp fun prog w A R s h => by
    obtain ⟨hp, g, d, tk, os⟩ := s
    obtain ⟨a1, a2, h⟩ := h
    have hsub := sub_zip
    have b2' : Sq q (Shared.heap ⟨hp.push (lit p l1), g, d, tk, os⟩) l2 ys := keepL a2 fun o e => Heap.get?_push_of_some _ e
    cases p with
    | false =>
      have b1 : Heap.IsList (Shared.heap ⟨hp, g, d, tk, os⟩) l1 xs := a1
      cases q with
      | false => exact absurd rfl hpq
      | true =>
        have b2 : Heap.IsTuple (Shared.heap ⟨hp.push { cls := .type "list_iterator", data := .fields #[.ref l1, .int 0 0] }, g, d, tk, os⟩) l2 ys := b2'
        wp_walk using wpAny_pyIter_list b1, wpAny_pyIter_tuple b2
        exact ⟨_, rfl, h⟩
    | true =>
      have b1 : Heap.IsTuple (Shared.heap ⟨hp, g, d, tk, os⟩) l1 xs := a1
      cases q with
      | false =>
        have b2 : Heap.IsList (Shared.heap ⟨hp.push { cls := .type "tuple_iterator", data := .fields #[.ref l1, .int 0 0] }, g, d, tk, os⟩) l2 ys := b2'
        wp_walk using wpAny_pyIter_tuple b1, wpAny_pyIter_list b2
        exact ⟨_, rfl, h⟩
      | true => exact absurd rfl hpq
theorem call_new {prog : Program} {w : World} {A : Around} {E : Value → Shared → Prop} {s : Shared} {l1 l2 : Addr} {xs ys : Array Value} {p q : Bool} (hpq : p ≠ q) {Q : Value → Shared → Prop} (a1 : Sq p s.heap l1 xs) (a2 : Sq q s.heap l2 ys)
    (h : ∀ k, IsZip k (s.heap.objs.size + 4) (s.heap.objs.size + 2) (s.heap.objs.size + 3) .none → Duo k (s.heap.objs.size + 2) (.ref s.heap.objs.size) (.ref (s.heap.objs.size + 1)) → Duo k (s.heap.objs.size + 3) .none .none →
      It p k s.heap.objs.size l1 0 → It q k (s.heap.objs.size + 1) l2 0 → (∀ d o, s.heap.get? d = some o → k.get? d = some o) → Q (.ref (s.heap.objs.size + 4)) { s with heap := k }) :
    wpAny (model prog w) A (call (.type "zip") [.ref l1, .ref l2]) Q E s := by
  refine callType_new F.called_zip (by decide) (F.typeCall_zip_2 _ _) (F.newCall_zip_2 _ _) (fun obj => F.args_object_init_3 obj _ _) F.entry_zip_new (meets_new l1 l2 xs ys p q hpq) ⟨a1, a2, ?_⟩
  have z1 : (K1 s.heap p l1).objs.size = s.heap.objs.size + 1 := Heap.size_push ..
  have z2 : (K2 s.heap p q l1 l2).objs.size = s.heap.objs.size + 2 := by rw [Heap.size_push, z1]
  have z3 : (K3 s.heap p q l1 l2).objs.size = s.heap.objs.size + 3 := by rw [Heap.size_push, z2]
  have z4 : (K4 s.heap p q l1 l2).objs.size = s.heap.objs.size + 4 := by rw [Heap.size_push, z3]
  have at5 : (K5 s.heap p q l1 l2).get? (K4 s.heap p q l1 l2).objs.size = some _ := Heap.get?_push_size _ rfl
  have at4 : (K5 s.heap p q l1 l2).get? (K3 s.heap p q l1 l2).objs.size = some _ := Heap.get?_push_of_some _ (Heap.get?_push_size _ rfl)
  have at3 : (K5 s.heap p q l1 l2).get? (K2 s.heap p q l1 l2).objs.size = some _ := Heap.get?_push_of_some _ (Heap.get?_push_of_some _ (Heap.get?_push_size _ rfl))
  have up2 : ∀ d o, (K2 s.heap p q l1 l2).get? d = some o → (K5 s.heap p q l1 l2).get? d = some o := fun d o q => Heap.get?_push_of_some _ (Heap.get?_push_of_some _ (Heap.get?_push_of_some _ q))
  have at2 : (K5 s.heap p q l1 l2).get? (K1 s.heap p l1).objs.size = some _ := up2 _ _ (Heap.get?_push_size _ rfl)
  have at1 : (K5 s.heap p q l1 l2).get? s.heap.objs.size = some _ := up2 _ _ (Heap.get?_push_of_some _ (Heap.get?_push_size _ rfl))
  show _ ∧ _
  rw [z2, z3, z4] at at5
  rw [z3] at at4
  rw [z1, z2] at at3
  rw [z1] at at2
  rw [z4]
  have mk : ∀ (p : Bool) (it l : Addr) (k : Heap), k.get? it = some (lit p l) → It p k it l 0 := fun p it l k e => by
    cases p with
    | false => exact (show k.IsListIter it l 0 from ⟨_, e, rfl, rfl⟩)
    | true => exact (show k.IsTupleIter it l 0 from ⟨_, e, rfl, rfl⟩)
  exact ⟨⟨_, at5, rfl⟩, h _ at5 at3 at4 (mk p _ _ _ at1) (mk q _ _ _ at2) fun d o q => up2 d o (Heap.get?_push_of_some _ (Heap.get?_push_of_some _ q))⟩
end Z2
namespace DL
open PySem PySem.Spec PyProof.Rows L2
def SqB (b : Bool) (K : PySem.W.Frag) (G : Hp) (a : Addr) (xs : List V) : Prop := if b = true then SqT K G a xs else SqL K G a xs
theorem sq_of {X : Cx} {pins : List (Addr × Obj)} {σ : L2.St} {G : Hp} {s : Shared} {b : Bool} {a : Addr} {xs : List V} (I : Inv X pins σ G s) (h : SqB b X.K G a xs) : ∃ its, Vals xs its ∧ Z2.Sq b s.heap a its.toArray ∧ ∀ ys, SqB b X.K G a ys → ys = xs := by
  cases b with
  | false =>
    have h : SqL X.K G a xs := h
    obtain ⟨its, r, p, _⟩ := I.list h
    exact ⟨its, r, p.isList, fun ys k => I.list_inj (show SqL X.K G a ys from k) h⟩
  | true =>
    have h : SqT X.K G a xs := h
    obtain ⟨its, r, p, _⟩ := I.tuple h
    exact ⟨its, r, (show s.heap.IsTuple a its.toArray from p), fun ys k => I.tuple_inj (show SqT X.K G a ys from k) h⟩
/-- what stands at a and b (of one length), the items in new pairs -/
def Itz2 (K : PySem.W.Frag) (p q : Bool) (a b : Addr) : It where
  go := fun i G => ∃ (xs ys : List V) (x y : V), SqB p K G a xs ∧ SqB q K G b ys ∧ xs[i]? = some x ∧ ys[i]? = some y
  yld := fun i G v G2 => ∃ T x y, v = .ref T ∧ G T = none ∧ G2 = upd G T (.tup [x, y]) ∧ (∀ xs, SqB p K G a xs → xs[i]? = some x) ∧ ∀ xs, SqB q K G b xs → xs[i]? = some y
  stop := fun i G => ∃ xs : List V, SqB p K G a xs ∧ xs.length ≤ i
theorem mem4 {n d : Nat} (h : d ∈ [n + 4, n + 2, n + 3, n, n + 1]) : d = n + 4 ∨ d = n + 2 ∨ d = n + 3 ∨ d = n ∨ d = n + 1 := by simpa using h
theorem turn_zip2 {P : Program} {w : World} {K : PySem.W.Frag} {elts : List Expr} {kk : Nat} {tpos : Pos} {p q : Bool} {n a b : Nat} (ga : a < n) (gb : b < n) :
    Turn P w K (.Tuple elts kk tpos) (Itz2 K p q a b) [n + 4, n + 2, n + 3, n, n + 1] (n + 4) (fun i h => IsZip h (n + 4) (n + 2) (n + 3) .none ∧ Z2.Duo h (n + 2) (.ref n) (.ref (n + 1)) ∧ (∃ x y, Z2.Duo h (n + 3) x y) ∧ Z2.It p h n a i ∧ Z2.It q h (n + 1) b i) where
  mem := by simp
  obj := fun i h ⟨hz, hI, ⟨x, y, hO⟩, h1, h2⟩ d hd => by
    rcases mem4 hd with z | z | z | z | z <;> rw [z]
    · exact ⟨_, hz, fun v z => nomatch z⟩
    · exact ⟨_, hI, fun v z => nomatch z⟩
    · exact ⟨_, hO, fun v z => nomatch z⟩
    · exact h1.there
    · exact h2.there
  keep := fun i h h2 ⟨hz, hI, ⟨x, y, hO⟩, h1, h3⟩ k => ⟨k _ (by simp) _ hz, k _ (by simp) _ hI, ⟨x, y, k _ (by simp) _ hO⟩, Z2.keepI h1 fun o q => k _ (by simp) o q, Z2.keepI h3 fun o q => k _ (by simp) o q⟩
  item := by
    intro X hP hw hK hc i pins s σ G E I hf ⟨hz, hI, ⟨x0, y0, hO⟩, h1, h2⟩ ⟨xs, ys, x, y, qa, qb, hx, hy⟩
    subst hP hw hK
    obtain ⟨its1, r1, p1, j1⟩ := sq_of I qa
    obtain ⟨its2, r2, p2, j2⟩ := sq_of I qb
    obtain ⟨u1, e1, ru1⟩ := r1.get hx
    obtain ⟨u2, e2, ru2⟩ := r2.get hy
    have zl : n + 4 < s.heap.objs.size := Heap.lt_size hz
    refine Z2.pyNext_item ga gb hz hI hO h1 h2 p1 p2 (x := u1) (y := u2) (by simpa using e1) (by simpa using e2) fun k z2 O2 i1 i2 T2 sz hk => ⟨_, rfl, wpAny_letOwnedTupleGo_zip (s := { s with heap := k }) z2 fun k2 z3 sb => ?_⟩
    have T3 : k2.get? s.heap.objs.size = some { cls := .type "tuple", data := .seq #[u1, u2] } := (sb.2 _ (Nat.ne_of_gt zl)).trans T2
    have new : ObjOk X.prog X.w (upd G s.heap.objs.size (.tup [x, y])) k2 s.heap.objs.size (.tup [x, y]) := ⟨by show 2 ≤ sizeLine; decide, [u1, u2], .cons ru1 (.cons ru2 .nil), ⟨_, T3, rfl, _, rfl⟩⟩
    have J : Inv X pins σ (upd G s.heap.objs.size (.tup [x, y])) { s with heap := k2 } :=
      I.turnedNew (t' := s.toks) (ch := [n + 4, n + 2, n + 3, n, n + 1]) (fun d o hd q => (sb.2 d (fun z => hd (by simp [z]))).trans (hk d o (fun z => hd (by simp [z])) (fun z => hd (by simp [z])) (fun z => hd (by simp [z])) (fun z => hd (by simp [z])) q)) hf (Nat.le_refl _) new
    have ne : ∀ {m : Nat}, m ≠ n + 4 → ∀ {o : Obj}, k.get? m = some o → k2.get? m = some o := fun {m} h {o} q => (sb.2 _ h).trans q
    refine ⟨.ref s.heap.objs.size, _, J, rfl, ⟨_, x, y, rfl, I.hok.fresh (Nat.le_refl _), rfl, fun l hl => by rw [j1 l hl]; exact hx, fun l hl => by rw [j2 l hl]; exact hy⟩,
      ⟨z3, ne (by omega) (hk _ _ (by change @Ne Nat _ _; omega) (by change @Ne Nat _ _; omega) (by change @Ne Nat _ _; omega) (by change @Ne Nat _ _; omega) hI), ⟨u1, u2, ne (by omega) O2⟩, Z2.keepI i1 fun o q => ne (by omega) q, Z2.keepI i2 fun o q => ne (by omega) q⟩, fun d hd => ?_⟩
    have ld : d < s.heap.objs.size := by
      show @LT.lt Nat _ _ _
      rcases mem4 hd with q | q | q | q | q <;> (rw [q]; omega)
    rw [upd_ne (Nat.ne_of_lt ld)]
    exact (hf d hd).1
  done := by
    intro X hP hw hK hc i pins s σ G E I hf ⟨hz, hI, ⟨x0, y0, hO⟩, h1, h2⟩ ⟨xs, qa, hx⟩
    subst hP hw hK
    obtain ⟨its, rv, p, _⟩ := sq_of I qa
    have hl := rv.length
    exact Z2.pyNext_end (I.ok.hd hc) ga hz hI h1 p (by simp; omega) fun k hk => ⟨rfl, I.turnedL (t' := s.toks) (ch := [n + 4, n + 2, n + 3, n, n + 1]) (fun d o hd q => hk d o (fun z => hd (by simp [z])) (fun z => hd (by simp [z])) q) hf⟩
  self := fun A i s Q E st h => wpAny_pyIter_zip st.1 h
def iZip2 (K : PySem.W.Frag) (ta : TA) : TI := fun σ G R => ta σ G fun vs G1 => ∃ p q a b xs ys, p ≠ q ∧ vs = [.ref a, .ref b] ∧ SqB p K G1 a xs ∧ SqB q K G1 b ys ∧ R (Itz2 K p q a b) G1
section
variable {X : Cx} {c : Fc} {W : WX}
theorem sqB_lt {pins : List (Addr × Obj)} {σ : L2.St} {G : Hp} {s : Shared} {b : Bool} {a : Addr} {xs : Array Value} (h : Z2.Sq b s.heap a xs) : a < s.heap.objs.size := by
  cases b with
  | false => obtain ⟨o, e, _⟩ := (show s.heap.IsList a xs from h); exact Heap.lt_size e
  | true => obtain ⟨o, e, _⟩ := (show s.heap.IsTuple a xs from h); exact Heap.lt_size e
theorem pi_zip2 {e e2 : Expr} {ta : TA} {p pos tpos : Pos} {elts : List Expr} {kk : Nat} (hg : Gl X "zip") (hm : X.mg "zip" = none) (ha : PA X [e, e2] ta)
    (hs : starEach [e, e2] X.env = (false, eval e X.env) :: starEach [e2] X.env := by rfl) (hpl : (backTo pos (starEach [e2] X.env)).any (·.1) = false := by rfl) :
    PI X (.Tuple elts kk tpos) (.Call (.Name "zip" p) [e, e2] [] pos) (iZip2 X.K ta) := by
  refine ⟨fun pins s σ G R I h => Call_ (ld_blt I hg hm PyProof.Rows.boot_zip (PyProof.Rows.callWith_type1 (thn (ha.run pos pins s σ G _ I h) fun us s1 ⟨vs, G1, I1, r1, kp, kq, a, b, xs, ys, npq, ex, qa, qb, q⟩ => ?_) hs hpl))⟩
  subst ex
  cases r1 with
  | cons ra rr =>
    obtain ⟨u, rfl, rc⟩ := vals1 rr
    cases ra
    obtain rfl : u = Value.ref b := rc
    obtain ⟨i1, _, p1, _⟩ := sq_of I1 qa
    obtain ⟨i2, _, p2, _⟩ := sq_of I1 qb
    refine Z2.call_new npq p1 p2 fun k hz hI hO h1 h2 hk => wpAny_pyIter_zip hz ?_
    refine ⟨s1.heap.objs.size + 4, _, _, _, G1, rfl, I1.kept (t' := s1.toks) hk, turn_zip2 (n := s1.heap.objs.size) (sqB_lt (pins := pins) (σ := σ) (G := G1) p1) (sqB_lt (pins := pins) (σ := σ) (G := G1) p2), ⟨hz, hI, ⟨_, _, hO⟩, h1, h2⟩, fun d hd => ?_, q⟩
    have le : s1.heap.objs.size ≤ d := by
      show @LE.le Nat _ _ _
      rcases mem4 hd with q | q | q | q | q <;> (rw [q]; omega)
    exact I1.fpOk le (I1.hok.fresh le)
/-- data that is a list or a tuple -/
def SeqB (b : Bool) (x : D) (xs : List D) : Prop := if b = true then x = .tup xs else (x = .lst xs ∨ x = .ro xs)
theorem row_b {K : PySem.W.Frag} {F H : Hp} {b : Bool} {p : Addr} {x : D} {xs : List D} (e : SeqB b x xs) (s : Same F H) (r : Rep K F (.ref p) x) : ∃ vs, SqB b K H p vs ∧ RepL K F vs xs := by
  cases b with
  | false => obtain ⟨vs, h, k⟩ := row_l (show x = .lst xs ∨ x = .ro xs from e) s r; exact ⟨vs, h, k⟩
  | true =>
    have e : x = .tup xs := e
    subst e
    obtain ⟨vs, h, k⟩ := row_t s r; exact ⟨vs, h, k⟩
theorem serve_zip2 {K : PySem.W.Frag} {p q : Bool} {a b : Addr} {x y : D} {xs ys : List D} (ex : SeqB p x xs) (ey : SeqB q y ys) (l1 : ys.length = xs.length) : Serve K (Itz2 K p q a b) (.int 0) (.gho [.ref a, .ref b] [x, y]) (zipL xs ys) := by
  refine ⟨fun i F H s r hi => ?_, fun i F H s r hi => ?_, fun i F H z H' s r t d hd => ?_⟩
  · obtain ⟨vs, h1, k1⟩ := row_b ex s (gho2 r).1
    obtain ⟨us, h2, k2⟩ := row_b ey s (gho2 r).2
    rw [zip_len] at hi
    obtain ⟨v, e1, _⟩ := k1.get (List.getElem?_eq_getElem (show i < xs.length by omega))
    obtain ⟨u, e2, _⟩ := k2.get (List.getElem?_eq_getElem (show i < ys.length by omega))
    exact ⟨vs, us, v, u, h1, h2, e1, e2⟩
  · obtain ⟨vs, h1, k1⟩ := row_b ex s (gho2 r).1
    rw [zip_len] at hi
    exact ⟨vs, h1, by rw [k1.len]; omega⟩
  · obtain ⟨vs, h1, k1⟩ := row_b ex s (gho2 r).1
    obtain ⟨us, h2, k2⟩ := row_b ey s (gho2 r).2
    obtain ⟨T, v, u, rfl, nT, rfl, y1, y2⟩ := t
    obtain ⟨d1, d2, g1, g2, rfl⟩ := zip_at hd
    obtain ⟨v', e1, r1⟩ := k1.get g1
    obtain ⟨u', e2, r2⟩ := k2.get g2
    rw [y1 vs h1] at e1
    rw [y2 us h2] at e2
    cases e1; cases e2
    have sF : Same F (upd F T (.tup [v, u])) := same_upd (Same.refl F) (s.free nT)
    exact ⟨_, Ext.new s nT, .tup upd_same (.cons (r1.mono sF) (.cons (r2.mono sF) .nil))⟩
def zipMI (ta : TDA) : TDI := fun δ Q E => ta δ (fun as δ1 => ∃ p q x y xs ys, p ≠ q ∧ as = [.d x, .d y] ∧ SeqB p x xs ∧ SeqB q y ys ∧ ys.length = xs.length ∧ Q (zipL xs ys) δ1) E
theorem pid_zipM {e e2 : Expr} {ta : TDA} {p pos tpos : Pos} {elts : List Expr} {kk : Nat} (hg : Gl X "zip") (hm : X.mg "zip" = none) (ha : PA X [e, e2] (LA X.K c W ta))
    (hs : starEach [e, e2] X.env = (false, eval e X.env) :: starEach [e2] X.env := by rfl) (hpl : (backTo pos (starEach [e2] X.env)).any (·.1) = false := by rfl) : PI X (.Tuple elts kk tpos) (.Call (.Name "zip" p) [e, e2] [] pos) (LI X.K c W (zipMI ta)) :=
  PI_imp (pi_zip2 hg hm ha hs hpl) fun σ H R ⟨δ, tmp, Qd, Ed, S, q, k, w⟩ => ⟨δ, tmp, _, _, S, q, fun vs as δ' F ow H' ⟨kp, kq, x, y, xs, ys, npq, ea, ex, ey, hl, q'⟩ S' ra => by
    subst ea
    have rl := args_d (ds := [x, y]) ra
    cases rl with
    | @cons v1 _ vs1 _ r1 t =>
      cases t with
      | @cons v2 _ vs2 _ r2 t =>
        cases t
        have one : ∀ {b : Bool} {v : V} {x : D} {xs : List D}, SeqB b x xs → Rep X.K F v x → ∃ a us, v = .ref a ∧ SqB b X.K H' a us := fun {b v x xs} e r => by
          cases b with
          | false =>
            rcases (show x = .lst xs ∨ x = .ro xs from e) with rfl | rfl
            · cases r with | lst s1 _ => exact ⟨_, _, rfl, S'.fh.seq (SqL.of s1)⟩
            · cases r with | ro s1 _ => exact ⟨_, _, rfl, S'.fh.seq s1⟩
          | true =>
            have e : x = .tup xs := e
            subst e
            cases r with | tup s1 _ => exact ⟨_, _, rfl, SqT.of (S'.fh _ _ s1)⟩
        obtain ⟨a, us, rfl, h1⟩ := one ex r1
        obtain ⟨b, vs, rfl, h2⟩ := one ey r2
        exact ⟨kp, kq, a, b, us, vs, npq, rfl, h1, h2, k _ _ _ _ _ _ q' (serve_zip2 ex ey hl) ⟨F, ow, S'.push (.gho (.cons r1 (.cons r2 .nil)))⟩⟩, w⟩
end
end DL
namespace DR
open PySem PySem.Spec PyProof.Rows L2 DL
theorem zipm {δ : DSt} {E : XD} {Q : List DL.D → DSt → Prop} {ta : TDA} (h : ta δ (fun as δ1 => ∃ p q x y xs ys, p ≠ q ∧ as = [.d x, .d y] ∧ SeqB p x xs ∧ SeqB q y ys ∧ ys.length = xs.length ∧ Q (zipL xs ys) δ1) E) : zipMI ta δ Q E := h
end DR

set_option Elab.async false
set_option linter.all false
set_option maxRecDepth 100000
set_option maxHeartbeats 2000000
/-! several except clauses, each with or without a name -/
namespace DL
open PySem PySem.Spec PyProof.Rows L2
inductive ClauseM where
  | nm (cv : Value) (ix : Nat) (su : Addr → Value → Option Addr → TS)
  | no (cv : Value) (su : Addr → Value → Option Addr → TS)
def wishesM (K : PySem.W.Frag) (out : WX) (D : Ends) : List ClauseM → WX
  | [] => out
  | .nm c i su :: r => fun cv dd τ G => ∃ yes, PySem.W.exmOne K cv c = some yes ∧ (yes = true → ∀ a, G a = none → su a cv dd (sunk i D) (τ.set i (some (.ref a))) G) ∧ (yes = false → wishesM K out D r cv dd τ G)
  | .no c su :: r => fun cv dd τ G => ∃ yes, PySem.W.exmOne K cv c = some yes ∧ (yes = true → ∀ a, G a = none → su a cv dd D τ G) ∧ (yes = false → wishesM K out D r cv dd τ G)
inductive ClausesM (X : Cx) : List ExceptHandler → List ClauseM → Prop
  | nil : ClausesM X [] []
  | cons {x n : Str} {cv : Value} {i : Nat} {su : Addr → Value → Option Addr → TS} {s0 : Stmt} {more : List Stmt} {np pp : Pos} {hs : List ExceptHandler} {qs : List ClauseM} (hi : X.N[i]? = some n) (hl : X.env.kindOf n = some .local) (hn : Names X x cv)
      (hb : ∀ (a : Addr) (ob : Obj) (cls : Value) (dd : Option Addr) (pn : List (Addr × Obj)), Zc cls dd ob → (∃ vs, ob.data = .fields vs) → PSs (X.suite a ((a, ob) :: pn)) (s0 :: more) (su a cls dd)) (r : ClausesM X hs qs) :
      ClausesM X (.ExceptHandler (some (.Name x np)) (some n) (s0 :: more) pp :: hs) (.nm cv i su :: qs)
  | bare {x : Str} {cv : Value} {su : Addr → Value → Option Addr → TS} {s0 : Stmt} {more : List Stmt} {np pp : Pos} {hs : List ExceptHandler} {qs : List ClauseM} (hn : Names X x cv)
      (hb : ∀ (a : Addr) (ob : Obj) (cls : Value) (dd : Option Addr) (pn : List (Addr × Obj)), Zc cls dd ob → (∃ vs, ob.data = .fields vs) → PSs (X.suite a ((a, ob) :: pn)) (s0 :: more) (su a cls dd)) (r : ClausesM X hs qs) :
      ClausesM X (.ExceptHandler (some (.Name x np)) none (s0 :: more) pp :: hs) (.no cv su :: qs)
section
variable {X : Cx} {bd : List Stmt} {g : ExceptHandler} {gs : List ExceptHandler} {qs : List ClauseM} {pos : Pos} {tb : WX → TS} {out : WX}
theorem ps_tryM (hst : X.stack = X.env :: X.outer) (hfr : X.env.frame = some X.env.locals) (nd : X.N.Nodup) (tk : Takes X out)
    (hb : ∀ (W : WX) (pn : List (Addr × Obj)) (xe : Value → Shared → Prop), Takes (X.tr pn xe) W → PassesOwn (model X.prog X.w) X.A X.env xe → PSs (X.tr pn xe) bd (tb W))
    (hh : ClausesM X (g :: gs) qs) : PS X (.Try bd (g :: gs) [] [] pos) (fun D τ G => tb (wishesM X.K out D qs) D τ G) := by
  refine ⟨fun pins st τ G D I hw => ?_⟩
  have okX := I.ok
  have frX : X.A.frames = some (X.env :: X.outer) := okX.frames.trans (by rw [hst])
  apply wpAny_Try_except
  have run := (hb (wishesM X.K out D qs) (X.pn ++ pins) (fun e t1 => wpAny (model X.prog X.w) X.A (noteFrame e X.env) (fun _ t2 => wpAny (model X.prog X.w) X.A (setFlight e none) (fun _ t3 =>
    wpAny (model X.prog X.w) X.A (handleBy e X.env (g :: gs)) (SP X pins D) X.xe t3) X.xe t2) X.xe t1) (fun u t y => ?_) PassesOwn.looking).run [] st τ G D (I.toTry _) hw
  · refine wpAny_mono run (fun fl t1 q => ?_) (fun e t1 q => q)
    cases fl with
    | next => obtain ⟨τ2, G2, J, q⟩ := q; exact wpAny_execs_nil ⟨_, _, J.ofTry okX, q⟩
    | brk => obtain ⟨τ2, G2, J, q⟩ := q; exact ⟨_, _, J.ofTry okX, q⟩
    | cont => obtain ⟨τ2, G2, J, q⟩ := q; exact ⟨_, _, J.ofTry okX, q⟩
    | ret u => obtain ⟨v2, τ2, G2, J, rr, q⟩ := q; exact ⟨_, _, _, J.ofTry okX, rr, q⟩
  · obtain ⟨a, B, tI, pins2, τ2, G2, cv, dd, rfl, J0, nb, up, sk, na, os, ag, ww⟩ := y
    have J1 : Inv X pins τ2 G2 tI := J0.ofTry okX
    have sk2 : Sky B (X.env :: X.outer) a (Zc cv dd) X.env.locals t.heap := by rw [hst] at sk; exact sk
    refine Sky.land Zc.steady frX hfr sk2 fun k3 fl3 up3 => ?_
    have J3 : Inv X pins τ2 G2 { t with heap := k3 } := J1.landed nb fl3.1 (up.trans up3) os ag
    obtain ⟨o3, w3, ho3, hz3, hd3⟩ := fl3.there
    have out3 : ∀ {k : Heap} {ob : Obj} {ws : Array Value}, k.FunFrames B (X.env :: X.outer) → k.get? a = some ob → ob.data = .fields ws → ¬ a ∈ frs (X.env :: X.outer) := fun {k ob ws} ff he hd hm => by
      obtain ⟨_, ob2, he2, nof⟩ := ff.mem hm
      cases he.symm.trans he2
      exact nof _ hd
    have nfr := out3 fl3.2.2.1 ho3 hd3
    have nloc : a ≠ X.env.locals := fun z => nfr (List.mem_filterMap.mpr ⟨_, List.mem_cons_self, by rw [z]; exact hfr⟩)
    have nfs : a ∉ X.fs := fun hm => by
      obtain ⟨en, he, q⟩ := List.mem_filterMap.mp hm
      exact nfr (List.mem_filterMap.mpr ⟨en, .tail _ he, q⟩)
    have S3 := J3.suite ho3 hd3 na nloc nfs
    have each : ∀ {hs : List ExceptHandler} {rs : List ClauseM}, ClausesM X hs rs → wishesM X.K out D rs cv dd τ2 G2 →
        wpAny (model X.prog X.w) X.A (handleBy (.ref a) X.env hs) (SP X pins D) X.xe { t with heap := k3 } := fun {hs rs} hk => by
      induction hk with
      | nil =>
        intro wo
        refine wpAny_handleBy_nil ?_
        obtain ⟨_, _, _, ob, vs, T, oT, ts2, he, _, hd, h1, _⟩ := id fl3
        unfold PySem.passOn
        refine wpAny_bind (wpAny_field he hd h1 ?_)
        rw [if_neg (show ¬ ((Value.ref T == Value.none) = true) by simp)]
        have last : wpAny (model X.prog X.w) X.A (setFlight (.ref a) X.env.frame) (fun _ t4 => wpAny (model X.prog X.w) X.A (throw (.ref a) : Sem Flow) (SP X pins D) X.xe t4) X.xe { t with heap := k3 } := by
          rw [hfr]
          refine HandSPX.setFlight_upZ fl3 fun k4 hk4 up4 => wpAny_throw (tk _ _ ?_)
          exact ⟨a, B, tI, pins, τ2, G2, cv, dd, rfl, J1, nb, (up.trans up3).trans up4, .inr (.inr (hst ▸ hk4)), na, os, ag, wo⟩
        first
          | exact wpAny_bind (wpAny_pure (wpAny_bind last))
          | exact wpAny_bind last
      | @cons x n c i su s0 more np pp hs2 rs2 hi hl hn hb r ih =>
        rintro ⟨yes, hx, hy, hno⟩
        have look : PySem.W.Looks (model X.prog X.w) k3 (typeOf (.ref a)) cv := fun A Q E u f q => wpAny_typeOf_ref (f _ _ ho3) (hz3.1.symm ▸ q)
        have exm := PySem.W.exm_one (M := model X.prog X.w) J3.kIn look hx
        have name : ∀ {Q E : Value → Shared → Prop}, Q c { t with heap := k3 } → wpAny (model X.prog X.w) (X.A.mark (some (.ref a))) (eval (.Name x np) X.env) Q E { t with heap := k3 } := fun {Q E} q => by
          rcases hn with ⟨h1, h2, h3 | ⟨h3, h4, h5⟩⟩
          · exact ld_glob (X := X.suite a ((a, o3) :: (X.pn ++ pins))) S3 h1 h3 q h2
          · exact ld_blt (X := X.suite a ((a, o3) :: (X.pn ++ pins))) S3 h1 h3 h4 q h5 h2
        refine wpAny_handleBy_cons (codeAny_handlers_test (name (exm.here ?_))) (fun z => nomatch z)
        cases yes with
        | false => exact ih (hno rfl)
        | true =>
          refine codeAny_handlers_suite_as (HandSPX.lands_againZ fl3 fun k4 fl4 up4 => ?_)
          have J4 : Inv X pins τ2 G2 { t with heap := k4 } := J1.landed nb fl4.1 ((up.trans up3).trans up4) os ag
          obtain ⟨o4, w4, ho4, hz4, hd4⟩ := fl4.there
          refine store_ok (X := X.suite a ((a, o4) :: (X.pn ++ pins))) (v := .ref a) (J4.suite ho4 hd4 na nloc nfs) nd hi (.inl hl) rfl (fun t5 S5 => ?_) (.inr hl)
          have sinks : ∀ {τ6 : L2.St} {G6 : Hp} {Q : Shared → Prop} {t6 : Shared}, Inv (X.suite a ((a, o4) :: (X.pn ++ pins))) [] τ6 G6 t6 → (∀ t7, Inv X pins (τ6.set i none) G6 t7 → Q t7) →
              wpAny (model X.prog X.w) X.A (do bindName X.env n .none; unbindBehindTheSuite X.env n pp) (fun _ t7 => Q t7) X.xe t6 := fun {τ6 G6 Q t6} S6 f => gone_ok (S6.unsuite okX) nd hi hl f
          refine wpAny_mono ((hb a o4 cv dd (X.pn ++ pins) hz4 ⟨_, hd4⟩).run [] t5 _ G2 _ S5 (hy rfl a na)) (fun fl t6 q => ?_) (fun _ _ z => z.elim)
          cases fl with
          | next => obtain ⟨τ6, G6, S6, q6⟩ := q; exact sinks S6 fun t7 J7 => ⟨_, _, J7, q6⟩
          | brk => obtain ⟨τ6, G6, S6, q6⟩ := q; exact sinks S6 fun t7 J7 => ⟨_, _, J7, q6⟩
          | cont => obtain ⟨τ6, G6, S6, q6⟩ := q; exact sinks S6 fun t7 J7 => ⟨_, _, J7, q6⟩
          | ret u => obtain ⟨v6, τ6, G6, S6, r6, q6⟩ := q; exact sinks S6 fun t7 J7 => ⟨_, _, _, J7, r6, q6⟩
      | @bare x c su s0 more np pp hs2 rs2 hn hb r ih =>
        rintro ⟨yes, hx, hy, hno⟩
        have look : PySem.W.Looks (model X.prog X.w) k3 (typeOf (.ref a)) cv := fun A Q E u f q => wpAny_typeOf_ref (f _ _ ho3) (hz3.1.symm ▸ q)
        have exm := PySem.W.exm_one (M := model X.prog X.w) J3.kIn look hx
        have name : ∀ {Q E : Value → Shared → Prop}, Q c { t with heap := k3 } → wpAny (model X.prog X.w) (X.A.mark (some (.ref a))) (eval (.Name x np) X.env) Q E { t with heap := k3 } := fun {Q E} q => by
          rcases hn with ⟨h1, h2, h3 | ⟨h3, h4, h5⟩⟩
          · exact ld_glob (X := X.suite a ((a, o3) :: (X.pn ++ pins))) S3 h1 h3 q h2
          · exact ld_blt (X := X.suite a ((a, o3) :: (X.pn ++ pins))) S3 h1 h3 h4 q h5 h2
        refine wpAny_handleBy_cons (codeAny_handlers_test (name (exm.here ?_))) (fun z => nomatch z)
        cases yes with
        | false => exact ih (hno rfl)
        | true =>
          refine codeAny_handlers_suite (HandSPX.lands_againZ fl3 fun k4 fl4 up4 => ?_)
          have J4 : Inv X pins τ2 G2 { t with heap := k4 } := J1.landed nb fl4.1 ((up.trans up3).trans up4) os ag
          obtain ⟨o4, w4, ho4, hz4, hd4⟩ := fl4.there
          have S4 := J4.suite ho4 hd4 na nloc nfs
          refine wpAny_mono ((hb a o4 cv dd (X.pn ++ pins) hz4 ⟨_, hd4⟩).run [] _ _ G2 _ S4 (hy rfl a na)) (fun fl t6 q => ?_) (fun _ _ z => z.elim)
          cases fl with
          | next => obtain ⟨τ6, G6, S6, q6⟩ := q; exact ⟨_, _, S6.unsuite okX, q6⟩
          | brk => obtain ⟨τ6, G6, S6, q6⟩ := q; exact ⟨_, _, S6.unsuite okX, q6⟩
          | cont => obtain ⟨τ6, G6, S6, q6⟩ := q; exact ⟨_, _, S6.unsuite okX, q6⟩
          | ret u => obtain ⟨v6, τ6, G6, S6, r6, q6⟩ := q; exact ⟨_, _, _, S6.unsuite okX, r6, q6⟩
    exact each hh ww
end
/-! in data -/
inductive ClauseX where
  | nm (cv : Value) (ix : Nat) (su : Addr → Value → Option Addr → TDS)
  | no (cv : Value) (su : TDS)
def catchM (K : PySem.W.Frag) (D : EndsD) : List ClauseX → XD
  | [] => D.ex
  | .nm c i su :: r => fun x δ => ∃ yes, PySem.W.exmOne K (.ref x.C) c = some yes ∧ (yes = true → ∀ a dd, (x.fs = none → dd = none) → su a (.ref x.C) dd (sunkD i D) (δ.set i (some (.d (.exc a (.ref x.C) dd x.C x.fs))))) ∧ (yes = false → catchM K D r x δ)
  | .no c su :: r => fun x δ => ∃ yes, PySem.W.exmOne K (.ref x.C) c = some yes ∧ (yes = true → su { D with ex := noX } δ) ∧ (yes = false → catchM K D r x δ)
def tryM (K : PySem.W.Frag) (qs : List ClauseX) (tb : TDS) : TDS := fun D δ => tb { D with ex := catchM K D qs } δ
inductive ClausesX (X : Cx) (c : Fc) : List ExceptHandler → List ClauseX → Prop
  | nil : ClausesX X c [] []
  | cons {x n : Str} {cv : Value} {i : Nat} {su : Addr → Value → Option Addr → TDS} {s0 : Stmt} {more : List Stmt} {np pp : Pos} {hs : List ExceptHandler} {qs : List ClauseX} (ni : i ∉ c.sl) (hi : X.N[i]? = some n) (hl : X.env.kindOf n = some .local) (hn : Names X x cv)
      (hb : ∀ (a : Addr) (ob : Obj) (cls : Value) (dd : Option Addr) (pn : List (Addr × Obj)), Zc cls dd ob → (∃ vs, ob.data = .fields vs) → PSs (X.suite a ((a, ob) :: pn)) (s0 :: more) (LS X.K c W0 (su a cls dd))) (r : ClausesX X c hs qs) :
      ClausesX X c (.ExceptHandler (some (.Name x np)) (some n) (s0 :: more) pp :: hs) (.nm cv i su :: qs)
  | bare {x : Str} {cv : Value} {su : TDS} {s0 : Stmt} {more : List Stmt} {np pp : Pos} {hs : List ExceptHandler} {qs : List ClauseX} (hn : Names X x cv)
      (hb : ∀ (a : Addr) (ob : Obj) (cls : Value) (dd : Option Addr) (pn : List (Addr × Obj)), Zc cls dd ob → (∃ vs, ob.data = .fields vs) → PSs (X.suite a ((a, ob) :: pn)) (s0 :: more) (LS X.K c W0 su)) (r : ClausesX X c hs qs) :
      ClausesX X c (.ExceptHandler (some (.Name x np)) none (s0 :: more) pp :: hs) (.no cv su :: qs)
def ClauseX.up (K : PySem.W.Frag) (c : Fc) : ClauseX → ClauseM
  | .nm cv i su => .nm cv i fun a cls d => LS K c W0 (su a cls d)
  | .no cv su => .no cv fun _ _ _ => LS K c W0 su
theorem ClausesX.up {X : Cx} {c : Fc} {hs : List ExceptHandler} {qs : List ClauseX} (h : ClausesX X c hs qs) : ClausesM X hs (qs.map (ClauseX.up X.K c)) := by
  induction h with
  | nil => exact .nil
  | cons ni hi hl hn hb r ih => exact .cons hi hl hn hb ih
  | bare hn hb r ih => exact .bare hn (fun a ob cls dd pn => hb a ob cls dd pn) ih
theorem psd_tryM (K : PySem.W.Frag) {X : Cx} (hK : X.K = K) {c : Fc} {W : WX} {bd : List Stmt} {g : ExceptHandler} {gs : List ExceptHandler} {qs : List ClauseX} {pos : Pos} {tb : TDS} (hst : X.stack = X.env :: X.outer) (hfr : X.env.frame = some X.env.locals) (nd : X.N.Nodup) (tk : Takes X W)
    (hb : ∀ (W : WX) (pn : List (Addr × Obj)) (xe : Value → Shared → Prop), Takes (X.tr pn xe) W → PassesOwn (model X.prog X.w) X.A X.env xe → PSs (X.tr pn xe) bd (LS X.K c W tb))
    (hh : ClausesX X c (g :: gs) qs) : PS X (.Try bd (g :: gs) [] [] pos) (LS X.K c W (tryM K qs tb)) := by
  subst hK
  exact PS_imp (ps_tryM (tb := fun W => LS X.K c W tb) hst hfr nd tk hb hh.up) fun D σ H ⟨δ, tmp, Dd, S, q, k, kr, kb, kc, w⟩ => by
    refine ⟨δ, tmp, _, S, q, k, kr, kb, kc, ?_⟩
    have go : ∀ {hs : List ExceptHandler} {rs : List ClauseX}, ClausesX X c hs rs → WD X.K c (wishesM X.K W D (rs.map (ClauseX.up X.K c))) tmp (catchM X.K Dd rs) := fun {hs rs} h => by
      induction h with
      | nil => exact w
      | @cons x n cv i su s0 more np pp hs2 rs2 ni hi hl hn hb r ih =>
        rintro ⟨C, fs⟩ δ1 σ1 H1 F ow cls d ⟨yes, ey, hy, hno⟩ S1 er
        obtain ⟨rfl, er2⟩ := id er
        have hn2 : fs = none → d = none := fun e => by subst e; exact er2
        refine ⟨yes, ey, fun e a na => ?_, fun e => ih _ _ _ _ F ow _ d (hno e) S1 er⟩
        have rx : Rep X.K F (.ref a) (.exc a (.ref C) d C fs) := by
          cases fs with
          | none => obtain rfl : d = none := er2; exact .exc0
          | some fs => obtain ⟨dd, vs, rfl, e2, e3⟩ := er2; exact .exc e2 e3
        exact ⟨_, tmp, _, (S1.push rx).set' ni, hy e a d hn2, fun δ2 σ2 H2 q2 ⟨F2, ow2, S2⟩ => k _ _ _ q2 ⟨F2, ow2, S2.del ni⟩, kr, fun δ2 σ2 H2 q2 ⟨F2, ow2, S2⟩ => kb _ _ _ q2 ⟨F2, ow2, S2.del ni⟩, fun δ2 σ2 H2 q2 ⟨F2, ow2, S2⟩ => kc _ _ _ q2 ⟨F2, ow2, S2.del ni⟩, fun _ _ _ _ _ _ _ _ z => z.elim⟩
      | @bare x cv su s0 more np pp hs2 rs2 hn hb r ih =>
        rintro ⟨C, fs⟩ δ1 σ1 H1 F ow cls d ⟨yes, ey, hy, hno⟩ S1 er
        obtain ⟨rfl, er2⟩ := id er
        exact ⟨yes, ey, fun e a na => ⟨δ1, tmp, _, ⟨F, ow, S1⟩, hy e, k, kr, kb, kc, fun _ _ _ _ _ _ _ _ z => z.elim⟩, fun e => ih _ _ _ _ F ow _ d (hno e) S1 er⟩
    exact go hh
end DL
namespace DR
open PySem PySem.Spec PyProof.Rows L2 DL
theorem trym {K : PySem.W.Frag} {qs : List ClauseX} {tb : TDS} {D : EndsD} {δ : DSt} (h : tb { D with ex := catchM K D qs } δ) : tryM K qs tb D δ := h
end DR

set_option Elab.async false
set_option linter.all false
set_option maxRecDepth 100000
/-! x != [] and x == [] of any list -/
namespace DL
open PySem PySem.Spec PyProof.Rows L2
def lensNe (K : PySem.W.Frag) (r : Bool) : R2 := fun x y H Q => ∃ a b xs ys, x = .ref a ∧ y = .ref b ∧ SqL K H a xs ∧ SqL K H b ys ∧ xs.length ≠ ys.length ∧ Q (.bl r) H
def rNeX (K : PySem.W.Frag) : R2 := fun x y H Q => rNeD K x y H Q ∨ lensNe K true x y H Q
theorem op_neX {X : Cx} (hu : X.A.units + 64 < cLine) : OpR X (compareOp .NotEq) (rNeX X.K) := by
  intro pins s σ H x y v u Q I rx ry h
  rcases h with h | ⟨a, b, xs, ys, rfl, rfl, ha, hb, hl, q⟩
  · exact op_neD hu pins s σ H x y v u Q I rx ry h
  obtain rfl : v = Value.ref a := rx
  obtain rfl : u = Value.ref b := ry
  obtain ⟨i1, r1, p1, _⟩ := I.list ha
  obtain ⟨i2, r2, p2, _⟩ := I.list hb
  have l1 := r1.length
  have l2 := r2.length
  refine SeqAt.RcNeAt.lists_lengths p1.isList p2.isList ?_ (Nat.lt_of_le_of_lt (Nat.le_add_right _ _) hu) _ _ _ _ ⟨.bl _, H, I, rfl, q⟩
  simp
  omega
def lstLike (d : D) (xs : List D) : Prop := d = .lst xs ∨ d = .ro xs
abbrev neX : RD2s := fun a b Q => eqP true a b Q ∨ ∃ xs ys, lstLike a xs ∧ lstLike b ys ∧ xs.length ≠ ys.length ∧ Q (.bl true)
theorem sql_of {K : PySem.W.Frag} {F H : Hp} {v : V} {d : D} {xs : List D} (e : lstLike d xs) (s : Same F H) (r : Rep K F v d) : ∃ a vs, v = .ref a ∧ SqL K H a vs ∧ vs.length = xs.length := by
  rcases e with rfl | rfl
  · cases r with | lst s1 r1 => exact ⟨_, _, rfl, s.seq (SqL.of s1), r1.len⟩
  · cases r with | ro s1 r1 => exact ⟨_, _, rfl, s.seq s1, r1.len⟩
theorem op2_neX {K : PySem.W.Frag} : Op2s K (rNeX K) neX := fun x y a b F H Q Qd s rx ry h k => by
  rcases h with h | ⟨xs, ys, h1, h2, h3, q⟩
  · exact .inl (op2_neD x y a b F H Q Qd s rx ry h k)
  · obtain ⟨a1, vs, rfl, g1, l1⟩ := sql_of h1 s rx
    obtain ⟨b1, us, rfl, g2, l2⟩ := sql_of h2 s ry
    exact .inr ⟨a1, b1, vs, us, rfl, rfl, g1, g2, by rw [l1, l2]; exact h3, k _ _ q rfl⟩
end DL

set_option Elab.async false
set_option linter.all false
set_option maxRecDepth 100000
/-! DL47: a, b = x, y where one is a cell; a written tuple unpacked -/
namespace DL
open PySem PySem.Spec PyProof.Rows L2
section
variable {X : Cx} {c : Fc} {W : WX}
theorem psd_parC {i j : Nat} {oi oj : Bool} {x y : Str} {a b : Expr} {t : TDK} {px py pt pos : Pos} {kt k2 pt2} (ha : PA X [a, b] (LK X.K c W t)) (ni : i ∉ c.sl) (nj : j ∉ c.sl) (h : ∀ {ta : TA}, PA X [a, b] ta → PS X (.Assign [.Tuple [.Name x px, .Name y py] k2 pt2] (.Tuple [a, b] kt pt) pos) (tAsg (tTup ta) (gTup X.K 2 (gCons (gName i) (gCons (gName j) gNil))))) (hij : i ≠ j) :
    PS X (.Assign [.Tuple [.Name x px, .Name y py] k2 pt2] (.Tuple [a, b] kt pt) pos) (LS X.K c W (parD i j oi oj t)) :=
  PS_imp (h ha) fun D σ H ⟨δ, tmp, Dd, S, q, k, kr, kb, kc, w⟩ => ⟨δ, tmp, _, _, S, q, fun vs xs δ' H' ⟨x, y, e, q'⟩ hl S' => by
    subst e
    match vs, hl with
    | [v, u], _ =>
      refine ⟨show 2 ≤ sizeLine by decide, fun p np => ⟨p, [v, u], rfl, SqT.of upd_same, rfl, v, [u], rfl, u, [], rfl, rfl, ?_⟩⟩
      obtain ⟨F, ow, S'⟩ := S'
      have S2 : SttF X.K c F ow δ' ((u, y) :: (v, x) :: tmp) σ H' := S'
      have S2 := S2.ext (Ext.newH (o := .tup [v, u]) S2.fh np)
      obtain ⟨F3, S3⟩ := S2.top_as oj
      obtain ⟨F4, ow4, S4⟩ := S3.set' nj
      obtain ⟨F5, S5⟩ := S4.top_as oi
      refine k _ _ _ q' ?_
      rw [List.set_comm _ _ hij]
      exact S5.set' ni, w⟩
end
end DL
namespace DR
open PySem PySem.Spec PyProof.Rows L2 DL
theorem tupgV {is : List Nat} {xs : List DL.D} {δ : DSt} {Q : DSt → Prop} (h : namesG is xs δ Q) : tupG is (DV.d (.tup xs)).toD δ Q := ⟨xs, rfl, h⟩
end DR

set_option Elab.async false
set_option linter.all false
/-! least sums of chains -/
namespace Dst
section
variable {N : Type} [DecidableEq N]
abbrev Row (N : Type) := N × N × Int
/-- chains of at most n rows -/
inductive Walk (rs : List (Row N)) : Nat → N → N → Int → Prop
  | nil {n : Nat} {a : N} : Walk rs n a a 0
  | cons {n : Nat} {a c b : N} {m s : Int} (h : (a, c, m) ∈ rs) (t : Walk rs n c b s) : Walk rs (n + 1) a b (m + s)
def leO (o : Option Int) (s : Int) : Prop := ∃ t, o = some t ∧ t ≤ s
theorem leO.le {o : Option Int} {s s' : Int} (h : leO o s) (l : s ≤ s') : leO o s' := let ⟨t, e, q⟩ := h; ⟨t, e, Int.le_trans q l⟩
theorem Walk.more {rs : List (Row N)} {n : Nat} {a b : N} {s : Int} (h : Walk rs n a b s) : ∀ {k : Nat}, n ≤ k → Walk rs k a b s := by
  induction h with
  | nil => exact fun _ => .nil
  | cons h t ih =>
    intro k hk
    cases k with
    | zero => omega
    | succ k => exact .cons h (ih (by omega))
theorem Walk.mono {rs rs' : List (Row N)} {n : Nat} {a b : N} {s : Int} (h : Walk rs n a b s) (i : ∀ r ∈ rs, r ∈ rs') : Walk rs' n a b s := by
  induction h with
  | nil => exact .nil
  | cons h t ih => exact .cons (i _ h) ih
theorem Walk.app {rs : List (Row N)} {n k : Nat} {a b c : N} {s t : Int} (h : Walk rs n a b s) (g : Walk rs k b c t) : Walk rs (n + k) a c (s + t) := by
  induction h with
  | nil => rw [Int.zero_add]; exact g.more (by omega)
  | @cons n a d b m s h t' ih => rw [Int.add_assoc, Nat.add_right_comm]; exact .cons h (ih g)
/-- chains by their names -/
inductive Path (rs : List (Row N)) : List N → Int → Prop
  | one {a : N} : Path rs [a] 0
  | cons {a c : N} {m s : Int} {p : List N} (h : (a, c, m) ∈ rs) (t : Path rs (c :: p) s) : Path rs (a :: c :: p) (m + s)
theorem Path.walk {rs : List (Row N)} {q : List N} {s : Int} (h : Path rs q s) : ∀ {a b : N} {p : List N}, q = a :: p → q.getLast? = some b → Walk rs p.length a b s := by
  induction h with
  | one => intro a b p e l; cases e; cases l; exact .nil
  | cons h t ih =>
    intro a b p e l
    cases e
    rw [List.getLast?_cons_cons] at l
    exact .cons h (ih rfl l)
theorem Path.nonneg {rs : List (Row N)} (nn : ∀ r ∈ rs, 0 ≤ r.2.2) {q : List N} {s : Int} (h : Path rs q s) : 0 ≤ s := by
  induction h with
  | one => exact Int.le_refl _
  | @cons a c m s p h t ih =>
    have : 0 ≤ m := nn _ h
    omega
/-- the rest of a chain from one of its names on -/
theorem Path.from {rs : List (Row N)} (nn : ∀ r ∈ rs, 0 ≤ r.2.2) {q : List N} {s : Int} (h : Path rs q s) : ∀ {a : N}, a ∈ q → ∃ p s', Path rs (a :: p) s' ∧ s' ≤ s ∧ (a :: p).getLast? = q.getLast? ∧ (a :: p).Sublist q := by
  induction h with
  | @one b => intro a ha; cases List.mem_singleton.mp ha; exact ⟨[], 0, .one, Int.le_refl _, rfl, List.Sublist.refl _⟩
  | @cons b c m s p h t ih =>
    intro a ha
    by_cases e : a = b
    · subst e; exact ⟨c :: p, m + s, .cons h t, Int.le_refl _, rfl, List.Sublist.refl _⟩
    · obtain ⟨p', s', h1, h2, h3, h4⟩ := ih ((List.mem_cons.mp ha).resolve_left e)
      have : 0 ≤ m := nn _ h
      exact ⟨p', s', h1, by omega, by rw [List.getLast?_cons_cons]; exact h3, h4.cons _⟩
theorem Walk.path {rs : List (Row N)} (nn : ∀ r ∈ rs, 0 ≤ r.2.2) {n : Nat} {a b : N} {s : Int} (h : Walk rs n a b s) : ∃ p s', Path rs (a :: p) s' ∧ s' ≤ s ∧ (a :: p).getLast? = some b ∧ (a :: p).Nodup := by
  induction h with
  | @nil n a => exact ⟨[], 0, .one, Int.le_refl _, rfl, List.nodup_cons.mpr ⟨(fun h => nomatch h), .nil⟩⟩
  | @cons n a c b m s h t ih =>
    obtain ⟨p, s', h1, h2, h3, h4⟩ := ih
    have m0 : 0 ≤ m := nn _ h
    by_cases e : a ∈ c :: p
    · obtain ⟨p', s2, g1, g2, g3, g4⟩ := h1.from nn e
      exact ⟨p', s2, g1, by omega, g3.trans h3, h4.sublist g4⟩
    · exact ⟨c :: p, m + s', .cons h h1, by omega, by rw [List.getLast?_cons_cons]; exact h3, List.nodup_cons.mpr ⟨e, h4⟩⟩
theorem nodup_len : ∀ {l k : List N}, l.Nodup → (∀ a ∈ l, a ∈ k) → l.length ≤ k.length
  | [], _, _, _ => Nat.zero_le _
  | a :: l, k, h, i => by
    have ha := i a List.mem_cons_self
    have := nodup_len (l := l) (k := k.erase a) (List.nodup_cons.mp h).2 fun b hb => (List.mem_erase_of_ne (fun e : b = a => (List.nodup_cons.mp h).1 (by rw [← e]; exact hb))).mpr (i b (List.mem_cons_of_mem _ hb))
    rw [List.length_erase_of_mem ha] at this
    have : 0 < k.length := List.length_pos_of_mem ha
    rw [List.length_cons]
    omega
theorem Path.mem {rs : List (Row N)} {ns : List N} (hr : ∀ r ∈ rs, r.1 ∈ ns ∧ r.2.1 ∈ ns) {q : List N} {s : Int} (h : Path rs q s) : ∀ {a : N} {p : List N}, q = a :: p → a ∈ ns → ∀ b ∈ q, b ∈ ns := by
  induction h with
  | one => intro a p e ha b hb; cases e; cases List.mem_singleton.mp hb; exact ha
  | cons h t ih =>
    intro a p e ha b hb
    cases e
    rcases List.mem_cons.mp hb with rfl | hb
    · exact ha
    · exact ih rfl (hr _ h).2 b hb
/-- no more rows than names are needed -/
theorem Walk.short {rs : List (Row N)} {ns : List N} (hr : ∀ r ∈ rs, r.1 ∈ ns ∧ r.2.1 ∈ ns) (nn : ∀ r ∈ rs, 0 ≤ r.2.2) {n : Nat} {a b : N} {s : Int} (h : Walk rs n a b s) (ha : a ∈ ns) : ∃ s', s' ≤ s ∧ Walk rs ns.length a b s' := by
  obtain ⟨p, s', h1, h2, h3, h4⟩ := h.path nn
  refine ⟨s', h2, (h1.walk rfl h3).more ?_⟩
  have := nodup_len h4 (h1.mem hr rfl ha)
  rw [List.length_cons] at this
  omega
/-- the entries are the least sums -/
structure IsDist (ns : List N) (rs : List (Row N)) (f : N → N → Option Int) : Prop where
  sound : ∀ a b s, f a b = some s → ∃ n, Walk rs n a b s
  least : ∀ a b n s, a ∈ ns → b ∈ ns → Walk rs n a b s → leO (f a b) s
theorem IsDist.unique {ns : List N} {rs : List (Row N)} {f g : N → N → Option Int} (hf : IsDist ns rs f) (hg : IsDist ns rs g) {a b : N} (ha : a ∈ ns) (hb : b ∈ ns) : f a b = g a b := by
  cases e : f a b with
  | none =>
    cases e' : g a b with
    | none => rfl
    | some t =>
      obtain ⟨n, w⟩ := hg.sound _ _ _ e'
      obtain ⟨t, e2, _⟩ := hf.least _ _ _ _ ha hb w
      rw [e] at e2; cases e2
  | some s =>
    obtain ⟨n, w⟩ := hf.sound _ _ _ e
    obtain ⟨t, e2, l⟩ := hg.least _ _ _ _ ha hb w
    obtain ⟨n', w'⟩ := hg.sound _ _ _ e2
    obtain ⟨t', e3, l'⟩ := hf.least _ _ _ _ ha hb w'
    rw [e] at e3
    cases e3
    rw [e2, show s = t by omega]
end
end Dst

set_option Elab.async false
set_option linter.all false
/-! dicts by two names -/
namespace KT
open PySem PySem.Spec PyProof.Rows L2 DL
abbrev Row := Str × Str × Int
abbrev rowD (r : Row) : D := .tup [.str r.1, .str r.2.1, .int r.2.2]
def optD : Option Int → D
  | none => .non
  | some i => .int i
abbrev Fn := Str → Str → Option Int
def k2 (a b : Str) : List Key := [.inr a, .inr b]
def es (l : List (Str × Str)) (f : Fn) : List (List Key × D) := l.map fun p => (k2 p.1 p.2, optD (f p.1 p.2))
def sq (ns : List Str) : List (Str × Str) := ns.flatMap fun a => ns.map fun b => (a, b)
def up2 (f : Fn) (a b : Str) (v : Option Int) : Fn := fun x y => if x = a ∧ y = b then v else f x y
theorem k2_inj {a b c d : Str} : k2 a b = k2 c d ↔ a = c ∧ b = d := by
  unfold k2
  constructor
  · intro h
    injection h with h1 h2
    injection h2 with h2 _
    exact ⟨Sum.inr.inj h1, Sum.inr.inj h2⟩
  · rintro ⟨rfl, rfl⟩; rfl
theorem mem_sq {ns : List Str} {a b : Str} : (a, b) ∈ sq ns ↔ a ∈ ns ∧ b ∈ ns := by
  unfold sq
  rw [List.mem_flatMap]
  constructor
  · rintro ⟨c, hc, h⟩
    obtain ⟨d, hd, e⟩ := List.mem_map.mp h
    cases e
    exact ⟨hc, hd⟩
  · rintro ⟨h1, h2⟩
    exact ⟨a, h1, List.mem_map.mpr ⟨b, h2, rfl⟩⟩
theorem val_es {f : Fn} {a b : Str} : ∀ {l : List (Str × Str)}, (a, b) ∈ l → valD (es l f) (k2 a b) = some (optD (f a b))
  | (c, d) :: l, h => by
    by_cases e : k2 c d = k2 a b
    · have e1 : valD (es ((c, d) :: l) f) (k2 a b) = some (optD (f c d)) := by simp [valD, es, List.find?_cons, e]
      obtain ⟨rfl, rfl⟩ := k2_inj.mp e
      exact e1
    · have e1 : valD (es ((c, d) :: l) f) (k2 a b) = valD (es l f) (k2 a b) := by simp [valD, es, List.find?_cons, e]
      rw [e1]
      refine val_es ((List.mem_cons.mp h).resolve_left fun z => e ?_)
      cases z
      rfl
theorem val_no {f : Fn} {a b : Str} : ∀ {l : List (Str × Str)}, (a, b) ∉ l → valD (es l f) (k2 a b) = none
  | [], _ => rfl
  | (c, d) :: l, h => by
    have e : ¬ k2 c d = k2 a b := fun e => by
      obtain ⟨rfl, rfl⟩ := k2_inj.mp e
      exact h List.mem_cons_self
    have e1 : valD (es ((c, d) :: l) f) (k2 a b) = valD (es l f) (k2 a b) := by simp [valD, es, List.find?_cons, e]
    rw [e1]
    exact val_no fun z => h (List.mem_cons_of_mem _ z)
theorem put_es {f : Fn} {a b : Str} {v : Option Int} {l : List (Str × Str)} (h : (a, b) ∈ l) : putT (es l f) (k2 a b) (optD v) = es l (up2 f a b v) := by
  unfold putT
  rw [val_es h, Option.isSome_some, if_pos rfl]
  unfold es
  rw [List.map_map]
  refine List.map_congr_left fun p _ => ?_
  show (if k2 p.1 p.2 = k2 a b then (k2 p.1 p.2, optD v) else (k2 p.1 p.2, optD (f p.1 p.2))) = _
  unfold up2
  by_cases e : p.1 = a ∧ p.2 = b
  · rw [if_pos (k2_inj.mpr e), if_pos e]
  · rw [if_neg (fun z => e (k2_inj.mp z)), if_neg e]
theorem put_new {f : Fn} {a b : Str} {l : List (Str × Str)} (h : (a, b) ∉ l) : putT (es l f) (k2 a b) (optD (f a b)) = es (l ++ [(a, b)]) f := by
  unfold putT
  rw [val_no h, Option.isSome_none, if_neg Bool.false_ne_true]
  unfold es
  rw [List.map_append]
  rfl
theorem es_len {f : Fn} {l : List (Str × Str)} : (es l f).length = l.length := List.length_map ..
theorem sum_const {α : Type} {n : Nat} : ∀ {l : List α}, (l.map fun _ => n).sum = l.length * n
  | [] => by simp
  | _ :: l => by rw [List.map_cons, List.sum_cons, sum_const, List.length_cons, Nat.succ_mul, Nat.add_comm]
theorem sq_len {ns : List Str} : (sq ns).length = ns.length * ns.length := by
  unfold sq
  rw [List.length_flatMap]
  simp only [List.length_map]
  exact sum_const
theorem es_congr {f g : Fn} {l : List (Str × Str)} (h : ∀ p ∈ l, f p.1 p.2 = g p.1 p.2) : es l f = es l g := List.map_congr_left fun p hp => by rw [h p hp]
/-! in their order -/
theorem sq_take {ns : List Str} {i j : Nat} {a b : Str} (nd : ns.Nodup) (ha : ns[i]? = some a) (hb : ns[j]? = some b) : (a, b) ∉ (ns.take i).flatMap (fun x => ns.map fun y => (x, y)) ++ (ns.take j).map fun y => (a, y) := by
  have out : ∀ {k : Nat} {c : Str}, ns[k]? = some c → c ∉ ns.take k := fun {k c} hc h => by
    obtain ⟨m, hm, e⟩ := List.mem_take_iff_getElem.mp h
    have hk := (List.getElem?_eq_some_iff.mp hc).1
    have e2 := (List.getElem?_eq_some_iff.mp hc).2
    have h1 : m < k := by omega
    have := (List.nodup_iff_pairwise_ne.mp nd) |> fun z => (List.pairwise_iff_getElem.mp z) m k (by omega) hk h1
    exact this (e.trans e2.symm)
  intro h
  rcases List.mem_append.mp h with h | h
  · obtain ⟨c, hc, h⟩ := List.mem_flatMap.mp h
    obtain ⟨d, _, e⟩ := List.mem_map.mp h
    cases e
    exact out ha hc
  · obtain ⟨d, hd, e⟩ := List.mem_map.mp h
    cases e
    exact out hb hd
end KT

set_option Elab.async false
set_option linter.all false
set_option maxRecDepth 100000
set_option maxHeartbeats 0
set_option pp.deepTerms false
set_option pp.deepTerms.threshold 8

namespace RD9
open PySem PySem.Spec PyProof.Rows L2
theorem mulr {i j : Int} (h1 : -(2 ^ 64) < j) (h2 : j < 2 ^ 64) : CMul i j := .inr ⟨h1, h2⟩
theorem divw {i j : Int} (h1 : 0 < j) (h2 : j.natAbs.log2 < 9000) : CDivW i j := ⟨h1, h2⟩
theorem mull {i j : Int} (h1 : -(2 ^ 64) < i) (h2 : i < 2 ^ 64) : CMul i j := .inl ⟨h1, h2⟩
theorem pow18 : CPow 10 18 := ⟨by decide, by decide, by decide⟩
theorem pow12 : CPow 10 12 := ⟨by decide, by decide, by decide⟩
theorem scalI {i j : Int} : scal (.int i) (.int j) = true := rfl
theorem scalS {i j : Str} : scal (.str i) (.str j) = true := rfl
theorem iteEqI {A B : Prop} {i j : Int} (h : if decide (i = j) = true then A else B) : if (if false = true then !decide (V.int i = V.int j) else decide (V.int i = V.int j)) = true then A else B := by
  rw [show decide (V.int i = V.int j) = decide (i = j) from decide_eq_decide.mpr ⟨fun e => V.int.inj e, fun e => congrArg _ e⟩]; exact h
theorem iteNeI {A B : Prop} {i j : Int} (h : if (!decide (i = j)) = true then A else B) : if (if true = true then !decide (V.int i = V.int j) else decide (V.int i = V.int j)) = true then A else B := by
  rw [show decide (V.int i = V.int j) = decide (i = j) from decide_eq_decide.mpr ⟨fun e => V.int.inj e, fun e => congrArg _ e⟩]; exact h
theorem iteEqS {A B : Prop} {i j : Str} (h : if decide (i = j) = true then A else B) : if (if false = true then !decide (V.str i = V.str j) else decide (V.str i = V.str j)) = true then A else B := by
  rw [show decide (V.str i = V.str j) = decide (i = j) from decide_eq_decide.mpr ⟨fun e => V.str.inj e, fun e => congrArg _ e⟩]; exact h
theorem iteNeS {A B : Prop} {i j : Str} (h : if (!decide (i = j)) = true then A else B) : if (if true = true then !decide (V.str i = V.str j) else decide (V.str i = V.str j)) = true then A else B := by
  rw [show decide (V.str i = V.str j) = decide (i = j) from decide_eq_decide.mpr ⟨fun e => V.str.inj e, fun e => congrArg _ e⟩]; exact h
theorem iteNF {A B : Prop} (h : A) : if (if true = true then !false else false) = true then A else B := h
theorem iteNT {A B : Prop} (h : B) : if (if true = true then !true else true) = true then A else B := h
theorem iteIF {A B : Prop} (h : B) : if (if false = true then !false else false) = true then A else B := h
theorem iteIT {A B : Prop} (h : A) : if (if false = true then !true else true) = true then A else B := h
theorem lkn {α : Type} {f : Str} {fs : List (Str × α)} (h : (List.lookup f fs).isNone = true) : List.lookup f fs = none := Option.isNone_iff_eq_none.mp h
theorem nd0 : ([] : List Nat).Nodup := .nil
theorem nd1 {a : Nat} : [a].Nodup := List.nodup_cons.mpr ⟨(fun h => nomatch h), .nil⟩
theorem nd2 {a b : Nat} (h : (a == b) = false) : [a, b].Nodup := List.nodup_cons.mpr ⟨(fun z => by rw [List.mem_singleton.mp z] at h; simp at h), nd1⟩
theorem sh0 {α : Type} : ([] : List α).length ≤ sizeLine := by show 0 ≤ sizeLine; decide
theorem sh1 {α : Type} {a : α} : [a].length ≤ sizeLine := by show 1 ≤ sizeLine; decide
theorem sh2 {α : Type} {a b : α} : [a, b].length ≤ sizeLine := by show 2 ≤ sizeLine; decide
theorem sh3 {α : Type} {a b c : α} : [a, b, c].length ≤ sizeLine := by show 3 ≤ sizeLine; decide
theorem sh4 {α : Type} {a b c d : α} : [a, b, c, d].length ≤ sizeLine := by show 4 ≤ sizeLine; decide
end RD9
local macro_rules
  | `(tactic| walk_at "da") => `(tactic| repeat (first | exact DR.args_n | apply DR.args_d | (apply DR.args_o; (with_unfolding_all rfl))))
local macro_rules
  | `(tactic| walk_at "dt") => `(tactic| repeat (first | exact DR.tk_n | (apply DR.tk_c; (with_unfolding_all rfl))))
local macro_rules
  | `(tactic| walk_at "dc") => `(tactic| first | (exact RD9.mulr (by decide) (by decide)) | (exact RD9.mull (by decide) (by decide)) | (exact RD9.mulr (by omega) (by omega)) | (exact RD9.mull (by omega) (by omega)) | (show (0 : Int) < _; first | decide | omega) | (exact RD9.divw (by decide) (by decide +kernel)) | (exact RD9.divw (by omega) (by decide +kernel)))
local macro_rules
  | `(tactic| walk_at "dd1") => `(tactic| with_reducible first
    | apply DR.op | (apply DR.var; (with_unfolding_all rfl)) | apply DR.const | apply DR.cons | apply DR.nil | apply DR.seq | apply DR.set | apply DR.tv | apply DR.built | apply DR.call | apply DR.consO
    | apply DR.if_ | apply DR.ifE | apply DR.ret | apply DR.retN | apply DR.next | apply DR.drop | apply DR.setO | apply DR.setLc | apply DR.par | apply DR.consk | apply DR.nilk | apply DR.unpack
    | (apply DR.fvar; (with_unfolding_all rfl)) | (apply DR.mvar; (with_unfolding_all rfl)) | apply DR.lst | apply DR.tup | apply DR.not | apply DR.and | apply DR.or | apply DR.boolE | apply DR.notv | apply DR.andv | apply DR.orv | apply DR.chain | apply DR.neg
    | (apply DR.ixo; (with_unfolding_all rfl)) | (apply DR.setItem; (with_unfolding_all rfl)) | (apply DR.meth; (with_unfolding_all rfl)) | (apply DR.builtO; (with_unfolding_all rfl))
    | apply DR.both | apply DR.sub | apply DR.newk | (apply DR.newl; (with_unfolding_all rfl)) | apply DR.callr | apply DR.starA | apply DR.tseq | apply DR.clsm | apply DR.owni | apply DR.tryc | apply DR.tryca | apply DR.tryo | apply DR.trym | apply DR.xf | apply DR.raiser | apply DR.methr | apply DR.clsmk | apply DR.join | apply DR.dzip | apply DR.getK | apply DR.index
    | apply DR.inLO | apply DR.enumi | apply DR.zipi | apply DR.zipm | apply DR.lenSet | apply DR.comp2 | apply DR.compX
    | apply DR.for_ | apply DR.comp | apply DR.yes | apply DR.nameg | apply DR.tupg | apply DR.namesC | apply DR.namesN | apply DR.listi | apply DR.tupi | apply DR.stri | apply DR.range1 | apply DR.raise
    | apply DR.newT | (apply DR.getO; (with_unfolding_all rfl)) | apply DR.getF | apply DR.put | apply DR.inO | apply DR.inF | apply DR.prop | refine ⟨⟨_, by with_unfolding_all rfl⟩, ?_⟩
    | apply DR.fld | (apply DR.fldo; (with_unfolding_all rfl); (with_unfolding_all rfl)) | apply DR.fldset | apply DR.make | apply DR.methd
    | apply RD9.iteEqI | apply RD9.iteNeI | apply RD9.iteEqS | apply RD9.iteNeS | refine ⟨RD9.scalI, ?_⟩ | refine ⟨RD9.scalS, ?_⟩
    | apply RD9.iteNF | apply RD9.iteNT | apply RD9.iteIF | apply RD9.iteIT
    | apply DR.iteT | apply DR.iteF | apply DR.nit | apply DR.nif
    | (apply DR.rt; walk_at "dt") | (apply DR.nx; walk_at "dt") | (apply DR.ex; walk_at "dt")
    | refine ⟨RD9.sh3, ?_⟩ | refine ⟨RD9.sh2, ?_⟩ | refine ⟨RD9.sh1, ?_⟩ | refine ⟨RD9.sh0, ?_⟩ | refine ⟨RD9.sh4, ?_⟩ | refine ⟨RD9.pow18, ?_⟩ | refine ⟨RD9.pow12, ?_⟩
    | refine ⟨DR.nost_i, ?_⟩ | refine ⟨DR.nost_b, ?_⟩ | refine ⟨DR.nost_n, ?_⟩
    | refine ⟨_, (by walk_at "da"), (by with_unfolding_all first | exact RD9.nd0 | exact RD9.nd1 | exact RD9.nd2 rfl), ?_⟩
    | refine ⟨_, _, _, by with_unfolding_all rfl, rfl, by with_unfolding_all rfl, ?_⟩
    | refine ⟨[_], rfl, ?_⟩ | refine ⟨[_, _], rfl, ?_⟩ | refine ⟨[], rfl, ?_⟩ | refine ⟨[_, _, _], rfl, ?_⟩ | refine ⟨[_, _, _, _], rfl, ?_⟩ | refine ⟨[_, _, _, _, _], rfl, ?_⟩ | refine ⟨[_, _, _, _, _, _], rfl, ?_⟩
    | refine ⟨_, _, rfl, rfl, by with_unfolding_all walk_at "dc", ?_⟩
    | refine ⟨_, _, rfl, rfl, ?_⟩
    | refine ⟨_, rfl, _, rfl, ?_⟩
    | refine ⟨_, rfl, ?_⟩
    | refine ⟨_, _, rfl, ?_⟩
    | refine ⟨_, .inl rfl, ?_⟩
    | refine ⟨RD9.lkn (by with_unfolding_all rfl), ?_⟩
   )
local macro_rules
  | `(tactic| walk_at "dd") => `(tactic| repeat walk_at "dd1")

namespace KT
open PySem PySem.Spec PyProof.Rows L2 DL
def top (i : Nat) : Stmt := PySem.Challenge.pw_coveredday_k19_whole_tables_are_their_mo.main.body.getD i (.Pass ⟨0, 0, 0, 0⟩)
structure TxtB (mg : Str → Option Value) : Prop where
  b_int : mg "int" = none
  b_abs : mg "abs" = none
  b_len : mg "len" = none
  b_range : mg "range" = none
  b_min : mg "min" = none
/-- a source of draws: at most n of them are made -/
def Src (n : Nat) (xs : List D) : Prop := ∃ x y z : Int, xs = [.int x, .int y, .int z] ∧ 0 ≤ y ∧ y ≤ 12000000000000000000 ∧ 0 ≤ z ∧ z ≤ n
def sdDraw : SpD := fun as Q _ => ∃ (xs : List D) (m : Int) (n : Nat), as = [.own (.lst xs), .d (.int m)] ∧ Src n xs ∧ n < 1000000000 ∧ 0 < m ∧ m < 2 ^ 64 ∧ ∀ (r : Int) (ys : List D), 0 ≤ r → r < m → Src (n + 1) ys → Q (.d (.int r)) [.lst ys]
section
variable {P : Program} {w : World} {K : PySem.W.Frag} {mg : Str → Option Value} {base : Heap}
abbrev s_law_draw : Stmt := top 43
theorem sc_law_draw : FnScope ["_law_source_here", "_law_many", "_law_digit", "_law_mixed"] ["_law_source_here", "_law_many"] (defScope s_law_draw) := ⟨rfl, rfl, rfl, by decide +kernel, rfl, by decide +kernel, by decide +kernel⟩
theorem ok_draw {f : Addr} {fd : FuncData} (G : Fun K "_law_draw" "_law_draw" s_law_draw f fd) (T : TxtB mg) : FnOk P w K mg base (L2.CX P w) 1 f fd ["_law_source_here", "_law_many"] (spOf K sdDraw) := by
  refine okD G sc_law_draw [0] (fun as Q E ⟨xs, m, n, e, _⟩ => by subst e; exact ⟨rfl, rfl⟩) ⟨_, fun cdv A outer s H E ad F0 H0 hr => (pds_cons (psd_if (ptd_cmp op_gt (op2_I0 fun _ _ _ => .bl _) (pd_ixO (i := 0) (pv 0) (pd_const pe_int (fun _ => .int _)) (fun _ _ => rfl)) (pd_const pe_int (fun _ => .int _)) (nomark _)) (pds_cons (psd_set (i := 2) (pd_op op_mod (op2_I fun _ _ _ => .int _) (pd_builtB (fun h => pe_callTy call_int1 (by rfl) T.b_int (by decide +kernel) h) cn_int.op (pda_cons (pd_ixO (i := 0) (pv 0) (pd_const pe_int (fun _ => .int _)) (fun _ _ => rfl)) pda_nil)) (pd_var (pv 1))) (by show ¬ (2 ∈ ([0] : List Nat)); decide) sc_law_draw.nd rfl (.inl rfl))
      (pds_cons (psd_setItem (j := 0) (fun h g => ps_asg h g) (fun ho hi hs => pg_sub ho hi hs) (pv 0) (pd_op op_fdivW (op2_I fun _ _ _ => .int _) (pd_ixO (i := 0) (pv 0) (pd_const pe_int (fun _ => .int _)) (fun _ _ => rfl)) (pd_var (pv 1))) (pd_const pe_int (fun _ => .int _)))
      (pds_one (psd_ret (pd_var (pv 2)))))) pds_nil)
      (pds_cons (psd_setItem (j := 0) (fun h g => ps_asg h g) (fun ho hi hs => pg_sub ho hi hs) (pv 0) (pd_op op_add (op2_I0 fun _ _ _ => .int _) (pd_ixO (i := 0) (pv 0) (pd_const pe_int (fun _ => .int _)) (fun _ _ => rfl)) (pd_const pe_int (fun _ => .int _))) (pd_const pe_int (fun _ => .int _)))
      (pds_cons (psd_set (i := 3) (pd_op op_mod (op2_I fun _ _ _ => .int _) (pd_builtB (fun h => pe_callTy call_int1 (by rfl) T.b_int (by decide +kernel) h) cn_int.op (pda_cons (pd_op op_add (op2_I0 fun _ _ _ => .int _) (pd_op op_pow (op2_I fun _ _ _ => .int _) (pd_op op_add (op2_I0 fun _ _ _ => .int _) (pd_ixO (i := 0) (pv 0) (pd_const pe_int (fun _ => .int _)) (fun _ _ => rfl)) (pd_op op_mul (op2_I fun _ _ _ => .int _) (pd_const pe_int (fun _ => .int _)) (pd_ixO (i := 0) (pv 0) (pd_const pe_int (fun _ => .int _)) (fun _ _ => rfl)))) (pd_const pe_int (fun _ => .int _))) (pd_op op_mul (op2_I fun _ _ _ => .int _) (pd_const pe_int (fun _ => .int _)) (pd_ixO (i := 0) (pv 0) (pd_const pe_int (fun _ => .int _)) (fun _ _ => rfl)))) pda_nil)) (pd_const pe_int (fun _ => .int _))) (by show ¬ (3 ∈ ([0] : List Nat)); decide) sc_law_draw.nd rfl (.inl rfl))
      (pds_cons (psd_set (i := 3) (pd_op op_mod (op2_I fun _ _ _ => .int _) (pd_builtB (fun h => pe_callTy call_int1 (by rfl) T.b_int (by decide +kernel) h) cn_int.op (pda_cons (pd_op op_pow (op2_I fun _ _ _ => .int _) (pd_op op_add (op2_I0 fun _ _ _ => .int _) (pd_var (pv 3)) (pd_op op_mul (op2_I fun _ _ _ => .int _) (pd_const pe_int (fun _ => .int _)) (pd_ixO (i := 0) (pv 0) (pd_const pe_int (fun _ => .int _)) (fun _ _ => rfl)))) (pd_const pe_int (fun _ => .int _))) pda_nil)) (pd_const pe_int (fun _ => .int _))) (by show ¬ (3 ∈ ([0] : List Nat)); decide) sc_law_draw.nd rfl (.inl rfl))
      (pds_one (psd_ret (pd_op op_mod (op2_I fun _ _ _ => .int _) (pd_builtB (fun h => pe_callTy call_int1 (by rfl) T.b_int (by decide +kernel) h) cn_int.op (pda_cons (pd_op op_fdivW (op2_I fun _ _ _ => .int _) (pd_var (pv 3)) (pd_const pe_int (fun _ => .int _))) pda_nil)) (pd_var (pv 1))))))))), ?_⟩
  rintro as Qd Ed ⟨xs, m, n, rfl, ⟨x, y, z, rfl, y0, y1, z0, z1⟩, hn, m0, m1, k⟩
  refine DR.start (δ' := [some (.own (.lst [.int x, .int y, .int z])), some (.d (.int m)), none, none]) rfl ?_
  walk_at "dd"
  refine DR.split (fun c => ?_) (fun c => ?_)
  · walk_at "dd"
    refine ⟨wide_div m0 (b := 64) (by omega) (by decide) (by decide), ?_⟩
    walk_at "dd"
    exact k _ _ (Int.emod_nonneg _ (by omega)) (Int.emod_lt_of_pos _ m0) ⟨_, y, z, rfl, y0, y1, z0, by omega⟩
  · walk_at "dd"
    refine ⟨⟨by decide, by decide, by omega⟩, ?_⟩
    walk_at "dd"
    have h1 : 0 ≤ ((y + 7919 * (z + 1)) ^ (2 : Int).toNat + 32452843 * (z + 1)) % 2305843009213693951 := Int.emod_nonneg _ (by decide)
    have h2 : ((y + 7919 * (z + 1)) ^ (2 : Int).toNat + 32452843 * (z + 1)) % 2305843009213693951 < 2305843009213693951 := Int.emod_lt_of_pos _ (by decide)
    refine ⟨⟨by decide, by decide, by omega⟩, ?_⟩
    walk_at "dd"
    exact k _ _ (Int.emod_nonneg _ (by omega)) (Int.emod_lt_of_pos _ m0) ⟨x, y, z + 1, rfl, y0, y1, by omega, by omega⟩
end
end KT

set_option Elab.async false
set_option linter.all false
set_option maxRecDepth 100000
set_option maxHeartbeats 0
set_option pp.deepTerms false
set_option pp.deepTerms.threshold 8


namespace KT
open PySem PySem.Spec PyProof.Rows L2 DL
theorem atI_map {f : α → β} {xs : List α} {i : Nat} {x : α} (h : xs[i]? = some x) : atI (xs.map f) (i : Int) = some (f x) := by
  unfold atI
  rw [List.length_map]
  have hl : i < xs.length := by
    rcases Nat.lt_or_ge i xs.length with h1 | h1
    · exact h1
    · rw [List.getElem?_eq_none h1] at h; cases h
  have e : ixN xs.length (i : Int) = some i := by
    unfold ixN
    rw [if_pos (by omega)]
    simp [hl]
  rw [e]
  show (xs.map f)[i]? = _
  rw [List.getElem?_map, h]
  rfl
theorem draw {xs : List D} {m : Int} {n : Nat} {Q : DV → List OC → Prop} {E : Ex → List OC → Prop} (s : Src n xs) (h : n < 1000000000) (m0 : 0 < m) (m1 : m < 2 ^ 64) (k : ∀ (r : Int) (ys : List D), 0 ≤ r → r < m → Src (n + 1) ys → Q (.d (.int r)) [.lst ys]) : sdDraw [.own (.lst xs), .d (.int m)] Q E := ⟨xs, m, n, rfl, s, h, m0, m1, k⟩
def sdSource : SpD := fun as Q _ => ∃ (zs : List Int) (p : Nat), as = [.d (.lst (zs.map .int)), .d (.int p)] ∧ p < 64 ∧ ∀ xs, Src 0 xs → Q (.own (.lst xs)) []
section
variable {P : Program} {w : World} {K : PySem.W.Frag} {mg : Str → Option Value} {base : Heap}
abbrev s_law_source : Stmt := top 42
theorem sc_law_source : FnScope ["_law_script", "_law_place", "_law_cell"] ["_law_script", "_law_place"] (defScope s_law_source) := ⟨rfl, rfl, rfl, by decide +kernel, rfl, by decide +kernel, by decide +kernel⟩
theorem ok_source {f : Addr} {fd : FuncData} (G : Fun K "_law_source" "_law_source" s_law_source f fd) (T : TxtB mg) : FnOk P w K mg base (L2.CX P w) 1 f fd ["_law_script", "_law_place"] (spOf K sdSource) := by
  refine okD G sc_law_source [] (fun as Q E ⟨xs, m, e, _⟩ => by subst e; exact ⟨rfl, rfl⟩) ⟨_, fun cdv A outer s H E ad F0 H0 hr => (pds_cons (psd_set (i := 2) (pd_ifExp (ptd_cmp op_lt (op2_I0 fun _ _ _ => .bl _) (pd_var (pv 1)) (pd_builtB (fun h => pe_callB call_len_seq (by rfl) T.b_len (by decide +kernel) h) cn_len.op (pda_cons (pd_var (pv 0)) pda_nil)) (nomark _)) (pd_ix ix_list op2_ixL (pd_var (pv 0)) (pd_var (pv 1)) (fun _ _ => rfl)) (pd_const pe_int (fun _ => .int _))) (by show ¬ (2 ∈ ([] : List Nat)); decide) sc_law_source.nd rfl (.inl rfl))
      (pds_one (psd_ret (pd_lst (fun h => pe_lst h) (pda_cons (pd_ifExp (ptd_cmp op_ge (op2_I0 fun _ _ _ => .bl _) (pd_builtB (fun h => pe_callB call_abs (by rfl) T.b_abs (by decide +kernel) h) cn_abs.op (pda_cons (pd_var (pv 2)) pda_nil)) (pd_op op_pow (op2_I fun _ _ _ => .int _) (pd_const pe_int (fun _ => .int _)) (pd_const pe_int (fun _ => .int _))) (nomark _)) (pd_builtB (fun h => pe_callB call_abs (by rfl) T.b_abs (by decide +kernel) h) cn_abs.op (pda_cons (pd_var (pv 2)) pda_nil)) (pd_const pe_int (fun _ => .int _))) (pda_cons (pd_op op_add (op2_I0 fun _ _ _ => .int _) (pd_op op_add (op2_I0 fun _ _ _ => .int _) (pd_op op_mul (op2_I fun _ _ _ => .int _) (pd_op op_mod (op2_I fun _ _ _ => .int _) (pd_builtB (fun h => pe_callTy call_int1 (by rfl) T.b_int (by decide +kernel) h) cn_int.op (pda_cons (pd_var (pv 2)) pda_nil)) (pd_const pe_int (fun _ => .int _))) (pd_const pe_int (fun _ => .int _))) (pd_op op_mul (op2_I fun _ _ _ => .int _) (pd_const pe_int (fun _ => .int _)) (pd_var (pv 1)))) (pd_const pe_int (fun _ => .int _))) (pda_cons (pd_const pe_int (fun _ => .int _)) pda_nil))))))), ?_⟩
  rintro as Qd Ed ⟨zs, p, rfl, hp, k⟩
  refine DR.start (δ' := [some (.d (.lst (zs.map .int))), some (.d (.int p)), none]) rfl ?_
  have fin : ∀ a c : Int, Qd (.own (.lst [.int a, .int (c % 1000000000000000003 * 11 + 104729 * p + 15485863), .int 0])) [] := fun a c => by
    have h1 : 0 ≤ c % 1000000000000000003 := Int.emod_nonneg _ (by decide)
    have h2 : c % 1000000000000000003 < 1000000000000000003 := Int.emod_lt_of_pos _ (by decide)
    exact k _ ⟨_, _, _, rfl, by omega, by omega, by omega, by omega⟩
  walk_at "dd"
  refine DR.split (fun c => ?_) (fun c => ?_)
  · walk_at "dd"
    have hl : p < zs.length := by rw [List.length_map] at c; omega
    refine ⟨_, _, .inl rfl, atI_map (List.getElem?_eq_getElem hl), ?_⟩
    generalize zs[p] = cell
    walk_at "dd"
    refine DR.split (fun c => ?_) (fun c => ?_)
    · walk_at "dd"
      exact fin _ _
    · walk_at "dd"
      exact fin _ _
  · walk_at "dd"
    refine DR.split (fun c => ?_) (fun c => ?_)
    · walk_at "dd"
      exact fin _ _
    · walk_at "dd"
      exact fin _ _
abbrev s_law_size : Stmt := top 45
theorem sc_law_size : FnScope ["_law_source_here", "_law_sort"] ["_law_source_here"] (defScope s_law_size) := ⟨rfl, rfl, rfl, by decide +kernel, rfl, by decide +kernel, by decide +kernel⟩
def sdSize : SpD := fun as Q _ => ∃ (xs : List D) (n : Nat), as = [.own (.lst xs)] ∧ Src n xs ∧ n < 999999998 ∧ ∀ (r : Int) (ys : List D), 0 ≤ r → r ≤ 1000000000000 → Src (n + 2) ys → Q (.d (.int r)) [.lst ys]
theorem ok_size (D_law_draw : DefD P w K mg base "_law_draw" 1 ["_law_source_here", "_law_many"] sdDraw) {f : Addr} {fd : FuncData} (G : Fun K "_law_size" "_law_size" s_law_size f fd) (T : TxtB mg) : FnOk P w K mg base (L2.CX P w) 3 f fd ["_law_source_here"] (spOf K sdSize) := by
  refine okD G sc_law_size [0] (fun as Q E ⟨xs, m, e, _⟩ => by subst e; exact ⟨rfl, rfl⟩) ⟨_, fun cdv A outer s H E ad F0 H0 hr => (pds_cons (psd_set (i := 1) (pd_call D_law_draw.ok (hr.mono (by decide)) (by rfl) D_law_draw.mg D_law_draw.kp D_law_draw.b (takes_of rfl rfl rfl rfl) (pda_own (i := 0) (pv 0) (pda_cons (pd_const pe_int (fun _ => .int _)) pda_nil))) (by show ¬ (1 ∈ ([0] : List Nat)); decide) sc_law_size.nd rfl (.inl rfl))
      (pds_cons (psd_if (ptd_cmp op_eq op2_eq.op (pd_var (pv 1)) (pd_const pe_int (fun _ => .int _)) (nomark _)) (pds_one (psd_ret (pd_call D_law_draw.ok (hr.mono (by decide)) (by rfl) D_law_draw.mg D_law_draw.kp D_law_draw.b (takes_of rfl rfl rfl rfl) (pda_own (i := 0) (pv 0) (pda_cons (pd_op op_add (op2_I0 fun _ _ _ => .int _) (pd_op op_pow (op2_I fun _ _ _ => .int _) (pd_const pe_int (fun _ => .int _)) (pd_const pe_int (fun _ => .int _))) (pd_const pe_int (fun _ => .int _))) pda_nil))))) pds_nil)
      (pds_one (psd_ret (pd_call D_law_draw.ok (hr.mono (by decide)) (by rfl) D_law_draw.mg D_law_draw.kp D_law_draw.b (takes_of rfl rfl rfl rfl) (pda_own (i := 0) (pv 0) (pda_cons (pd_ifExp (ptd_cmp op_eq op2_eq.op (pd_var (pv 1)) (pd_const pe_int (fun _ => .int _)) (nomark _)) (pd_const pe_int (fun _ => .int _)) (pd_const pe_int (fun _ => .int _))) pda_nil))))))), ?_⟩
  rintro as Qd Ed ⟨xs, n, rfl, hs, hn, k⟩
  refine DR.start (δ' := [some (.own (.lst xs)), none]) rfl ?_
  walk_at "dd"
  refine draw hs (by omega) (by decide) (by decide) fun r ys r0 r1 hs => ?_
  walk_at "dd"
  refine DR.split (fun c => ?_) (fun c => ?_)
  · walk_at "dd"
    refine draw hs (by omega) (by decide) (by decide) fun r ys r0 r1 hs => ?_
    walk_at "dd"
    exact k _ _ r0 (Int.le_of_lt_add_one r1) hs
  · walk_at "dd"
    refine DR.split (fun c => ?_) (fun c => ?_)
    · walk_at "dd"
      refine draw hs (by omega) (by decide) (by decide) fun r ys r0 r1 hs => ?_
      walk_at "dd"
      exact k _ _ r0 (by omega) hs
    · walk_at "dd"
      refine draw hs (by omega) (by decide) (by decide) fun r ys r0 r1 hs => ?_
      walk_at "dd"
      exact k _ _ r0 (by omega) hs
end
end KT

set_option Elab.async false
set_option linter.all false
set_option maxRecDepth 100000
set_option maxHeartbeats 0
set_option pp.deepTerms false
set_option pp.deepTerms.threshold 8


namespace KT
open PySem PySem.Spec PyProof.Rows L2 DL
def Nm (g : Str) : Prop := g ≠ "cash" ∧ 1 ≤ g.length ∧ g.length ≤ 12 ∧ ∀ c ∈ g.cps.toList, 97 ≤ c ∧ c ≤ 122
def Goods (gs : List Str) : Prop := gs.Nodup ∧ 1 ≤ gs.length ∧ gs.length ≤ 5 ∧ ∀ g ∈ gs, Nm g
def Low (z : Str) : Prop := ∀ c ∈ z.cps.toList, 97 ≤ c ∧ c ≤ 122
def keyOf (b : Bool) (g : Str) : Option Nat := if b then g.cps.toList.getLast? else g.cps.toList.head?
def keys : List (Option Nat) := [some 116, some 112, some 114, some 113, some 115]
def sg (c : Nat) : Str := ⟨#[c]⟩
def kc (i : Nat) : Nat := [116, 112, 114, 113, 115].getD i 0
theorem abz_at {r : Int} (h0 : 0 ≤ r) (h1 : r < 26) : atI (Str.ofString "abcdefghijklmnopqrstuvwxyz").cps.toList r = some (97 + r.toNat) := by
  have e : ∀ k : Fin 26, atI (Str.ofString "abcdefghijklmnopqrstuvwxyz").cps.toList (k.val : Int) = some (97 + k.val) := by decide +kernel
  have := e ⟨r.toNat, by omega⟩
  rwa [Int.toNat_of_nonneg h0] at this
theorem tp_at {i : Nat} (h : i < 5) : atI (Str.ofString "tprqs").cps.toList (i : Int) = some (kc i) := by
  have e : ∀ k : Fin 5, atI (Str.ofString "tprqs").cps.toList (k.val : Int) = some (kc k.val) := by decide +kernel
  exact e ⟨i, h⟩
theorem kc_low {i : Nat} (h : i < 5) : 97 ≤ kc i ∧ kc i ≤ 122 := by
  have e : ∀ k : Fin 5, 97 ≤ kc k.val ∧ kc k.val ≤ 122 := by decide
  exact e ⟨i, h⟩
theorem keys_at {i : Nat} (h : i < 5) : keys[i]? = some (some (kc i)) := by
  have e : ∀ k : Fin 5, keys[k.val]? = some (some (kc k.val)) := by decide
  exact e ⟨i, h⟩
theorem str_cps {a b : Str} : (a ++ b).cps.toList = a.cps.toList ++ b.cps.toList := Array.toList_append
theorem str_len {a b : Str} : (a ++ b).length = a.length + b.length := Array.size_append
theorem sg_cps {c : Nat} : (sg c).cps.toList = [c] := rfl
theorem sg_len {c : Nat} : (sg c).length = 1 := rfl
theorem low_app {a b : Str} (h1 : Low a) (h2 : Low b) : Low (a ++ b) := fun c hc => by
  rw [str_cps] at hc
  exact (List.mem_append.mp hc).elim (h1 c) (h2 c)
theorem low_sg {c : Nat} (h : 97 ≤ c ∧ c ≤ 122) : Low (sg c) := fun d hd => by
  rw [sg_cps] at hd
  cases hd with
  | head => exact h
  | tail _ h => cases h
theorem upto_at {m i : Nat} {x : D} (h : (upto 0 m)[i]? = some x) : x = .int i ∧ i < m := by
  unfold upto at h
  rw [List.getElem?_map] at h
  rcases Nat.lt_or_ge i m with hi | hi
  · rw [List.getElem?_range hi] at h
    cases h
    exact ⟨by show D.int (0 + (i : Int)) = _; rw [Int.zero_add], hi⟩
  · rw [List.getElem?_eq_none (by rw [List.length_range]; exact hi)] at h
    cases h
theorem upto_len {m : Nat} : (upto 0 m).length = m := by
  unfold upto
  simp
theorem nodup_map {α β : Type} {f : α → β} {l : List α} (h : (l.map f).Nodup) : l.Nodup := by
  induction l with
  | nil => exact .nil
  | cons a l ih =>
    rw [List.map_cons, List.nodup_cons] at h
    exact List.nodup_cons.mpr ⟨fun z => h.1 (List.mem_map_of_mem z), ih h.2⟩
theorem nm_of {b : Bool} {i : Nat} {z : Str} (hi : i < 5) (hz : z.length ≤ 11) (hl : Low z) : Nm (if b = true then z ++ sg (kc i) else sg (kc i) ++ z) ∧ keyOf b (if b = true then z ++ sg (kc i) else sg (kc i) ++ z) = some (kc i) := by
  have hk : keyOf b (if b = true then z ++ sg (kc i) else sg (kc i) ++ z) = some (kc i) := by
    cases b
    · show (sg (kc i) ++ z).cps.toList.head? = _
      rw [str_cps, sg_cps]
      rfl
    · show (z ++ sg (kc i)).cps.toList.getLast? = _
      rw [str_cps, sg_cps]
      simp
  refine ⟨⟨fun e => ?_, ?_, ?_, ?_⟩, hk⟩
  · rw [e] at hk
    have h1 : ∀ b : Bool, ∀ k : Fin 5, ¬ keyOf b "cash" = some (kc k.val) := by decide +kernel
    exact h1 b ⟨i, hi⟩ hk
  · cases b <;> (simp only [Bool.false_eq_true, if_true, if_false, str_len, sg_len]; omega)
  · cases b <;> (simp only [Bool.false_eq_true, if_true, if_false, str_len, sg_len]; omega)
  · cases b
    · exact low_app (low_sg (kc_low hi)) hl
    · exact low_app hl (low_sg (kc_low hi))
/-- names that end, or that begin, with one of five letters -/
def Fro (gs : List Str) : Prop := ∃ b, ∀ g ∈ gs, keyOf b g ∈ keys
def sdGoods : SpD := fun as Q _ => ∃ (xs : List D) (n k : Nat), as = [.own (.lst xs), .d (.int k)] ∧ Src n xs ∧ n < 999999000 ∧ 1 ≤ k ∧ k ≤ 5 ∧ ∀ (gs : List Str) (ys : List D) (m : Nat), Goods gs → gs.length ≤ k → Fro gs → m ≤ n + 100 → Src m ys → Q (.own (.lst (gs.map .str))) [.lst ys]
section
variable {P : Program} {w : World} {K : PySem.W.Frag} {mg : Str → Option Value} {base : Heap}
abbrev s_law_goods : Stmt := top 44
theorem sc_law_goods : FnScope ["_law_source_here", "_law_most", "_law_many", "_law_at_end", "_law_found", "_law_place", "_law_letters", "_law_turn"] ["_law_source_here", "_law_most"] (defScope s_law_goods) := ⟨rfl, rfl, rfl, by decide +kernel, rfl, by decide +kernel, by decide +kernel⟩
theorem ok_goods (D_law_draw : DefD P w K mg base "_law_draw" 1 ["_law_source_here", "_law_many"] sdDraw) {f : Addr} {fd : FuncData} (G : Fun K "_law_goods" "_law_goods" s_law_goods f fd) (T : TxtB mg) : FnOk P w K mg base (L2.CX P w) 3 f fd ["_law_source_here", "_law_most"] (spOf K sdGoods) := by
  refine okD G sc_law_goods [0] (fun as Q E ⟨xs, m, kk, e, _⟩ => by subst e; exact ⟨rfl, rfl⟩) ⟨_, fun cdv A outer s H E ad F0 H0 hr => (pds_cons (psd_set (i := 2) (pd_builtB (fun h => pe_callB (call_min2 rfl) (by rfl) T.b_min (by decide +kernel) h) cn_two.op (pda_cons (pd_var (pv 1)) (pda_cons (pd_ifExp (ptd_cmp op_gt (op2_I0 fun _ _ _ => .bl _) (pd_call D_law_draw.ok (hr.mono (by decide)) (by rfl) D_law_draw.mg D_law_draw.kp D_law_draw.b (takes_of rfl rfl rfl rfl) (pda_own (i := 0) (pv 0) (pda_cons (pd_const pe_int (fun _ => .int _)) pda_nil))) (pd_const pe_int (fun _ => .int _)) (nomark _)) (pd_op op_add (op2_I0 fun _ _ _ => .int _) (pd_const pe_int (fun _ => .int _)) (pd_call D_law_draw.ok (hr.mono (by decide)) (by rfl) D_law_draw.mg D_law_draw.kp D_law_draw.b (takes_of rfl rfl rfl rfl) (pda_own (i := 0) (pv 0) (pda_cons (pd_const pe_int (fun _ => .int _)) pda_nil)))) (pd_op op_add (op2_I0 fun _ _ _ => .int _) (pd_const pe_int (fun _ => .int _)) (pd_call D_law_draw.ok (hr.mono (by decide)) (by rfl) D_law_draw.mg D_law_draw.kp D_law_draw.b (takes_of rfl rfl rfl rfl) (pda_own (i := 0) (pv 0) (pda_cons (pd_const pe_int (fun _ => .int _)) pda_nil))))) pda_nil))) (by show ¬ (2 ∈ ([0] : List Nat)); decide) sc_law_goods.nd rfl (.inl rfl))
      (pds_cons (psd_set (i := 3) (pd_cmp op_eq op2_eq.op (pd_call D_law_draw.ok (hr.mono (by decide)) (by rfl) D_law_draw.mg D_law_draw.kp D_law_draw.b (takes_of rfl rfl rfl rfl) (pda_own (i := 0) (pv 0) (pda_cons (pd_const pe_int (fun _ => .int _)) pda_nil))) (pd_const pe_int (fun _ => .int _)) (nomark _)) (by show ¬ (3 ∈ ([0] : List Nat)); decide) sc_law_goods.nd rfl (.inl rfl))
      (pds_cons (psd_setO (i := 4) (pd_lst (fun h => pe_lst h) pda_nil) (by show ¬ (4 ∈ ([0] : List Nat)); decide) sc_law_goods.nd rfl (.inl rfl))
      (pds_cons (psd_for (passes_of rfl) rfl (pid_range1 (by rfl) T.b_range (pda_cons (pd_var (pv 2)) pda_nil)) (pgd_name (i := 5) (vs := [5]) (pg_name (i := 5) sc_law_goods.nd rfl (.inl rfl)) (by show ¬ (5 ∈ ([0] : List Nat)); decide) (by decide))
      (pds_cons (psd_set (i := 6) (pd_const pe_str (fun _ => .str (by decide +kernel))) (by show ¬ (6 ∈ ([0] : List Nat)); decide) sc_law_goods.nd rfl (.inl rfl))
      (pds_cons (psd_for (passes_of rfl) rfl (pid_range1 (by rfl) T.b_range (pda_cons (pd_ifExp (ptd_cmp op_eq op2_eq.op (pd_call D_law_draw.ok (hr.mono (by decide)) (by rfl) D_law_draw.mg D_law_draw.kp D_law_draw.b (takes_of rfl rfl rfl rfl) (pda_own (i := 0) (pv 0) (pda_cons (pd_const pe_int (fun _ => .int _)) pda_nil))) (pd_const pe_int (fun _ => .int _)) (nomark _)) (pd_const pe_int (fun _ => .int _)) (pd_call D_law_draw.ok (hr.mono (by decide)) (by rfl) D_law_draw.mg D_law_draw.kp D_law_draw.b (takes_of rfl rfl rfl rfl) (pda_own (i := 0) (pv 0) (pda_cons (pd_const pe_int (fun _ => .int _)) pda_nil)))) pda_nil)) (pgd_name (i := 7) (vs := [7]) (pg_name (i := 7) sc_law_goods.nd rfl (.inl rfl)) (by show ¬ (7 ∈ ([0] : List Nat)); decide) (by decide))
      (pds_one (psd_set (i := 6) (pd_op op_add_str op2_addS (pd_var (pv 6)) (pd_ix ix_str op2_ixS (pd_const pe_str (fun _ => .str (by decide +kernel))) (pd_call D_law_draw.ok (hr.mono (by decide)) (by rfl) D_law_draw.mg D_law_draw.kp D_law_draw.b (takes_of rfl rfl rfl rfl) (pda_own (i := 0) (pv 0) (pda_cons (pd_const pe_int (fun _ => .int _)) pda_nil))) (fun _ _ => rfl))) (by show ¬ (6 ∈ ([0] : List Nat)); decide) sc_law_goods.nd rfl (.inl rfl))))
      (pds_one (psd_expr (pd_methO (j := 4) (fun ho h => pe_bm PySem.F.plainAttrs_list PySem.F.slot_list_append PySem.F.type_list_append mt_append ho h) mo_append (pv 4) (pda_cons (pd_ifExp (ptd_val (pd_var (pv 3)) (fun h => pt_val h)) (pd_op op_add_str op2_addS (pd_var (pv 6)) (pd_ix ix_str op2_ixS (pd_const pe_str (fun _ => .str (by decide +kernel))) (pd_var (pv 5)) (fun _ _ => rfl))) (pd_op op_add_str op2_addS (pd_ix ix_str op2_ixS (pd_const pe_str (fun _ => .str (by decide +kernel))) (pd_var (pv 5)) (fun _ _ => rfl)) (pd_var (pv 6)))) pda_nil)))))))
      (pds_one (psd_ret (pd_mvar (pv 4) (by show ¬ (4 ∈ ([0] : List Nat)); decide)))))))), ?_⟩
  rintro as Qd Ed ⟨xs, n, kk, rfl, hs, hn, kk1, kk5, k⟩
  refine DR.start (δ' := [some (.own (.lst xs)), some (.d (.int kk)), none, none, none, none, none, none]) rfl ?_
  refine DR.cut (fun δ => ∃ ys m mn, δ = [some (.own (.lst ys)), some (.d (.int kk)), some (.d (.int mn)), none, none, none, none, none] ∧ Src m ys ∧ m ≤ n + 2 ∧ 1 ≤ mn ∧ mn ≤ kk) (fun N kN => ?_) ?_
  · walk_at "dd"
    refine draw hs (by omega) (by decide) (by decide) fun r ys r0 r1 hs => ?_
    walk_at "dd"
    refine DR.split (fun c => ?_) (fun c => ?_)
    · walk_at "dd"
      refine draw hs (by omega) (by decide) (by decide) fun r ys r0 r1 hs => ?_
      walk_at "dd"
      exact kN _ ⟨ys, _, _, rfl, hs, by omega, (by show (1 : Int) ≤ if 1 + r < kk then 1 + r else kk; split <;> omega), (by show (if 1 + r < kk then 1 + r else kk : Int) ≤ kk; split <;> omega)⟩
    · walk_at "dd"
      refine draw hs (by omega) (by decide) (by decide) fun r ys r0 r1 hs => ?_
      walk_at "dd"
      exact kN _ ⟨ys, _, _, rfl, hs, by omega, (by show (1 : Int) ≤ if 4 + r < kk then 4 + r else kk; split <;> omega), (by show (if 4 + r < kk then 4 + r else kk : Int) ≤ kk; split <;> omega)⟩
  rintro δ ⟨ys, m, mn, rfl, hs, hm, h1, h5⟩
  walk_at "dd"
  refine draw hs (by omega) (by decide) (by decide) fun r ys r0 r1 hs => ?_
  walk_at "dd"
  generalize (if false = true then !decide (V.int r = V.int 0) else decide (V.int r = V.int 0)) = b
  refine ⟨by omega, by omega, DR.for_inv (fun i δ => ∃ gs ys m p l t, δ = [some (.own (.lst ys)), some (.d (.int kk)), some (.d (.int mn)), some (.d (.bl b)), some (.own (.lst (gs.map .str))), p, l, t] ∧ Src m ys ∧ m ≤ n + 3 + 14 * i ∧ gs.map (keyOf b) = keys.take i ∧ ∀ g ∈ gs, Nm g) ⟨[], ys, _, _, _, _, rfl, hs, by omega, rfl, fun g h => nomatch h⟩ ?_ ?_⟩
  · rintro i x δ N hx ⟨gs, ys, m, p, l, t, rfl, hs, hm, hk, hg⟩ kN
    obtain ⟨rfl, hi⟩ := upto_at hx
    refine DR.nameg (DR.seq (DR.set (DR.const ?_)))
    with_reducible refine DR.cut (fun δ => ∃ ys m z t, δ = [some (.own (.lst ys)), some (.d (.int kk)), some (.d (.int mn)), some (.d (.bl b)), some (.own (.lst (gs.map .str))), some (.d (.int i)), some (.d (.str z)), t] ∧ Src m ys ∧ m ≤ n + 16 + 14 * i ∧ z.length ≤ 11 ∧ Low z) (fun N2 kN2 => ?_) ?_
    · with_reducible refine DR.for_ ?_
      with_reducible refine DR.icut (fun xs δ => ∃ (ys : List D) (c : Int), xs = upto 0 c.toNat ∧ c ≤ 11 ∧ δ = [some (.own (.lst ys)), some (.d (.int kk)), some (.d (.int mn)), some (.d (.bl b)), some (.own (.lst (gs.map .str))), some (.d (.int i)), some (.d (.str "")), t] ∧ ∃ m', Src m' ys ∧ m' ≤ m + 2) (fun N3 kN3 => ?_) ?_
      · walk_at "dd"
        refine draw hs (by omega) (by decide) (by decide) fun r ys r0 r1 hs => ?_
        walk_at "dd"
        refine DR.split (fun c => ?_) (fun c => ?_)
        · walk_at "dd"
          exact ⟨by decide, by decide, kN3 _ _ ⟨_, 11, rfl, by decide, rfl, _, hs, by omega⟩⟩
        · walk_at "dd"
          refine draw hs (by omega) (by decide) (by decide) fun r ys r0 r1 hs => ?_
          walk_at "dd"
          exact ⟨by omega, by omega, kN3 _ _ ⟨_, r, rfl, by omega, rfl, _, hs, by omega⟩⟩
      · rintro xs δ ⟨ys, c, rfl, hc, rfl, m1, hs, hm1⟩
        refine DR.for_inv (fun i2 δ => ∃ ys m2 z t, δ = [some (.own (.lst ys)), some (.d (.int kk)), some (.d (.int mn)), some (.d (.bl b)), some (.own (.lst (gs.map .str))), some (.d (.int i)), some (.d (.str z)), t] ∧ Src m2 ys ∧ m2 ≤ m + 2 + i2 ∧ z.length = i2 ∧ Low z) ⟨ys, _, _, _, rfl, hs, by omega, rfl, fun c h => nomatch h⟩ ?_ ?_
        · rintro i2 x δ N hx ⟨ys, m2, z, t, rfl, hs, hm2, hz, hl⟩ kN
          obtain ⟨rfl, hi2⟩ := upto_at hx
          walk_at "dd"
          refine draw hs (by omega) (by decide) (by decide) fun r ys r0 r1 hs => ?_
          walk_at "dd"
          refine ⟨_, _, _, rfl, rfl, by decide, abz_at r0 r1, ?_⟩
          walk_at "dd"
          refine ⟨(show _ ≤ sizeLine from (by show z.length + 1 ≤ sizeLine; exact Nat.le_trans (by omega) (show 12 ≤ sizeLine by decide))), ?_⟩
          walk_at "dd"
          exact kN _ ⟨_, _, z ++ sg (97 + r.toNat), _, rfl, hs, by omega, by rw [str_len, sg_len, hz], low_app hl (low_sg (by omega))⟩
        · rintro δ ⟨ys, m2, z, t, rfl, hs, hm2, hz, hl⟩
          rw [upto_len] at hm2 hz
          exact kN2 _ ⟨ys, m2, z, t, rfl, hs, by omega, by omega, hl⟩
    · rintro δ ⟨ys, m, z, t, rfl, hs, hm, hz, hl⟩
      walk_at "dd"
      have hi5 : i < 5 := by omega
      have nm := nm_of (b := b) (z := z) hi5 hz hl
      have fin : ∀ v : Str, v = (if b = true then z ++ sg (kc i) else sg (kc i) ++ z) → N [some (.own (.lst ys)), some (.d (.int kk)), some (.d (.int mn)), some (.d (.bl b)), some (.own (.lst (gs.map .str ++ [.str v]))), some (.d (.int i)), some (.d (.str z)), t] := fun v e => by
        refine kN _ ⟨gs ++ [v], ys, m, _, _, _, by rw [List.map_append]; rfl, hs, by omega, ?_, ?_⟩
        · rw [List.map_append, hk, List.take_succ, keys_at hi5, e]
          exact congrArg (fun x => keys.take i ++ [x]) nm.2
        · intro g hg'
          rcases List.mem_append.mp hg' with h | h
          · exact hg g h
          · rw [List.mem_singleton.mp h, e]; exact nm.1
      have hgl : gs.length < sizeLine := by
        have : gs.length = (keys.take i).length := by rw [← hk, List.length_map]
        rw [this, List.length_take]
        exact Nat.lt_of_le_of_lt (Nat.min_le_left ..) (Nat.lt_of_lt_of_le hi5 (by decide))
      refine DR.splitB (fun hb => ?_) (fun hb => ?_)
      · walk_at "dd"
        refine ⟨_, _, _, rfl, rfl, by decide, tp_at hi5, ?_⟩
        walk_at "dd"
        refine ⟨(show _ ≤ sizeLine from (by show z.length + 1 ≤ sizeLine; exact Nat.le_trans (by omega) (show 12 ≤ sizeLine by decide))), ?_⟩
        walk_at "dd"
        refine ⟨[_], _, rfl, rfl, _, rfl, by rw [List.length_map]; exact hgl, ?_⟩
        exact fin _ (by rw [hb, if_pos rfl]; rfl)
      · walk_at "dd"
        refine ⟨_, _, _, rfl, rfl, by decide, tp_at hi5, ?_⟩
        walk_at "dd"
        refine ⟨(show _ ≤ sizeLine from (by show 1 + z.length ≤ sizeLine; exact Nat.le_trans (by omega) (show 12 ≤ sizeLine by decide))), ?_⟩
        walk_at "dd"
        refine ⟨[_], _, rfl, rfl, _, rfl, by rw [List.length_map]; exact hgl, ?_⟩
        exact fin _ (by rw [hb, if_neg Bool.false_ne_true]; rfl)
  · rintro δ ⟨gs, ys, m, p, l, t, rfl, hs, hm, hk, hg⟩
    walk_at "dd"
    rw [upto_len] at hm hk
    refine k gs ys m ⟨?_, ?_, ?_, hg⟩ (by rw [← List.length_map (f := keyOf b), hk, List.length_take]; show min _ 5 ≤ kk; omega) ⟨b, fun g h => List.mem_of_mem_take (hk ▸ List.mem_map_of_mem h)⟩ (by omega) hs
    · refine nodup_map (f := keyOf b) ?_
      rw [hk]
      exact (List.take_sublist _ _).nodup (by decide)
    · rw [← List.length_map (f := keyOf b), hk, List.length_take]
      show 1 ≤ min _ 5
      omega
    · rw [← List.length_map (f := keyOf b), hk, List.length_take]
      show min _ 5 ≤ 5
      omega
end
end KT

set_option Elab.async false
set_option linter.all false
set_option maxRecDepth 100000
set_option maxHeartbeats 0
set_option pp.deepTerms false
set_option pp.deepTerms.threshold 8


namespace KT
open PySem PySem.Spec PyProof.Rows L2 DL
abbrev prD (p : Str × Str) : D := .tup [.str p.1, .str p.2]
def prRow (ns : List Str) (a : Str) : List (Str × Str) := (ns.filter fun b => decide (b ≠ a)).map fun b => (a, b)
theorem prRow_f {ns : List Str} {a : Str} : ns.filterMap (fun b => if b = a then none else some (D.tup [.str a, .str b])) = (prRow ns a).map prD := by
  unfold prRow
  induction ns with
  | nil => rfl
  | cons b ns ih =>
    rw [List.filterMap_cons, List.filter_cons]
    by_cases e : b = a
    · rw [if_pos e, if_neg (by simp [e])]
      exact ih
    · rw [if_neg e, if_pos (by simp [e]), List.map_cons, List.map_cons]
      exact congrArg _ ih
theorem prRow_len {ns : List Str} {a : Str} : (prRow ns a).length ≤ ns.length := by
  unfold prRow
  rw [List.length_map]
  exact List.length_filter_le ..
theorem flat_len {α β : Type} {f : α → List β} {n : Nat} : ∀ {l : List α}, (∀ a ∈ l, (f a).length ≤ n) → (l.flatMap f).length ≤ l.length * n
  | [], _ => by simp
  | a :: l, h => by
    rw [List.flatMap_cons, List.length_append, List.length_cons, Nat.succ_mul]
    have := h a List.mem_cons_self
    have := flat_len (l := l) fun b hb => h b (List.mem_cons_of_mem _ hb)
    omega
def prs (ns : List Str) : List (Str × Str) := ns.flatMap (prRow ns)
def sdPairs : SpD := fun as Q _ => ∃ ns : List Str, as = [.d (.lst (ns.map .str))] ∧ ns.length ≤ 10 ∧ Q (.d (.lst ((prs ns).map prD))) []
section
variable {P : Program} {w : World} {K : PySem.W.Frag} {mg : Str → Option Value} {base : Heap}
abbrev s_law_pairs : Stmt := top 46
theorem sc_law_pairs : FnScope ["_law_names", "_law_found", "_law_one", "_law_other"] ["_law_names"] (defScope s_law_pairs) := ⟨rfl, rfl, rfl, by decide +kernel, rfl, by decide +kernel, by decide +kernel⟩
theorem ok_pairs {f : Addr} {fd : FuncData} (G : Fun K "_law_pairs" "_law_pairs" s_law_pairs f fd) (T : TxtB mg) : FnOk P w K mg base (L2.CX P w) 1 f fd ["_law_names"] (spOf K sdPairs) := by
  refine okD G sc_law_pairs [] (fun as Q E ⟨xs, e, _⟩ => by subst e; exact ⟨rfl, rfl⟩) ⟨_, fun cdv A outer s H E ad F0 H0 hr => (pds_cons (psd_set (i := 1) (pd_lst (fun h => pe_lst h) pda_nil) (by show ¬ (1 ∈ ([] : List Nat)); decide) sc_law_pairs.nd rfl (.inl rfl))
      (pds_cons (psd_for (passes_of rfl) rfl (pid_list (pd_var (pv 0))) (pgd_name (i := 2) (vs := [2]) (pg_name (i := 2) sc_law_pairs.nd rfl (.inr rfl)) (by show ¬ (2 ∈ ([] : List Nat)); decide) (by decide))
      (pds_one (psd_set (i := 1) (pd_op op_cat op2_cat (pd_var (pv 1)) (pd_lc (own := [("_law_other", 3)]) (by rfl) sc_law_pairs.nd (pid_list (pd_var (pv 0))) (blkOk_by (own := [("_law_other", 3)]) (N := ["_law_names", "_law_found", "_law_one", "_law_other"]) (sc := defScope s_law_pairs) (by decide +kernel)) (fun _ _ _ _ _ => (pgd_name (i := 3) (vs := [3]) (pg_name (i := 3) sc_law_pairs.nd rfl (.inl rfl)) (by show ¬ (3 ∈ ([] : List Nat)); decide) (by decide))) (fun _ _ _ _ _ => ptsd_one (ptd_cmp op_ne op2_ne.op (pd_var (pv 3)) (pd_var (pv 2)) (nomark _))) (fun _ _ _ _ _ => (pd_tup (fun h => pe_tup h) (pda_cons (pd_var (pv 2)) (pda_cons (pd_var (pv 3)) pda_nil)))) (by show ∀ i ∈ ([3] : List Nat), ¬ (i ∈ ([] : List Nat)); decide))) (by show ¬ (1 ∈ ([] : List Nat)); decide) sc_law_pairs.nd rfl (.inl rfl))))
      (pds_one (psd_ret (pd_var (pv 1)))))), ?_⟩
  rintro as Qd Ed ⟨ns, rfl, hn, k⟩
  refine DR.start (δ' := [some (.d (.lst (ns.map .str))), none, none, none]) rfl ?_
  walk_at "dd"
  refine DR.for_inv (fun i δ => ∃ p q, δ = [some (.d (.lst (ns.map .str))), some (.d (.lst (((ns.take i).flatMap (prRow ns)).map prD))), p, q]) ⟨_, _, rfl⟩ ?_ ?_
  · rintro i x δ N hx ⟨p, q, rfl⟩ kN
    obtain ⟨a, ha, rfl⟩ := DR.map_at hx
    walk_at "dd"
    refine DR.lc_filterM (fun b => if b = a then none else some (D.tup [.str a, .str b])) ?_ ?_
    · intro b acc N hb hl kN
      walk_at "dd"
      refine DR.splitN (fun c => ?_) (fun c => ?_)
      · rw [if_pos c, Option.toList_none, List.append_nil] at kN
        exact kN
      · rw [if_neg c] at kN
        walk_at "dd"
        exact ⟨Nat.lt_of_lt_of_le hl (Nat.le_trans hn (by decide)), kN⟩
    · walk_at "dd"
      rw [prRow_f]
      have h1 : ((ns.take i).flatMap (prRow ns)).length ≤ 100 := by
        have h2 := flat_len (f := prRow ns) (n := 10) (l := ns.take i) fun a _ => Nat.le_trans prRow_len hn
        have h3 : (ns.take i).length ≤ 10 := by rw [List.length_take]; omega
        omega
      have h4 : (prRow ns a).length ≤ 10 := Nat.le_trans prRow_len hn
      have e : ((ns.take i).flatMap (prRow ns)).map prD ++ (prRow ns a).map prD = ((ns.take (i + 1)).flatMap (prRow ns)).map prD := by
        rw [List.take_succ, ha, List.flatMap_append, List.map_append]
        simp
      refine ⟨by rw [List.length_map, List.length_map]; exact Nat.le_trans (show _ ≤ 110 by omega) (by decide), ?_⟩
      rw [e]
      exact kN _ ⟨_, _, rfl⟩
  · rintro δ ⟨p, q, rfl⟩
    rw [List.length_map, List.take_length]
    walk_at "dd"
    exact k
end
end KT

set_option Elab.async false
set_option linter.all false
/-! sums that are lowered along the rows -/
namespace KT
open PySem
open Dst (leO Walk IsDist)
def better (rest old : Option Int) (m : Int) : Bool := match rest, old with
  | none, _ => false
  | some _, none => true
  | some r, some o => decide (m + r < o)
def relax (f : Fn) (u d o : Str) (m : Int) : Fn := if better (f d o) (f u o) m = true then up2 f u o (some (m + (f d o).getD 0)) else f
def leF (f g : Fn) : Prop := ∀ x y s, leO (f x y) s → leO (g x y) s
theorem leF.refl (f : Fn) : leF f f := fun _ _ _ h => h
theorem leF.trans {f g h : Fn} (a : leF f g) (b : leF g h) : leF f h := fun x y s z => b x y s (a x y s z)
def Sound (rs : List Row) (f : Fn) : Prop := ∀ a b s, f a b = some s → ∃ n, Walk rs n a b s
theorem relax_mono {f : Fn} {u d o : Str} {m : Int} : leF f (relax f u d o m) := fun x y s ⟨t, e, l⟩ => by
  unfold relax
  by_cases h : better (f d o) (f u o) m = true
  · rw [if_pos h]
    unfold up2
    by_cases q : x = u ∧ y = o
    · rw [if_pos q]
      obtain ⟨rfl, rfl⟩ := q
      rw [e] at h
      cases z : f d y with
      | none => rw [z] at h; cases h
      | some r =>
        rw [z] at h
        have h : decide (m + r < t) = true := h
        exact ⟨_, rfl, by have := of_decide_eq_true h; simp only [Option.getD_some]; omega⟩
    · rw [if_neg q]; exact ⟨t, e, l⟩
  · rw [if_neg h]; exact ⟨t, e, l⟩
theorem relax_sound {rs : List Row} {f : Fn} {u d o : Str} {m : Int} (h : Sound rs f) (hr : (u, d, m) ∈ rs) : Sound rs (relax f u d o m) := fun a b s => by
  unfold relax
  by_cases q : better (f d o) (f u o) m = true
  · rw [if_pos q]
    unfold up2
    by_cases z : a = u ∧ b = o
    · rw [if_pos z]
      obtain ⟨rfl, rfl⟩ := z
      intro e
      cases e
      cases y : f d b with
      | none => rw [y] at q; cases q
      | some r =>
        obtain ⟨n, w⟩ := h _ _ _ y
        exact ⟨n + 1, .cons hr w⟩
    · rw [if_neg z]; exact h a b s
  · rw [if_neg q]; exact h a b s
theorem relax_done {f : Fn} {u d o : Str} {m s : Int} (h : leO (f d o) s) : leO (relax f u d o m u o) (m + s) := by
  obtain ⟨t, e, l⟩ := h
  unfold relax
  rw [e]
  by_cases q : better (some t) (f u o) m = true
  · rw [if_pos q]
    unfold up2
    rw [if_pos ⟨rfl, rfl⟩]
    exact ⟨_, rfl, by simp only [Option.getD_some]; omega⟩
  · rw [if_neg q]
    cases y : f u o with
    | none => rw [y] at q; exact absurd rfl q
    | some p =>
      rw [y] at q
      have q : ¬ decide (m + t < p) = true := q
      exact ⟨p, rfl, by have := of_decide_eq_false (Bool.eq_false_iff.mpr q); omega⟩
/-- within a round that began at f0 -/
structure Rnd (rs done : List Row) (ns : List Str) (f0 f : Fn) : Prop where
  sound : Sound rs f
  mono : leF f0 f
  done : ∀ r ∈ done, ∀ b ∈ ns, ∀ s, leO (f0 r.2.1 b) s → leO (f r.1 b) (r.2.2 + s)
theorem Rnd.start {rs : List Row} {ns : List Str} {f : Fn} (h : Sound rs f) : Rnd rs [] ns f f := ⟨h, .refl _, fun r h => nomatch h⟩
theorem Rnd.relax {rs done : List Row} {ns : List Str} {f0 f : Fn} {u d o : Str} {m : Int} (h : Rnd rs done ns f0 f) (hr : (u, d, m) ∈ rs) : Rnd rs done ns f0 (relax f u d o m) :=
  ⟨relax_sound h.sound hr, h.mono.trans relax_mono, fun r hr b hb s l => relax_mono _ _ _ (h.done r hr b hb s l)⟩
theorem Rnd.row {rs done : List Row} {ns : List Str} {f0 f : Fn} {r : Row} (h : Rnd rs done ns f0 f) (a : ∀ b ∈ ns, ∀ s, leO (f0 r.2.1 b) s → leO (f r.1 b) (r.2.2 + s)) : Rnd rs (done ++ [r]) ns f0 f :=
  ⟨h.sound, h.mono, fun r' h' => (List.mem_append.mp h').elim (h.done r') fun e => by rw [List.mem_singleton.mp e]; exact a⟩
/-- chains of t rows are counted -/
def Upto (rs : List Row) (ns : List Str) (t : Nat) (f : Fn) : Prop := Sound rs f ∧ ∀ a b s, a ∈ ns → b ∈ ns → Walk rs t a b s → leO (f a b) s
theorem Rnd.next {rs : List Row} {ns : List Str} {f0 f : Fn} {t : Nat} (hr : ∀ r ∈ rs, r.1 ∈ ns ∧ r.2.1 ∈ ns) (u : Upto rs ns t f0) (h : Rnd rs rs ns f0 f) : Upto rs ns (t + 1) f := ⟨h.sound, fun a b s ha hb w => by
  cases w with
  | nil => exact h.mono _ _ _ (u.2 _ _ _ ha hb .nil)
  | cons g w => exact h.done _ g b hb _ (u.2 _ _ _ (hr _ g).2 hb w)⟩
def init (a b : Str) : Option Int := if a = b then some 0 else none
theorem upto0 {rs : List Row} {ns : List Str} : Upto rs ns 0 init := by
  refine ⟨fun a b s e => ?_, fun a b s _ _ w => ?_⟩
  · unfold init at e
    by_cases q : a = b
    · rw [if_pos q] at e; cases e; subst q; exact ⟨0, .nil⟩
    · rw [if_neg q] at e; cases e
  · cases w
    unfold init
    rw [if_pos rfl]
    exact ⟨0, rfl, Int.le_refl _⟩
theorem Upto.dist {rs : List Row} {ns : List Str} {f : Fn} (hr : ∀ r ∈ rs, r.1 ∈ ns ∧ r.2.1 ∈ ns) (nn : ∀ r ∈ rs, 0 ≤ r.2.2) (h : Upto rs ns ns.length f) : IsDist ns rs f := ⟨h.1, fun a b n s ha hb w => by
  obtain ⟨s', l, w'⟩ := w.short hr nn ha
  exact (h.2 _ _ _ ha hb w').le l⟩
end KT

set_option Elab.async false
set_option linter.all false
namespace KT
open PySem
open Dst (leO Walk IsDist)
def ins {α : Type} (l : List α) (k : Nat) (x : α) : List α := l.take k ++ [x] ++ l.drop k
theorem ins_perm {α : Type} {l : List α} {k : Nat} {x : α} : (ins l k x).Perm (x :: l) := by
  unfold ins
  rw [List.append_assoc]
  have h : (l.take k ++ ([x] ++ l.drop k)).Perm (x :: (l.take k ++ l.drop k)) := List.perm_middle
  rwa [List.take_append_drop] at h
theorem mem_ins {α : Type} {l : List α} {k : Nat} {x y : α} : y ∈ ins l k x ↔ y = x ∨ y ∈ l := by rw [ins_perm.mem_iff, List.mem_cons]
theorem ins_len {α : Type} {l : List α} {k : Nat} {x : α} : (ins l k x).length = l.length + 1 := by rw [ins_perm.length_eq, List.length_cons]
theorem ins_map {α β : Type} {f : α → β} {l : List α} {k : Nat} {x : α} : (ins l k x).map f = (l.map f).take k ++ [f x] ++ (l.map f).drop k := by
  unfold ins
  rw [List.map_append, List.map_append, List.map_take, List.map_drop]
  rfl
abbrev ends (r : Row) : Str × Str := (r.1, r.2.1)
theorem ins_nd {rs : List Row} {k : Nat} {r : Row} (h : (rs.map ends).Nodup) (n : ends r ∉ rs.map ends) : ((ins rs k r).map ends).Nodup := by
  rw [(ins_perm.map ends).nodup_iff]
  exact List.nodup_cons.mpr ⟨n, h⟩
theorem prs_mem {ns : List Str} {a b : Str} : (a, b) ∈ prs ns ↔ a ∈ ns ∧ b ∈ ns ∧ a ≠ b := by
  unfold prs prRow
  rw [List.mem_flatMap]
  constructor
  · rintro ⟨c, hc, h⟩
    obtain ⟨d, hd, e⟩ := List.mem_map.mp h
    cases e
    obtain ⟨h1, h2⟩ := List.mem_filter.mp hd
    exact ⟨hc, h1, fun e => of_decide_eq_true h2 e.symm⟩
  · rintro ⟨h1, h2, h3⟩
    exact ⟨a, h1, List.mem_map.mpr ⟨b, List.mem_filter.mpr ⟨h2, decide_eq_true fun e => h3 e.symm⟩, rfl⟩⟩
theorem prs_nd {ns : List Str} (nd : ns.Nodup) : (prs ns).Nodup := by
  have go : ∀ l : List Str, l.Nodup → (l.flatMap (prRow ns)).Nodup := fun l => by
    induction l with
    | nil => exact fun _ => .nil
    | cons a l ih =>
      intro h
      obtain ⟨h1, h2⟩ := List.nodup_cons.mp h
      rw [List.flatMap_cons]
      refine List.nodup_append.mpr ⟨?_, ih h2, ?_⟩
      · unfold prRow
        have : ∀ k : List Str, k.Nodup → (k.map fun b => (a, b)).Nodup := fun k => by
          induction k with
          | nil => exact fun _ => .nil
          | cons b k ih =>
            intro h
            obtain ⟨h1, h2⟩ := List.nodup_cons.mp h
            refine List.nodup_cons.mpr ⟨fun z => ?_, ih h2⟩
            obtain ⟨c, hc, e⟩ := List.mem_map.mp z
            cases e
            exact h1 hc
        exact this _ (nd.sublist List.filter_sublist)
      · intro x hx y hy e
        subst e
        obtain ⟨c, hc, hy⟩ := List.mem_flatMap.mp hy
        unfold prRow at hx hy
        obtain ⟨b, _, e1⟩ := List.mem_map.mp hx
        obtain ⟨b', _, e2⟩ := List.mem_map.mp hy
        rw [← e1] at e2
        cases e2
        exact h1 hc
  exact go ns nd
theorem prs_len {ns : List Str} {n : Nat} (h : ns.length ≤ n) : (prs ns).length ≤ n * n := Nat.le_trans (flat_len (n := n) fun a _ => Nat.le_trans prRow_len h) (Nat.mul_le_mul_right n h)
/-- a name of a list without repeats stands not ahead of itself -/
theorem nd_take {α : Type} {l : List α} {i : Nat} {x : α} (nd : l.Nodup) (h : l[i]? = some x) : x ∉ l.take i := fun z => by
  obtain ⟨m, hm, e⟩ := List.mem_take_iff_getElem.mp z
  have hk := (List.getElem?_eq_some_iff.mp h).1
  have e2 := (List.getElem?_eq_some_iff.mp h).2
  have := (List.pairwise_iff_getElem.mp (List.nodup_iff_pairwise_ne.mp nd)) m i (by omega) hk (by omega)
  exact this (e.trans e2.symm)
def RowOk (ns : List Str) (r : Row) : Prop := r.1 ∈ ns ∧ r.2.1 ∈ ns ∧ r.1 ≠ r.2.1 ∧ 0 ≤ r.2.2 ∧ r.2.2 ≤ 1000000000000
structure GoodRows (ns : List Str) (rs : List Row) : Prop where
  row : ∀ r ∈ rs, RowOk ns r
  nd : (rs.map ends).Nodup
  all : ∀ a b, a ∈ ns → b ∈ ns → ∃ n s, Walk rs n a b s
/-- the first turn: rows of the first i pairs -/
structure P1 (ns : List Str) (i : Nat) (rs : List Row) : Prop where
  row : ∀ r ∈ rs, RowOk ns r
  nd : (rs.map ends).Nodup
  inn : ∀ r ∈ rs, ends r ∈ (prs ns).take i
  len : rs.length ≤ i
theorem P1.skip {ns : List Str} {i : Nat} {rs : List Row} (h : P1 ns i rs) : P1 ns (i + 1) rs := ⟨h.row, h.nd, fun r hr => List.mem_take_iff_getElem.mpr (by
  obtain ⟨m, hm, e⟩ := List.mem_take_iff_getElem.mp (h.inn r hr)
  exact ⟨m, by omega, e⟩), Nat.le_succ_of_le h.len⟩
theorem P1.more {ns : List Str} {i k : Nat} {rs : List Row} {a b : Str} {m : Int} (h : P1 ns i rs) (nd : ns.Nodup) (e : (prs ns)[i]? = some (a, b)) (m0 : 0 ≤ m) (m1 : m ≤ 1000000000000) : P1 ns (i + 1) (ins rs k (a, b, m)) := by
  have hp := prs_mem.mp (List.mem_of_getElem? e)
  have hn : (a, b) ∉ rs.map ends := fun z => by
    obtain ⟨r, hr, q⟩ := List.mem_map.mp z
    exact nd_take (prs_nd nd) e (by rw [← q]; exact h.inn r hr)
  refine ⟨fun r hr => ?_, ins_nd h.nd hn, fun r hr => ?_, by rw [ins_len]; exact Nat.succ_le_succ h.len⟩
  · rcases mem_ins.mp hr with rfl | hr
    · exact ⟨hp.1, hp.2.1, hp.2.2, m0, m1⟩
    · exact h.row r hr
  · rcases mem_ins.mp hr with rfl | hr
    · rw [List.take_succ, e]
      exact List.mem_append_right _ List.mem_cons_self
    · exact h.skip.inn r hr
/-- the second turn: the first j pairs have chains -/
structure P2 (ns : List Str) (j : Nat) (rs : List Row) : Prop where
  row : ∀ r ∈ rs, RowOk ns r
  nd : (rs.map ends).Nodup
  all : ∀ p ∈ (prs ns).take j, ∃ n s, Walk rs n p.1 p.2 s
  len : rs.length ≤ (prs ns).length + j
theorem P2.start {ns : List Str} {rs : List Row} (h : P1 ns (prs ns).length rs) : P2 ns 0 rs := ⟨h.row, h.nd, (fun p hp => by rw [List.take_zero] at hp; exact nomatch hp), h.len⟩
theorem P2.skip {ns : List Str} {j : Nat} {rs : List Row} {a b : Str} {f : Fn} {s : Int} (h : P2 ns j rs) (e : (prs ns)[j]? = some (a, b)) (d : IsDist ns rs f) (q : f a b = some s) : P2 ns (j + 1) rs := ⟨h.row, h.nd, fun p hp => by
  rw [List.take_succ, e] at hp
  rcases List.mem_append.mp hp with hp | hp
  · exact h.all p hp
  · rw [List.mem_singleton.mp hp]
    obtain ⟨n, w⟩ := d.sound _ _ _ q
    exact ⟨n, s, w⟩, Nat.le_succ_of_le h.len⟩
theorem P2.more {ns : List Str} {j k : Nat} {rs : List Row} {a b : Str} {m : Int} {f : Fn} (h : P2 ns j rs) (e : (prs ns)[j]? = some (a, b)) (d : IsDist ns rs f) (q : f a b = none) (m0 : 0 ≤ m) (m1 : m ≤ 1000000000000) : P2 ns (j + 1) (ins rs k (a, b, m)) := by
  have hp := prs_mem.mp (List.mem_of_getElem? e)
  have hn : (a, b) ∉ rs.map ends := fun z => by
    obtain ⟨⟨a', b', t⟩, hr, y⟩ := List.mem_map.mp z
    cases y
    obtain ⟨u, y, _⟩ := d.least _ _ _ _ hp.1 hp.2.1 (.cons hr (.nil (n := 0)))
    rw [q] at y
    cases y
  refine ⟨fun r hr => ?_, ins_nd h.nd hn, fun p hp' => ?_, by rw [ins_len]; exact Nat.succ_le_succ h.len⟩
  · rcases mem_ins.mp hr with rfl | hr
    · exact ⟨hp.1, hp.2.1, hp.2.2, m0, m1⟩
    · exact h.row r hr
  · rw [List.take_succ, e] at hp'
    rcases List.mem_append.mp hp' with hp' | hp'
    · obtain ⟨n, s, w⟩ := h.all p hp'
      exact ⟨n, s, w.mono fun r hr => mem_ins.mpr (.inr hr)⟩
    · rw [List.mem_singleton.mp hp']
      exact ⟨1, _, .cons (mem_ins.mpr (.inl rfl)) .nil⟩
theorem P2.done {ns : List Str} {rs : List Row} (h : P2 ns (prs ns).length rs) : GoodRows ns rs := ⟨h.row, h.nd, fun a b ha hb => by
  by_cases e : a = b
  · subst e; exact ⟨0, 0, .nil⟩
  · exact h.all (a, b) (by rw [List.take_length]; exact prs_mem.mpr ⟨ha, hb, e⟩)⟩
end KT

set_option Elab.async false
set_option linter.all false
/-! least sums by names between -/
namespace KT
open PySem
open Dst (leO Walk IsDist)
/-- chains whose names between stand in M -/
inductive IW (rs : List Row) (M : List Str) : Str → Str → Int → Prop
  | nil {a : Str} : IW rs M a a 0
  | row {a b : Str} {m : Int} (h : (a, b, m) ∈ rs) : IW rs M a b m
  | via {a c b : Str} {s t : Int} (h : c ∈ M) (x : IW rs M a c s) (y : IW rs M c b t) : IW rs M a b (s + t)
theorem IW.nonneg {rs : List Row} {M : List Str} (nn : ∀ r ∈ rs, 0 ≤ r.2.2) {a b : Str} {s : Int} (h : IW rs M a b s) : 0 ≤ s := by
  induction h with
  | nil => exact Int.le_refl _
  | row h => exact nn _ h
  | via _ _ _ h1 h2 => omega
theorem IW.split {rs : List Row} {M : List Str} {m : Str} (nn : ∀ r ∈ rs, 0 ≤ r.2.2) {a b : Str} {s : Int} (h : IW rs (M ++ [m]) a b s) :
    (∃ s', IW rs M a b s' ∧ s' ≤ s) ∨ ∃ s1 s2, IW rs M a m s1 ∧ IW rs M m b s2 ∧ s1 + s2 ≤ s := by
  induction h with
  | nil => exact .inl ⟨_, .nil, Int.le_refl _⟩
  | row h => exact .inl ⟨_, .row h, Int.le_refl _⟩
  | @via a c b s t h x y ih1 ih2 =>
    rcases List.mem_append.mp h with h | h
    · rcases ih1 with ⟨s', g, l⟩ | ⟨s1, s2, g1, g2, l⟩
      · rcases ih2 with ⟨t', k, l'⟩ | ⟨t1, t2, k1, k2, l'⟩
        · exact .inl ⟨_, .via h g k, by omega⟩
        · exact .inr ⟨_, _, .via h g k1, k2, by omega⟩
      · rcases ih2 with ⟨t', k, l'⟩ | ⟨t1, t2, k1, k2, l'⟩
        · exact .inr ⟨_, _, g1, .via h g2 k, by omega⟩
        · have := g2.nonneg nn
          have := k1.nonneg nn
          exact .inr ⟨_, _, g1, k2, by omega⟩
    · have e : c = m := List.mem_singleton.mp h
      subst e
      obtain ⟨s', g, l⟩ : ∃ s', IW rs M a c s' ∧ s' ≤ s := by
        rcases ih1 with ⟨s', g, l⟩ | ⟨s1, s2, g1, g2, l⟩
        · exact ⟨_, g, l⟩
        · have := g2.nonneg nn
          exact ⟨_, g1, by omega⟩
      obtain ⟨t', k, l'⟩ : ∃ t', IW rs M c b t' ∧ t' ≤ t := by
        rcases ih2 with ⟨s', g, l⟩ | ⟨s1, s2, g1, g2, l⟩
        · exact ⟨_, g, l⟩
        · have := g1.nonneg nn
          exact ⟨_, g2, by omega⟩
      exact .inr ⟨_, _, g, k, by omega⟩
theorem IW.of {rs : List Row} {ns : List Str} (hr : ∀ r ∈ rs, r.1 ∈ ns ∧ r.2.1 ∈ ns) {n : Nat} {a b : Str} {s : Int} (h : Walk rs n a b s) : IW rs ns a b s := by
  induction h with
  | nil => exact .nil
  | cons h t ih => exact .via (hr _ h).2 (.row h) ih
/-- names between out of M are counted -/
structure Btw (rs : List Row) (ns M : List Str) (f : Fn) : Prop where
  sound : Sound rs f
  dom : ∀ a b s, f a b = some s → a ∈ ns ∧ b ∈ ns
  low : ∀ a b s, a ∈ ns → b ∈ ns → IW rs M a b s → leO (f a b) s
theorem Btw.dist {rs : List Row} {ns : List Str} {f : Fn} (hr : ∀ r ∈ rs, r.1 ∈ ns ∧ r.2.1 ∈ ns) (h : Btw rs ns ns f) : IsDist ns rs f := ⟨h.sound, fun a b n s ha hb w => h.low a b s ha hb (IW.of hr w)⟩
/-- a lower sum is kept -/
def low2 (f : Fn) (a b : Str) (v : Int) : Fn := match f a b with
  | none => up2 f a b (some v)
  | some o => if v < o then up2 f a b (some v) else f
theorem low2_mono {f : Fn} {a b : Str} {v : Int} : leF f (low2 f a b v) := fun x y s ⟨t, e, l⟩ => by
  unfold low2
  cases q : f a b with
  | none =>
    show leO (up2 f a b (some v) x y) s
    unfold up2
    by_cases z : x = a ∧ y = b
    · obtain ⟨rfl, rfl⟩ := z; rw [q] at e; cases e
    · rw [if_neg z]; exact ⟨t, e, l⟩
  | some o =>
    show leO ((if v < o then up2 f a b (some v) else f) x y) s
    by_cases c : v < o
    · rw [if_pos c]
      unfold up2
      by_cases z : x = a ∧ y = b
      · rw [if_pos z]
        obtain ⟨rfl, rfl⟩ := z
        rw [q] at e
        cases e
        exact ⟨v, rfl, by omega⟩
      · rw [if_neg z]; exact ⟨t, e, l⟩
    · rw [if_neg c]; exact ⟨t, e, l⟩
theorem low2_at {f : Fn} {a b : Str} {v : Int} : leO (low2 f a b v a b) v := by
  unfold low2
  cases q : f a b with
  | none => exact ⟨v, by show up2 f a b (some v) a b = _; unfold up2; rw [if_pos ⟨rfl, rfl⟩], Int.le_refl _⟩
  | some o =>
    show leO ((if v < o then up2 f a b (some v) else f) a b) v
    by_cases c : v < o
    · rw [if_pos c]; exact ⟨v, by unfold up2; rw [if_pos ⟨rfl, rfl⟩], Int.le_refl _⟩
    · rw [if_neg c]; exact ⟨o, q, by omega⟩
theorem low2_cases {f : Fn} {a b x y : Str} {v s : Int} (h : low2 f a b v x y = some s) : (x = a ∧ y = b ∧ s = v) ∨ f x y = some s := by
  unfold low2 at h
  cases q : f a b with
  | none =>
    rw [q] at h
    have h : up2 f a b (some v) x y = some s := h
    unfold up2 at h
    by_cases z : x = a ∧ y = b
    · rw [if_pos z] at h; cases h; exact .inl ⟨z.1, z.2, rfl⟩
    · rw [if_neg z] at h; exact .inr h
  | some o =>
    rw [q] at h
    have h : (if v < o then up2 f a b (some v) else f) x y = some s := h
    by_cases c : v < o
    · rw [if_pos c] at h
      unfold up2 at h
      by_cases z : x = a ∧ y = b
      · rw [if_pos z] at h; cases h; exact .inl ⟨z.1, z.2, rfl⟩
      · rw [if_neg z] at h; exact .inr h
    · rw [if_neg c] at h; exact .inr h
/-- sound, over the names alone -/
structure Snd (rs : List Row) (ns : List Str) (f : Fn) : Prop where
  sound : Sound rs f
  dom : ∀ a b s, f a b = some s → a ∈ ns ∧ b ∈ ns
theorem Snd.low2 {rs : List Row} {ns : List Str} {f : Fn} {a b : Str} {v : Int} (h : Snd rs ns f) (ha : a ∈ ns) (hb : b ∈ ns) (w : ∃ n, Walk rs n a b v) : Snd rs ns (low2 f a b v) := ⟨fun x y s e => by
  rcases low2_cases e with ⟨rfl, rfl, rfl⟩ | e
  · exact w
  · exact h.sound _ _ _ e, fun x y s e => by
  rcases low2_cases e with ⟨rfl, rfl, rfl⟩ | e
  · exact ⟨ha, hb⟩
  · exact h.dom _ _ _ e⟩
/-- one turn over a name in the middle, begun at f0 -/
structure Mid (rs : List Row) (ns : List Str) (m : Str) (done : List (Str × Str)) (f0 f : Fn) : Prop where
  snd : Snd rs ns f
  mono : leF f0 f
  done : ∀ p ∈ done, ∀ s t, leO (f0 p.1 m) s → leO (f0 m p.2) t → leO (f p.1 p.2) (s + t)
theorem Mid.end {rs : List Row} {ns M : List Str} {m : Str} {f0 f : Fn} (nn : ∀ r ∈ rs, 0 ≤ r.2.2) (hm : m ∈ ns) (h0 : Btw rs ns M f0) (h : Mid rs ns m (sq ns) f0 f) : Btw rs ns (M ++ [m]) f := ⟨h.snd.sound, h.snd.dom, fun a b s ha hb w => by
  rcases w.split nn with ⟨s', g, l⟩ | ⟨s1, s2, g1, g2, l⟩
  · exact (h.mono _ _ _ (h0.low _ _ _ ha hb g)).le l
  · exact (h.done (a, b) (mem_sq.mpr ⟨ha, hb⟩) _ _ (h0.low _ _ _ ha hm g1) (h0.low _ _ _ hm hb g2)).le l⟩
end KT

set_option Elab.async false
set_option linter.all false
/-! a dict of sums by two names, as far as they are known -/
namespace KT
open PySem DL
open PySem.Spec PyProof.Rows L2
open Dst (leO Walk IsDist)
structure Dct (ns : List Str) (kvs : List (List Key × D)) (f : Fn) : Prop where
  val : ∀ a b, valD kvs (k2 a b) = (f a b).map D.int
  keys : ∀ p ∈ kvs, p.1 ∈ (sq ns).map fun q => k2 q.1 q.2
  nd : (kvs.map (·.1)).Nodup
theorem Dct.nil {ns : List Str} : Dct ns [] fun _ _ => none := ⟨(fun _ _ => rfl), (fun p h => nomatch h), List.Pairwise.nil⟩
theorem Dct.len {ns : List Str} {kvs : List (List Key × D)} {f : Fn} (h : Dct ns kvs f) : kvs.length ≤ ns.length * ns.length := by
  have := Dst.nodup_len (N := List Key) h.nd (k := (sq ns).map fun q => k2 q.1 q.2) fun a ha => by
    obtain ⟨p, hp, rfl⟩ := List.mem_map.mp ha
    exact h.keys p hp
  rw [List.length_map, List.length_map, sq_len] at this
  exact this
theorem val_mem {kvs : List (List Key × D)} {k : List Key} (h : valD kvs k = none) : k ∉ kvs.map (·.1) := fun z => by
  obtain ⟨p, hp, e⟩ := List.mem_map.mp z
  unfold valD at h
  rw [Option.map_eq_none_iff, List.find?_eq_none] at h
  exact h p hp (decide_eq_true e)
theorem val_put {kvs : List (List Key × D)} {k j : List Key} {d : D} : valD (putT kvs k d) j = if j = k then some d else valD kvs j := by
  unfold putT
  cases q : (valD kvs k).isSome with
  | true =>
    rw [if_pos rfl]
    have go : ∀ l : List (List Key × D), valD (l.map fun p => if p.1 = k then (p.1, d) else p) j = if j = k then (valD l j).map fun _ => d else valD l j := fun l => by
      induction l with
      | nil => by_cases e : j = k <;> simp [valD, e]
      | cons p l ih =>
        by_cases e : j = k
        · subst e
          by_cases z : p.1 = j
          · simp [valD, List.find?_cons, z]
          · have := ih
            simp only [if_pos] at this ⊢
            simp [valD, List.find?_cons, z] at this ⊢
            exact this
        · by_cases z : p.1 = j
          · have zk : ¬ p.1 = k := fun y => e (z.symm.trans y)
            simp [valD, List.find?_cons, z, e]
          · have := ih
            rw [if_neg e] at this ⊢
            by_cases zk : p.1 = k
            · simp only [valD, List.map_cons, List.find?_cons] at this ⊢
              simp [z, zk] at this ⊢
              rw [zk] at z
              simp [z]
              exact this
            · simp only [valD, List.map_cons, List.find?_cons] at this ⊢
              simp [z, zk] at this ⊢
              exact this
    rw [go]
    by_cases e : j = k
    · subst e
      rw [if_pos rfl, if_pos rfl]
      cases y : valD kvs j with
      | none => rw [y] at q; cases q
      | some _ => rfl
    · rw [if_neg e, if_neg e]
  | false =>
    rw [if_neg Bool.false_ne_true]
    have hn : valD kvs k = none := by
      cases y : valD kvs k with
      | none => rfl
      | some _ => rw [y] at q; cases q
    unfold valD at hn ⊢
    rw [List.find?_append]
    by_cases e : j = k
    · subst e
      rw [if_pos rfl]
      rw [Option.map_eq_none_iff] at hn
      rw [hn]
      simp
    · rw [if_neg e]
      have : ([(k, d)].find? fun p => decide (p.1 = j)) = none := by simp [Ne.symm e]
      rw [this]
      simp
theorem Dct.put {ns : List Str} {kvs : List (List Key × D)} {f : Fn} {a b : Str} {v : Int} (h : Dct ns kvs f) (ha : a ∈ ns) (hb : b ∈ ns) : Dct ns (putT kvs (k2 a b) (.int v)) (up2 f a b (some v)) := by
  refine ⟨fun x y => ?_, fun p hp => ?_, ?_⟩
  · rw [val_put, h.val]
    unfold up2
    by_cases e : x = a ∧ y = b
    · rw [if_pos e, if_pos (k2_inj.mpr e)]; rfl
    · rw [if_neg e, if_neg fun z => e (k2_inj.mp z)]
  · unfold putT at hp
    cases q : (valD kvs (k2 a b)).isSome with
    | true =>
      rw [q, if_pos rfl] at hp
      obtain ⟨p', hp', e⟩ := List.mem_map.mp hp
      have := h.keys p' hp'
      by_cases z : p'.1 = k2 a b
      · rw [if_pos z] at e; rw [← e]; exact this
      · rw [if_neg z] at e; rw [← e]; exact this
    | false =>
      rw [q, if_neg Bool.false_ne_true] at hp
      rcases List.mem_append.mp hp with hp | hp
      · exact h.keys p hp
      · rw [List.mem_singleton.mp hp]
        exact List.mem_map.mpr ⟨(a, b), mem_sq.mpr ⟨ha, hb⟩, rfl⟩
  · unfold putT
    cases q : (valD kvs (k2 a b)).isSome with
    | true =>
      rw [if_pos rfl, List.map_map]
      have : ((fun p : List Key × D => p.1) ∘ fun p => if p.1 = k2 a b then (p.1, D.int v) else p) = fun p => p.1 := funext fun p => by
        show (if p.1 = k2 a b then (p.1, D.int v) else p).1 = p.1
        by_cases z : p.1 = k2 a b
        · rw [if_pos z]
        · rw [if_neg z]
      rw [this]
      exact h.nd
    | false =>
      rw [if_neg Bool.false_ne_true, List.map_append]
      have hn : valD kvs (k2 a b) = none := by
        cases y : valD kvs (k2 a b) with
        | none => rfl
        | some _ => rw [y] at q; cases q
      refine List.nodup_append.mpr ⟨h.nd, List.nodup_cons.mpr ⟨(fun z => nomatch z), .nil⟩, fun x hx y hy e => ?_⟩
      have e2 : y = k2 a b := List.mem_singleton.mp hy
      subst e
      subst e2
      exact val_mem hn hx
/-- the first turn: each name to itself -/
def own0 (l : List Str) : Fn := fun a b => if a = b ∧ a ∈ l then some 0 else none
theorem own0_next {l : List Str} {a : Str} : up2 (own0 l) a a (some 0) = own0 (l ++ [a]) := by
  funext x y
  unfold up2 own0
  by_cases e : x = a ∧ y = a
  · obtain ⟨rfl, rfl⟩ := e
    rw [if_pos ⟨rfl, rfl⟩, if_pos ⟨rfl, List.mem_append_right _ List.mem_cons_self⟩]
  · rw [if_neg e]
    by_cases z : x = y ∧ x ∈ l
    · rw [if_pos z, if_pos ⟨z.1, List.mem_append_left _ z.2⟩]
    · rw [if_neg z, if_neg fun q => ?_]
      rcases List.mem_append.mp q.2 with h | h
      · exact z ⟨q.1, h⟩
      · have := List.mem_singleton.mp h
        exact e ⟨this, q.1 ▸ this⟩
theorem own0_snd {rs : List Row} {ns : List Str} : Snd rs ns (own0 ns) := by
  refine ⟨fun a b s e => ?_, fun a b s e => ?_⟩
  · unfold own0 at e
    by_cases z : a = b ∧ a ∈ ns
    · rw [if_pos z] at e; cases e; rw [z.1]; exact ⟨0, .nil⟩
    · rw [if_neg z] at e; cases e
  · unfold own0 at e
    by_cases z : a = b ∧ a ∈ ns
    · exact ⟨z.2, z.1 ▸ z.2⟩
    · rw [if_neg z] at e; cases e
theorem own0_at {ns : List Str} {a : Str} (h : a ∈ ns) : leO (own0 ns a a) 0 := ⟨0, if_pos ⟨rfl, h⟩, Int.le_refl _⟩
theorem low2_none {f : Fn} {a b : Str} {v : Int} (e : f a b = none) : low2 f a b v = up2 f a b (some v) := by unfold low2; rw [e]
theorem low2_lt {f : Fn} {a b : Str} {v t : Int} (e : f a b = some t) (h : v < t) : low2 f a b v = up2 f a b (some v) := by unfold low2; rw [e]; exact if_pos h
theorem low2_ge {f : Fn} {a b : Str} {v t : Int} (e : f a b = some t) (h : ¬ v < t) : low2 f a b v = f := by unfold low2; rw [e]; exact if_neg h
theorem Btw.start {rs : List Row} {ns : List Str} {f : Fn} (h : Snd rs ns f) (h0 : ∀ a ∈ ns, leO (f a a) 0) (h1 : ∀ r ∈ rs, leO (f r.1 r.2.1) r.2.2) : Btw rs ns [] f := ⟨h.sound, h.dom, fun a b s ha hb w => by
  cases w with
  | nil => exact h0 a ha
  | row h => exact h1 _ h
  | via h => cases h⟩
end KT

set_option Elab.async false
set_option linter.all false
/-! tables by their entries -/
namespace KT
open PySem
open Dst (leO Walk IsDist)
structure FineRows (ns : List Str) (rs : List Row) : Prop where
  row : ∀ r ∈ rs, r.1 ∈ ns ∧ r.2.1 ∈ ns ∧ r.1 ≠ r.2.1 ∧ 0 ≤ r.2.2
  nd : (rs.map ends).Nodup
  all : ∀ a b, a ∈ ns → b ∈ ns → ∃ n s, Walk rs n a b s
theorem GoodRows.fine {ns : List Str} {rs : List Row} (h : GoodRows ns rs) : FineRows ns rs := ⟨fun r hr => ⟨(h.row r hr).1, (h.row r hr).2.1, (h.row r hr).2.2.1, (h.row r hr).2.2.2.1⟩, h.nd, h.all⟩
abbrev En := Str → Str → Int
structure Ent (ns : List Str) (rs : List Row) (e : En) : Prop where
  at_ : ∀ a b, a ∈ ns → b ∈ ns → ∃ n, Walk rs n a b (e a b)
  low : ∀ a b n s, a ∈ ns → b ∈ ns → Walk rs n a b s → e a b ≤ s
structure Met (ns : List Str) (e : En) : Prop where
  zero : ∀ a, a ∈ ns → e a a = 0
  nn : ∀ a b, a ∈ ns → b ∈ ns → 0 ≤ e a b
  tri : ∀ a b c, a ∈ ns → b ∈ ns → c ∈ ns → e a c ≤ e a b + e b c
theorem walk_nn {rs : List Row} (nn : ∀ r ∈ rs, 0 ≤ r.2.2) {n : Nat} {a b : Str} {s : Int} (h : Walk rs n a b s) : 0 ≤ s := by
  induction h with
  | nil => exact Int.le_refl _
  | cons hm _ ih => have := nn _ hm; simp only at this; omega
theorem Ent.met {ns : List Str} {rs : List Row} {e : En} (h : FineRows ns rs) (t : Ent ns rs e) : Met ns e := by
  have nn : ∀ a b, a ∈ ns → b ∈ ns → 0 ≤ e a b := fun a b ha hb => by
    obtain ⟨n, w⟩ := t.at_ a b ha hb
    exact walk_nn (fun r hr => (h.row r hr).2.2.2) w
  refine ⟨fun a ha => Int.le_antisymm (t.low a a 0 0 ha ha .nil) (nn a a ha ha), nn, fun a b c ha hb hc => ?_⟩
  obtain ⟨n, w⟩ := t.at_ a b ha hb
  obtain ⟨k, v⟩ := t.at_ b c hb hc
  exact t.low a c _ _ ha hc (w.app v)
theorem Ent.unique {ns : List Str} {rs : List Row} {e f : En} (h : Ent ns rs e) (g : Ent ns rs f) {a b : Str} (ha : a ∈ ns) (hb : b ∈ ns) : e a b = f a b := by
  obtain ⟨n, w⟩ := h.at_ a b ha hb
  obtain ⟨k, v⟩ := g.at_ a b ha hb
  exact Int.le_antisymm (h.low _ _ _ _ ha hb v) (g.low _ _ _ _ ha hb w)
theorem IsDist.ent {ns : List Str} {rs : List Row} {f : Fn} (h : FineRows ns rs) (d : IsDist ns rs f) : ∃ e, Ent ns rs e ∧ ∀ a b, a ∈ ns → b ∈ ns → f a b = some (e a b) := by
  have e : ∀ a b, a ∈ ns → b ∈ ns → f a b = some ((f a b).getD 0) := fun a b ha hb => by
    obtain ⟨n, s, w⟩ := h.all a b ha hb
    obtain ⟨t, q, _⟩ := d.least a b n s ha hb w
    rw [q]; rfl
  refine ⟨fun a b => (f a b).getD 0, ⟨fun a b ha hb => d.sound a b _ (e a b ha hb), fun a b n s ha hb w => ?_⟩, e⟩
  obtain ⟨t, q, l⟩ := d.least a b n s ha hb w
  show (f a b).getD 0 ≤ s
  rw [q]; exact l
def entRows (ns : List Str) (e : En) : List Row := (prs ns).map fun p => (p.1, p.2, e p.1 p.2)
theorem entRows_mem {ns : List Str} {e : En} {r : Row} : r ∈ entRows ns e ↔ r.1 ∈ ns ∧ r.2.1 ∈ ns ∧ r.1 ≠ r.2.1 ∧ r.2.2 = e r.1 r.2.1 := by
  unfold entRows
  rw [List.mem_map]
  constructor
  · rintro ⟨⟨a, b⟩, h, rfl⟩
    obtain ⟨h1, h2, h3⟩ := prs_mem.mp h
    exact ⟨h1, h2, h3, rfl⟩
  · obtain ⟨a, b, m⟩ := r
    rintro ⟨h1, h2, h3, h4⟩
    exact ⟨(a, b), prs_mem.mpr ⟨h1, h2, h3⟩, by rw [show m = e a b from h4]⟩
theorem entRows_ends {ns : List Str} {e : En} : (entRows ns e).map ends = prs ns := by
  unfold entRows
  rw [List.map_map]
  exact (List.map_congr_left fun p _ => rfl).trans (List.map_id _)
theorem entRows_len {ns : List Str} {e : En} : (entRows ns e).length = (prs ns).length := by unfold entRows; rw [List.length_map]
theorem entRows_congr {ns : List Str} {e f : En} (h : ∀ a b, a ∈ ns → b ∈ ns → e a b = f a b) : entRows ns e = entRows ns f := List.map_congr_left fun p hp => by
  obtain ⟨h1, h2, _⟩ := prs_mem.mp hp
  rw [h _ _ h1 h2]
theorem fine_ent {ns : List Str} {e : En} (nd : ns.Nodup) (nn : ∀ a b, a ∈ ns → b ∈ ns → 0 ≤ e a b) : FineRows ns (entRows ns e) := by
  refine ⟨fun r hr => ?_, by rw [entRows_ends]; exact prs_nd nd, fun a b ha hb => ?_⟩
  · obtain ⟨h1, h2, h3, h4⟩ := entRows_mem.mp hr
    exact ⟨h1, h2, h3, by rw [h4]; exact nn _ _ h1 h2⟩
  · by_cases q : a = b
    · subst q; exact ⟨0, 0, .nil⟩
    · exact ⟨_, _, .cons (entRows_mem.mpr (show a ∈ ns ∧ b ∈ ns ∧ a ≠ b ∧ e a b = e a b from ⟨ha, hb, q, rfl⟩)) (.nil (n := 0))⟩
/-- what is below all rows is below all walks -/
theorem Met.walk {ns : List Str} {rs : List Row} {g : En} (m : Met ns g) (hr : ∀ r ∈ rs, r.1 ∈ ns ∧ r.2.1 ∈ ns ∧ g r.1 r.2.1 ≤ r.2.2) {n : Nat} {a b : Str} {s : Int} (w : Walk rs n a b s) (ha : a ∈ ns) (hb : b ∈ ns) : g a b ≤ s := by
  induction w with
  | nil => rw [m.zero _ ha]; exact Int.le_refl _
  | cons hm w ih =>
    obtain ⟨h1, h2, h3⟩ := hr _ hm
    simp only at h1 h2 h3
    have := m.tri _ _ _ ha h2 hb
    have := ih h2 hb
    omega
theorem Met.ent {ns : List Str} {e : En} (m : Met ns e) : Ent ns (entRows ns e) e := by
  refine ⟨fun a b ha hb => ?_, fun a b n s ha hb w => m.walk (fun r hr => ?_) w ha hb⟩
  · by_cases q : a = b
    · subst q; rw [m.zero a ha]; exact ⟨0, .nil⟩
    · have w : Walk (entRows ns e) 1 a b (e a b + 0) := .cons (entRows_mem.mpr (show a ∈ ns ∧ b ∈ ns ∧ a ≠ b ∧ e a b = e a b from ⟨ha, hb, q, rfl⟩)) (.nil (n := 0))
      rw [Int.add_zero] at w
      exact ⟨_, w⟩
  · obtain ⟨h1, h2, _, h4⟩ := entRows_mem.mp hr
    exact ⟨h1, h2, by rw [h4]; exact Int.le_refl _⟩
theorem Met.add {ns : List Str} {e f : En} (m : Met ns e) (n : Met ns f) : Met ns fun a b => e a b + f a b :=
  ⟨fun a ha => by show e a a + f a a = 0; rw [m.zero a ha, n.zero a ha]; rfl, fun a b ha hb => Int.add_nonneg (m.nn a b ha hb) (n.nn a b ha hb), fun a b c ha hb hc => by have := m.tri a b c ha hb hc; have := n.tri a b c ha hb hc; show e a c + f a c ≤ e a b + f a b + (e b c + f b c); omega⟩
theorem Met.max {ns : List Str} {e f : En} (m : Met ns e) (n : Met ns f) : Met ns fun a b => Max.max (e a b) (f a b) :=
  ⟨fun a ha => by show Max.max (e a a) (f a a) = 0; rw [m.zero a ha, n.zero a ha]; rfl, fun a b ha hb => by have := m.nn a b ha hb; show 0 ≤ Max.max (e a b) (f a b); omega, fun a b c ha hb hc => by have := m.tri a b c ha hb hc; have := n.tri a b c ha hb hc; show Max.max (e a c) (f a c) ≤ Max.max (e a b) (f a b) + Max.max (e b c) (f b c); omega⟩
/-- the greatest one below both -/
structure Inf (ns : List Str) (m e f : En) : Prop where
  met : Met ns m
  le1 : ∀ a b, a ∈ ns → b ∈ ns → m a b ≤ e a b
  le2 : ∀ a b, a ∈ ns → b ∈ ns → m a b ≤ f a b
  gr : ∀ g, Met ns g → (∀ a b, a ∈ ns → b ∈ ns → g a b ≤ e a b) → (∀ a b, a ∈ ns → b ∈ ns → g a b ≤ f a b) → ∀ a b, a ∈ ns → b ∈ ns → g a b ≤ m a b
theorem inf_of {ns : List Str} {m e f : En} (nd : ns.Nodup) (me : Met ns e) (mf : Met ns f) (h : Ent ns (entRows ns fun a b => min (e a b) (f a b)) m) : Inf ns m e f := by
  have nn : ∀ a b, a ∈ ns → b ∈ ns → 0 ≤ min (e a b) (f a b) := fun a b ha hb => by have := me.nn a b ha hb; have := mf.nn a b ha hb; omega
  have mm : Met ns m := Ent.met (fine_ent nd nn) h
  have le : ∀ a b, a ∈ ns → b ∈ ns → m a b ≤ min (e a b) (f a b) := fun a b ha hb => by
    by_cases q : a = b
    · subst q; rw [mm.zero a ha, me.zero a ha, mf.zero a ha]; decide
    · have w : Walk (entRows ns fun a b => min (e a b) (f a b)) 1 a b (min (e a b) (f a b) + 0) := .cons (entRows_mem.mpr (show a ∈ ns ∧ b ∈ ns ∧ a ≠ b ∧ _ = _ from ⟨ha, hb, q, rfl⟩)) (.nil (n := 0))
      rw [Int.add_zero] at w
      exact h.low _ _ _ _ ha hb w
  refine ⟨mm, fun a b ha hb => by have := le a b ha hb; omega, fun a b ha hb => by have := le a b ha hb; omega, fun g mg g1 g2 a b ha hb => ?_⟩
  obtain ⟨n, w⟩ := h.at_ a b ha hb
  refine mg.walk (fun r hr => ?_) w ha hb
  obtain ⟨h1, h2, _, h4⟩ := entRows_mem.mp hr
  exact ⟨h1, h2, by rw [h4]; have := g1 _ _ h1 h2; have := g2 _ _ h1 h2; show g r.1 r.2.1 ≤ min (e r.1 r.2.1) (f r.1 r.2.1); omega⟩
theorem Inf.unique {ns : List Str} {m k e f : En} (h : Inf ns m e f) (g : Inf ns k e f) {a b : Str} (ha : a ∈ ns) (hb : b ∈ ns) : m a b = k a b :=
  Int.le_antisymm (g.gr m h.met h.le1 h.le2 a b ha hb) (h.gr k g.met g.le1 g.le2 a b ha hb)
end KT

set_option Elab.async false
set_option linter.all false
set_option maxRecDepth 100000
set_option maxHeartbeats 0
set_option pp.deepTerms false
set_option pp.deepTerms.threshold 8


namespace KT
open PySem PySem.Spec PyProof.Rows L2 DL
open Dst (IsDist)
def sdClosed : SpD := fun as Q _ => ∃ (ns : List Str) (rs : List Row), as = [.d (.lst (ns.map .str)), .d (.lst (rs.map rowD))] ∧ ns.Nodup ∧ ns.length ≤ 10 ∧ (∀ r ∈ rs, r.1 ∈ ns ∧ r.2.1 ∈ ns) ∧ (∀ r ∈ rs, 0 ≤ r.2.2) ∧ ∀ f, IsDist ns rs f → Q (.own (.dT (es (sq ns) f))) []
def sq2 (ns : List Str) (i : Nat) : List (Str × Str) := (ns.take i).flatMap fun x => ns.map fun y => (x, y)
theorem sq2_len {ns : List Str} {i j : Nat} {a : Str} (h : ns.length ≤ 10) : (sq2 ns i ++ (ns.take j).map fun y => (a, y)).length < sizeLine := by
  have h1 := flat_len (f := fun x => ns.map fun y => (x, y)) (n := 10) (l := ns.take i) fun a _ => by rw [List.length_map]; exact h
  have h2 : (ns.take i).length ≤ 10 := by rw [List.length_take]; omega
  have h3 : (ns.take j).length ≤ 10 := by rw [List.length_take]; omega
  rw [List.length_append, List.length_map]
  unfold sq2
  exact Nat.lt_of_le_of_lt (show _ ≤ 110 by omega) (by decide)
theorem sq2_next {ns : List Str} {i j : Nat} {a b : Str} (nd : ns.Nodup) (ha : ns[i]? = some a) (hb : ns[j]? = some b) : putT (es (sq2 ns i ++ (ns.take j).map fun y => (a, y)) init) (k2 a b) (optD (init a b)) = es (sq2 ns i ++ (ns.take (j + 1)).map fun y => (a, y)) init := by
  have e := put_new (f := init) (l := sq2 ns i ++ (ns.take j).map fun y => (a, y)) (sq_take nd ha hb)
  rw [e, List.take_succ, hb, List.map_append, ← List.append_assoc]
  rfl
theorem sq2_all {ns : List Str} : sq2 ns ns.length = sq ns := by
  unfold sq2
  rw [List.take_length]
  rfl
theorem sq2_row {ns : List Str} {i : Nat} {a : Str} (ha : ns[i]? = some a) : sq2 ns i ++ (ns.take ns.length).map (fun y => (a, y)) = sq2 ns (i + 1) := by
  unfold sq2
  rw [List.take_succ, ha, List.flatMap_append, List.take_length]
  simp
section
variable {P : Program} {w : World} {K : PySem.W.Frag} {mg : Str → Option Value} {base : Heap}
abbrev s_law_closed : Stmt := top 47
theorem sc_law_closed : FnScope ["_law_names", "_law_rows_here", "_law_found", "_law_one", "_law_other", "_law_turn", "_law_up", "_law_down", "_law_most", "_law_rest", "_law_old"] ["_law_names", "_law_rows_here"] (defScope s_law_closed) := ⟨rfl, rfl, rfl, by decide +kernel, rfl, by decide +kernel, by decide +kernel⟩
theorem ok_closed {f : Addr} {fd : FuncData} (G : Fun K "_law_closed" "_law_closed" s_law_closed f fd) (T : TxtB mg) : FnOk P w K mg base (L2.CX P w) 1 f fd ["_law_names", "_law_rows_here"] (spOf K sdClosed) := by
  refine okD G sc_law_closed [] (fun as Q E ⟨xs, ys, e, _⟩ => by subst e; exact ⟨rfl, rfl⟩) ⟨_, fun cdv A outer s H E ad F0 H0 hr => (pds_cons (psd_setO (i := 2) (pd_newT pe_dnewT) (by show ¬ (2 ∈ ([] : List Nat)); decide) sc_law_closed.nd rfl (.inl rfl))
      (pds_cons (psd_for (passes_of rfl) rfl (pid_list (pd_var (pv 0))) (pgd_name (i := 3) (vs := [3]) (pg_name (i := 3) sc_law_closed.nd rfl (.inl rfl)) (by show ¬ (3 ∈ ([] : List Nat)); decide) (by decide))
      (pds_one (psd_for (passes_of rfl) rfl (pid_list (pd_var (pv 0))) (pgd_name (i := 4) (vs := [4]) (pg_name (i := 4) sc_law_closed.nd rfl (.inl rfl)) (by show ¬ (4 ∈ ([] : List Nat)); decide) (by decide))
      (pds_one (psd_put (j := 2) (hu_of hr) (fun ho hi hv => ps_dput (hu_of hr) ho hi hv (by rfl)) (pv 2) (pd_ifExp (ptd_cmp op_eq op2_eq.op (pd_var (pv 3)) (pd_var (pv 4)) (nomark _)) (pd_const pe_int (fun _ => .int _)) (pd_const pe_non (fun _ => .non))) (pd_tup (fun h => pe_tup h) (pda_cons (pd_var (pv 3)) (pda_cons (pd_var (pv 4)) pda_nil))))))))
      (pds_cons (psd_for (passes_of rfl) rfl (pid_list (pd_var (pv 0))) (pgd_name (i := 5) (vs := [5]) (pg_name (i := 5) sc_law_closed.nd rfl (.inl rfl)) (by show ¬ (5 ∈ ([] : List Nat)); decide) (by decide))
      (pds_one (psd_for (passes_of rfl) rfl (pid_list (pd_var (pv 1))) (pgd_tup (is := [6, 7, 8]) (vs := [6, 7, 8]) (pg_tup rfl (pgs_cons (pg_name (i := 6) sc_law_closed.nd rfl (.inl rfl)) (pgs_cons (pg_name (i := 7) sc_law_closed.nd rfl (.inl rfl)) (pgs_cons (pg_name (i := 8) sc_law_closed.nd rfl (.inl rfl)) pgs_nil)))) rfl (by show ∀ i ∈ ([6, 7, 8] : List Nat), ¬ (i ∈ ([] : List Nat)) ∧ i ∈ ([6, 7, 8] : List Nat); decide))
      (pds_one (psd_for (passes_of rfl) rfl (pid_list (pd_var (pv 0))) (pgd_name (i := 4) (vs := [4]) (pg_name (i := 4) sc_law_closed.nd rfl (.inl rfl)) (by show ¬ (4 ∈ ([] : List Nat)); decide) (by decide))
      (pds_cons (psd_par (i := 9) (j := 10) (oi := false) (oj := false) (pka_cons (pd_getO (j := 2) (fun ho hi => pe_dget (hu_of hr) ho hi (fun _ _ => rfl)) (pv 2) (pd_tup (fun h => pe_tup h) (pda_cons (pd_var (pv 7)) (pda_cons (pd_var (pv 4)) pda_nil)))) (pka_cons (pd_getO (j := 2) (fun ho hi => pe_dget (hu_of hr) ho hi (fun _ _ => rfl)) (pv 2) (pd_tup (fun h => pe_tup h) (pda_cons (pd_var (pv 6)) (pda_cons (pd_var (pv 4)) pda_nil)))) pka_nil)) (by show ¬ (9 ∈ ([] : List Nat)); decide) (by show ¬ (10 ∈ ([] : List Nat)); decide) (fun h => ps_par (i := 9) (j := 10) (by rfl) sc_law_closed.nd rfl rfl (by decide) rfl rfl h (by rfl)) (by decide))
      (pds_one (psd_if (PW.pt (pwd_and (ptd_cmp op_notN op2_notN.op (pd_var (pv 9)) (pd_const pe_non (fun _ => .non)) (nomark _)) (pwd_and1 (PW.pt (pwd_or (ptd_cmp op_isN op2_isN.op (pd_var (pv 10)) (pd_const pe_non (fun _ => .non)) (nomark _)) (pwd_or1 (ptd_cmp op_lt (op2_I0 fun _ _ _ => .bl _) (pd_op op_add (op2_I0 fun _ _ _ => .int _) (pd_var (pv 8)) (pd_var (pv 9))) (pd_var (pv 10)) (nomark _)))))))) (pds_one (psd_put (j := 2) (hu_of hr) (fun ho hi hv => ps_dput (hu_of hr) ho hi hv (by rfl)) (pv 2) (pd_op op_add (op2_I0 fun _ _ _ => .int _) (pd_var (pv 8)) (pd_var (pv 9))) (pd_tup (fun h => pe_tup h) (pda_cons (pd_var (pv 6)) (pda_cons (pd_var (pv 4)) pda_nil))))) pds_nil))))))))
      (pds_one (psd_ret (pd_mvar (pv 2) (by show ¬ (2 ∈ ([] : List Nat)); decide))))))), ?_⟩
  rintro as Qd Ed ⟨ns, rs, rfl, nd, hn, hrs, nn, k⟩
  refine DR.start (δ' := [some (.d (.lst (ns.map .str))), some (.d (.lst (rs.map rowD))), none, none, none, none, none, none, none, none, none]) rfl ?_
  refine DR.seq (DR.setO (DR.newT ?_))
  with_reducible refine DR.cut (fun δ => ∃ p3 p4, δ = [some (.d (.lst (ns.map .str))), some (.d (.lst (rs.map rowD))), some (.own (.dT (es (sq ns) init))), p3, p4, none, none, none, none, none, none]) (fun N kN => ?_) ?_
  · walk_at "dd"
    refine DR.for_inv (fun i δ => ∃ p3 p4, δ = [some (.d (.lst (ns.map .str))), some (.d (.lst (rs.map rowD))), some (.own (.dT (es (sq2 ns i) init))), p3, p4, none, none, none, none, none, none]) ⟨none, none, rfl⟩ ?_ ?_
    · rintro i x δ N hx ⟨p3, p4, rfl⟩ kN
      obtain ⟨a, ha, rfl⟩ := DR.map_at hx
      walk_at "dd"
      refine DR.for_inv (fun j δ => ∃ p4, δ = [some (.d (.lst (ns.map .str))), some (.d (.lst (rs.map rowD))), some (.own (.dT (es (sq2 ns i ++ (ns.take j).map fun y => (a, y)) init))), some (.d (.str a)), p4, none, none, none, none, none, none]) ⟨_, by simp; rfl⟩ ?_ ?_
      · rintro j x δ N hx ⟨p4, rfl⟩ kN
        obtain ⟨b, hb, rfl⟩ := DR.map_at hx
        walk_at "dd"
        have e := sq2_next nd ha hb
        have q := kN _ ⟨some (.d (.str b)), rfl⟩
        rw [← e] at q
        refine DR.split (fun c => ?_) (fun c => ?_)
        · walk_at "dd"
          refine ⟨_, k2 a b, rfl, rfl, by rw [es_len]; exact sq2_len hn, ?_⟩
          rw [show init a b = some 0 from if_pos c] at q
          exact q
        · walk_at "dd"
          refine ⟨_, k2 a b, rfl, rfl, by rw [es_len]; exact sq2_len hn, ?_⟩
          rw [show init a b = none from if_neg c] at q
          exact q
      · rintro δ ⟨p4, rfl⟩
        rw [List.length_map, sq2_row ha]
        exact kN _ ⟨_, _, rfl⟩
    · rintro δ ⟨p3, p4, rfl⟩
      rw [List.length_map, sq2_all]
      exact kN _ ⟨_, _, rfl⟩
  · rintro δ ⟨p3, p4, rfl⟩
    walk_at "dd"
    refine DR.for_inv (fun t δ => ∃ f p3 p4 p5 p6 p7 p8 p9 p10, δ = [some (.d (.lst (ns.map .str))), some (.d (.lst (rs.map rowD))), some (.own (.dT (es (sq ns) f))), p3, p4, p5, p6, p7, p8, p9, p10] ∧ Upto rs ns t f) ⟨init, _, _, _, _, _, _, _, _, rfl, upto0⟩ ?_ ?_
    · rintro t x δ N hx ⟨f0, p3, p4, p5, p6, p7, p8, p9, p10, rfl, hu⟩ kN
      walk_at "dd"
      refine DR.for_inv (fun j δ => ∃ f p3 p4 p5 p6 p7 p8 p9 p10, δ = [some (.d (.lst (ns.map .str))), some (.d (.lst (rs.map rowD))), some (.own (.dT (es (sq ns) f))), p3, p4, p5, p6, p7, p8, p9, p10] ∧ Rnd rs (rs.take j) ns f0 f) ⟨f0, _, _, _, _, _, _, _, _, rfl, Rnd.start hu.1⟩ ?_ ?_
      · rintro j x δ N hx ⟨f1, p3, p4, p5, p6, p7, p8, p9, p10, rfl, h1⟩ kN
        obtain ⟨⟨u, d, m⟩, hr, rfl⟩ := DR.map_at hx
        have hm := List.mem_of_getElem? hr
        walk_at "dd"
        refine DR.for_inv (fun l δ => ∃ f p3 p4 p5 p9 p10, δ = [some (.d (.lst (ns.map .str))), some (.d (.lst (rs.map rowD))), some (.own (.dT (es (sq ns) f))), p3, p4, p5, some (.d (.str u)), some (.d (.str d)), some (.d (.int m)), p9, p10] ∧ Rnd rs (rs.take j) ns f0 f ∧ ∀ b ∈ ns.take l, ∀ s, Dst.leO (f0 d b) s → Dst.leO (f u b) (m + s)) ⟨f1, _, _, _, _, _, rfl, h1, fun b hb => nomatch hb⟩ ?_ ?_
        · rintro l x δ N hx ⟨f, p3, p4, p5, p9, p10, rfl, h2, hl⟩ kN
          obtain ⟨o, ho, rfl⟩ := DR.map_at hx
          have hom := List.mem_of_getElem? ho
          walk_at "dd"
          refine ⟨_, k2 d o, _, rfl, rfl, val_es (mem_sq.mpr ⟨(hrs _ hm).2, hom⟩), ?_⟩
          walk_at "dd"
          refine ⟨_, k2 u o, _, rfl, rfl, val_es (mem_sq.mpr ⟨(hrs _ hm).1, hom⟩), ?_⟩
          walk_at "dd"
          have fin : ∀ q9 q10, N [some (.d (.lst (ns.map .str))), some (.d (.lst (rs.map rowD))), some (.own (.dT (es (sq ns) (relax f u d o m)))), p3, some (.d (.str o)), p5, some (.d (.str u)), some (.d (.str d)), some (.d (.int m)), q9, q10] := fun q9 q10 => by
            refine kN _ ⟨relax f u d o m, _, _, _, _, _, rfl, h2.relax hm, fun b hb s ls => ?_⟩
            rw [List.take_succ, ho] at hb
            rcases List.mem_append.mp hb with hb | hb
            · exact relax_mono _ _ _ (hl b hb s ls)
            · have e : b = o := List.mem_singleton.mp hb
              subst e
              exact relax_done (h2.mono _ _ _ ls)
          cases e1 : f d o with
          | none =>
            refine ⟨true, rfl, ⟨fun _ => rfl, fun _ => rfl⟩, ?_⟩
            walk_at "dd"
            have e : relax f u d o m = f := by unfold relax; rw [e1, if_neg (fun z => nomatch z)]
            rw [e] at fin
            exact fin _ _
          | some r =>
            refine ⟨false, rfl, ⟨(fun h => nomatch h), (fun h => nomatch h)⟩, ?_⟩
            walk_at "dd"
            cases e2 : f u o with
            | none =>
              refine ⟨true, rfl, ⟨fun _ => rfl, fun _ => rfl⟩, ?_⟩
              walk_at "dd"
              refine ⟨_, k2 u o, rfl, rfl, by rw [es_len, sq_len]; exact Nat.lt_of_le_of_lt (Nat.mul_le_mul hn hn) (by decide), ?_⟩
              have e : es (sq ns) (relax f u d o m) = putT (es (sq ns) f) (k2 u o) (.int (m + r)) := by
                unfold relax
                rw [if_pos (show better (f d o) (f u o) m = true by rw [e1, e2]; rfl), ← put_es (mem_sq.mpr ⟨(hrs _ hm).1, hom⟩), e1]
                rfl
              rw [e] at fin
              exact fin _ _
            | some t =>
              refine ⟨false, rfl, ⟨(fun h => nomatch h), (fun h => nomatch h)⟩, ?_⟩
              walk_at "dd"
              refine DR.split (fun c => ?_) (fun c => ?_)
              · walk_at "dd"
                refine ⟨_, k2 u o, rfl, rfl, by rw [es_len, sq_len]; exact Nat.lt_of_le_of_lt (Nat.mul_le_mul hn hn) (by decide), ?_⟩
                have e : es (sq ns) (relax f u d o m) = putT (es (sq ns) f) (k2 u o) (.int (m + r)) := by
                  unfold relax
                  rw [if_pos (show better (f d o) (f u o) m = true by rw [e1, e2]; exact decide_eq_true c), ← put_es (mem_sq.mpr ⟨(hrs _ hm).1, hom⟩), e1]
                  rfl
                rw [e] at fin
                exact fin _ _
              · walk_at "dd"
                have e : relax f u d o m = f := by
                  unfold relax
                  rw [if_neg (by rw [e1, e2]; show ¬ decide (m + r < t) = true; rw [decide_eq_false c]; exact Bool.false_ne_true)]
                rw [e] at fin
                exact fin _ _
        · rintro δ ⟨f, p3, p4, p5, p9, p10, rfl, h2, hl⟩
          rw [List.length_map, List.take_length] at hl
          refine kN _ ⟨f, _, _, _, _, _, _, _, _, rfl, ?_⟩
          rw [List.take_succ, hr]
          exact h2.row hl
      · rintro δ ⟨f, p3, p4, p5, p6, p7, p8, p9, p10, rfl, h1⟩
        rw [List.length_map, List.take_length] at h1
        exact kN _ ⟨f, _, _, _, _, _, _, _, _, rfl, h1.next hrs hu⟩
    · rintro δ ⟨f, p3, p4, p5, p6, p7, p8, p9, p10, rfl, hu⟩
      rw [List.length_map] at hu
      walk_at "dd"
      exact k f (hu.dist hrs nn)
end
end KT

set_option Elab.async false
set_option linter.all false
set_option maxRecDepth 100000
set_option maxHeartbeats 0
set_option pp.deepTerms false
set_option pp.deepTerms.threshold 8


namespace KT
open PySem PySem.Spec PyProof.Rows L2 DL
open Dst (IsDist Walk)
def cash : Str := "cash"
def sdRows : SpD := fun as Q _ => ∃ (xs : List D) (n : Nat) (gs : List Str), as = [.own (.lst xs), .d (.lst (gs.map .str))] ∧ Src n xs ∧ n < 999990000 ∧ Goods gs ∧ ∀ (rs : List Row) (ys : List D) (m : Nat), GoodRows (cash :: gs) rs → m ≤ n + 400 → Src m ys → Q (.own (.lst (rs.map rowD))) [.lst ys]
theorem pln_es {ns : List Str} {f : Fn} : PlnV (.own (.dT (es (sq ns) f))) := fun p hp => by
  obtain ⟨q, _, rfl⟩ := List.mem_map.mp hp
  show Pln (optD _)
  cases f q.1 q.2 <;> exact True.intro
theorem ins_back {α β : Type} {f : α → β} {l : List α} {k : Nat} {x : α} {y : β} (h : y = f x) : (l.map f).take k ++ [y] ++ (l.map f).drop k = (ins l k x).map f := by rw [ins_map, h]
theorem size {xs : List D} {n : Nat} {Q : DV → List OC → Prop} {E : Ex → List OC → Prop} (s : Src n xs) (h : n < 999999998) (k : ∀ (r : Int) (ys : List D), 0 ≤ r → r ≤ 1000000000000 → Src (n + 2) ys → Q (.d (.int r)) [.lst ys]) : sdSize [.own (.lst xs)] Q E := ⟨xs, n, rfl, s, h, k⟩
section
variable {P : Program} {w : World} {K : PySem.W.Frag} {mg : Str → Option Value} {base : Heap}
abbrev s_law_rows : Stmt := top 48
theorem sc_law_rows : FnScope ["_law_source_here", "_law_goods_here", "_law_names", "_law_often", "_law_found", "_law_one", "_law_other", "_law_closed_here"] ["_law_source_here", "_law_goods_here"] (defScope s_law_rows) := ⟨rfl, rfl, rfl, by decide +kernel, rfl, by decide +kernel, by decide +kernel⟩
theorem ok_rows (D_law_draw : DefD P w K mg base "_law_draw" 1 ["_law_source_here", "_law_many"] sdDraw) (D_law_size : DefD P w K mg base "_law_size" 3 ["_law_source_here"] sdSize) (D_law_pairs : DefD P w K mg base "_law_pairs" 1 ["_law_names"] sdPairs) (D_law_closed_L : DefD P w K mg base "_law_closed" 1 ["_law_names", "_law_rows_here"] (lent sdClosed)) {f : Addr} {fd : FuncData} (G : Fun K "_law_rows" "_law_rows" s_law_rows f fd) (T : TxtB mg) : FnOk P w K mg base (L2.CX P w) 5 f fd ["_law_source_here", "_law_goods_here"] (spOf K sdRows) := by
  refine okD G sc_law_rows [0] (fun as Q E ⟨xs, m, g, e, _⟩ => by subst e; exact ⟨rfl, rfl⟩) ⟨_, fun cdv A outer s H E ad F0 H0 hr => (pds_cons (psd_set (i := 2) (pd_op op_cat op2_cat (pd_lst (fun h => pe_lst h) (pda_cons (pd_const pe_str (fun _ => .str (by decide +kernel))) pda_nil)) (pd_var (pv 1))) (by show ¬ (2 ∈ ([0] : List Nat)); decide) sc_law_rows.nd rfl (.inl rfl))
      (pds_cons (psd_par (i := 3) (j := 4) (oi := false) (oj := true) (pka_cons (pd_op op_add (op2_I0 fun _ _ _ => .int _) (pd_const pe_int (fun _ => .int _)) (pd_call D_law_draw.ok (hr.mono (by decide)) (by rfl) D_law_draw.mg D_law_draw.kp D_law_draw.b (takes_of rfl rfl rfl rfl) (pda_own (i := 0) (pv 0) (pda_cons (pd_const pe_int (fun _ => .int _)) pda_nil)))) (pka_cons (pd_lst (fun h => pe_lst h) pda_nil) pka_nil)) (by show ¬ (3 ∈ ([0] : List Nat)); decide) (by show ¬ (4 ∈ ([0] : List Nat)); decide) (fun h => ps_par (i := 3) (j := 4) (by rfl) sc_law_rows.nd rfl rfl (by decide) rfl rfl h (by rfl)) (by decide))
      (pds_cons (psd_for (passes_of rfl) rfl (pid_list (pd_call D_law_pairs.ok (hr.mono (by decide)) (by rfl) D_law_pairs.mg D_law_pairs.kp D_law_pairs.b (takes_of rfl rfl rfl rfl) (pda_cons (pd_var (pv 2)) pda_nil))) (pgd_tup (is := [5, 6]) (vs := [5, 6]) (pg_tup rfl (pgs_cons (pg_name (i := 5) sc_law_rows.nd rfl (.inl rfl)) (pgs_cons (pg_name (i := 6) sc_law_rows.nd rfl (.inl rfl)) pgs_nil))) rfl (by show ∀ i ∈ ([5, 6] : List Nat), ¬ (i ∈ ([0] : List Nat)) ∧ i ∈ ([5, 6] : List Nat); decide))
      (pds_one (psd_if (ptd_cmp op_lt (op2_I0 fun _ _ _ => .bl _) (pd_call D_law_draw.ok (hr.mono (by decide)) (by rfl) D_law_draw.mg D_law_draw.kp D_law_draw.b (takes_of rfl rfl rfl rfl) (pda_own (i := 0) (pv 0) (pda_cons (pd_const pe_int (fun _ => .int _)) pda_nil))) (pd_var (pv 3)) (nomark _)) (pds_one (psd_expr (pd_methO (j := 4) (fun ho h => pe_bm PySem.F.plainAttrs_list PySem.F.slot_list_insert PySem.F.type_list_insert mt_insert ho h) mo_insert (pv 4) (pda_cons (pd_call D_law_draw.ok (hr.mono (by decide)) (by rfl) D_law_draw.mg D_law_draw.kp D_law_draw.b (takes_of rfl rfl rfl rfl) (pda_own (i := 0) (pv 0) (pda_cons (pd_op op_add (op2_I0 fun _ _ _ => .int _) (pd_builtO (i := 4) (fun h => pe_callB call_len_seq (by rfl) T.b_len (by decide +kernel) h) cn_len (pv 4)) (pd_const pe_int (fun _ => .int _))) pda_nil))) (pda_cons (pd_tup (fun h => pe_tup h) (pda_cons (pd_var (pv 5)) (pda_cons (pd_var (pv 6)) (pda_cons (pd_call D_law_size.ok (hr.mono (by decide)) (by rfl) D_law_size.mg D_law_size.kp D_law_size.b (takes_of rfl rfl rfl rfl) (pda_own (i := 0) (pv 0) pda_nil)) pda_nil)))) pda_nil))))) pds_nil)))
      (pds_cons (psd_set (i := 7) (pd_call D_law_closed_L.ok (hr.mono (by decide)) (by rfl) D_law_closed_L.mg D_law_closed_L.kp D_law_closed_L.b (takes_of rfl rfl rfl rfl) (pda_cons (pd_var (pv 2)) (pda_own (i := 4) (pv 4) pda_nil))) (by show ¬ (7 ∈ ([0] : List Nat)); decide) sc_law_rows.nd rfl (.inl rfl))
      (pds_cons (psd_for (passes_of rfl) rfl (pid_list (pd_call D_law_pairs.ok (hr.mono (by decide)) (by rfl) D_law_pairs.mg D_law_pairs.kp D_law_pairs.b (takes_of rfl rfl rfl rfl) (pda_cons (pd_var (pv 2)) pda_nil))) (pgd_tup (is := [5, 6]) (vs := [5, 6]) (pg_tup rfl (pgs_cons (pg_name (i := 5) sc_law_rows.nd rfl (.inl rfl)) (pgs_cons (pg_name (i := 6) sc_law_rows.nd rfl (.inl rfl)) pgs_nil))) rfl (by show ∀ i ∈ ([5, 6] : List Nat), ¬ (i ∈ ([0] : List Nat)) ∧ i ∈ ([5, 6] : List Nat); decide))
      (pds_one (psd_if (ptd_cmp op_isN op2_isN.op (pd_get (fun ho hi => pe_dget (hu_of hr) ho hi (fun _ _ => rfl)) (pd_var (pv 7)) (pd_tup (fun h => pe_tup h) (pda_cons (pd_var (pv 5)) (pda_cons (pd_var (pv 6)) pda_nil)))) (pd_const pe_non (fun _ => .non)) (nomark _)) (pds_cons (psd_expr (pd_methO (j := 4) (fun ho h => pe_bm PySem.F.plainAttrs_list PySem.F.slot_list_insert PySem.F.type_list_insert mt_insert ho h) mo_insert (pv 4) (pda_cons (pd_call D_law_draw.ok (hr.mono (by decide)) (by rfl) D_law_draw.mg D_law_draw.kp D_law_draw.b (takes_of rfl rfl rfl rfl) (pda_own (i := 0) (pv 0) (pda_cons (pd_op op_add (op2_I0 fun _ _ _ => .int _) (pd_builtO (i := 4) (fun h => pe_callB call_len_seq (by rfl) T.b_len (by decide +kernel) h) cn_len (pv 4)) (pd_const pe_int (fun _ => .int _))) pda_nil))) (pda_cons (pd_tup (fun h => pe_tup h) (pda_cons (pd_var (pv 5)) (pda_cons (pd_var (pv 6)) (pda_cons (pd_call D_law_size.ok (hr.mono (by decide)) (by rfl) D_law_size.mg D_law_size.kp D_law_size.b (takes_of rfl rfl rfl rfl) (pda_own (i := 0) (pv 0) pda_nil)) pda_nil)))) pda_nil))))
      (pds_one (psd_set (i := 7) (pd_call D_law_closed_L.ok (hr.mono (by decide)) (by rfl) D_law_closed_L.mg D_law_closed_L.kp D_law_closed_L.b (takes_of rfl rfl rfl rfl) (pda_cons (pd_var (pv 2)) (pda_own (i := 4) (pv 4) pda_nil))) (by show ¬ (7 ∈ ([0] : List Nat)); decide) sc_law_rows.nd rfl (.inl rfl)))) pds_nil)))
      (pds_one (psd_ret (pd_mvar (pv 4) (by show ¬ (4 ∈ ([0] : List Nat)); decide))))))))), ?_⟩
  rintro as Qd Ed ⟨xs, n, gs, rfl, hs, hn, hg, k⟩
  refine DR.start (δ' := [some (.own (.lst xs)), some (.d (.lst (gs.map .str))), none, none, none, none, none, none]) rfl ?_
  obtain ⟨nd, hl, hns⟩ : (cash :: gs).Nodup ∧ (cash :: gs).length ≤ 6 ∧ ([D.str "cash"] ++ gs.map D.str) = (cash :: gs).map D.str := ⟨List.nodup_cons.mpr ⟨fun h => (hg.2.2.2 _ h).1 rfl, hg.1⟩, by rw [List.length_cons]; have := hg.2.2.1; omega, rfl⟩
  walk_at "dd"
  refine ⟨by show 1 + (gs.map D.str).length ≤ sizeLine; rw [List.length_map]; have := hg.2.2.1; exact Nat.le_trans (show _ ≤ 6 by omega) (by decide), ?_⟩
  rw [show ([(DV.d (D.str (Str.ofString "cash"))).toD] ++ gs.map D.str) = (cash :: gs).map D.str from rfl]
  generalize (cash :: gs) = ns at nd hl k
  with_reducible refine DR.cut (fun δ => ∃ ys often m, δ = [some (.own (.lst ys)), some (.d (.lst (gs.map .str))), some (.d (.lst (ns.map .str))), some (.d (.int often)), some (.own (.lst [])), none, none, none] ∧ Src m ys ∧ m ≤ n + 1) (fun N kN => ?_) ?_
  · walk_at "dd"
    refine draw hs (by omega) (by decide) (by decide) fun r ys r0 r1 hs => ?_
    walk_at "dd"
    exact kN _ ⟨_, _, _, rfl, hs, by omega⟩
  rintro δ ⟨ys, often, m, rfl, hs, hm⟩
  with_reducible refine DR.cut (fun δ => ∃ ys m rs p5 p6 p7, δ = [some (.own (.lst ys)), some (.d (.lst (gs.map .str))), some (.d (.lst (ns.map .str))), some (.d (.int often)), some (.own (.lst (rs.map rowD))), p5, p6, p7] ∧ Src m ys ∧ m ≤ n + 1 + 4 * 36 ∧ P1 ns (prs ns).length rs) (fun N kN => ?_) ?_
  · walk_at "dd"
    refine ⟨ns, rfl, by omega, ?_⟩
    walk_at "dd"
    refine DR.for_inv (fun i δ => ∃ ys m rs p5 p6 p7, δ = [some (.own (.lst ys)), some (.d (.lst (gs.map .str))), some (.d (.lst (ns.map .str))), some (.d (.int often)), some (.own (.lst (rs.map rowD))), p5, p6, p7] ∧ Src m ys ∧ m ≤ n + 1 + 4 * i ∧ i ≤ 36 ∧ P1 ns i rs) ⟨ys, m, [], _, _, _, rfl, hs, by omega, by omega, (fun r h => nomatch h), .nil, (fun r h => nomatch h), Nat.le_refl _⟩ ?_ ?_
    · rintro i x δ N hx ⟨ys, m, rs, p5, p6, p7, rfl, hs, hm, hi, h1⟩ kN
      obtain ⟨⟨a, b⟩, hab, rfl⟩ := DR.map_at hx
      have hi36 : i + 1 ≤ 36 := Nat.le_trans (DR.at_lt hab) (prs_len hl)
      walk_at "dd"
      refine draw hs (by omega) (by decide) (by decide) fun r ys r0 r1 hs => ?_
      walk_at "dd"
      refine DR.split (fun c => ?_) (fun c => ?_)
      · walk_at "dd"
        have hlen : (rs.map rowD).length ≤ 36 := by rw [List.length_map]; exact Nat.le_trans h1.len hi
        refine draw hs (by omega) (by omega) (by omega) fun r ys r0 r1 hs => ?_
        walk_at "dd"
        refine size hs (by omega) fun z ys z0 z1 hs => ?_
        walk_at "dd"
        refine ⟨[_, _], _, rfl, rfl, _, _, rfl, Nat.lt_of_le_of_lt hlen (by decide), r0, by omega, ?_⟩
        have q := kN _ ⟨ys, _, ins rs r.toNat (a, b, z), some (.d (.str a)), some (.d (.str b)), p7, rfl, hs, by omega, hi36, h1.more nd hab z0 z1⟩
        rw [ins_map] at q
        exact q
      · walk_at "dd"
        exact kN _ ⟨ys, _, rs, _, _, _, rfl, hs, by omega, hi36, h1.skip⟩
    · rintro δ ⟨ys, m, rs, p5, p6, p7, rfl, hs, hm, hi, h1⟩
      rw [List.length_map] at h1
      exact kN _ ⟨ys, m, rs, _, _, _, rfl, hs, by omega, h1⟩
  rintro δ ⟨ys, m, rs, p5, p6, p7, rfl, hs, hm, h1⟩
  walk_at "dd"
  refine ⟨ns, rs, rfl, nd, by omega, fun r hr => ⟨(h1.row r hr).1, (h1.row r hr).2.1⟩, fun r hr => (h1.row r hr).2.2.2.1, fun f hf => ⟨rfl, pln_es, ?_⟩⟩
  walk_at "dd"
  refine ⟨ns, rfl, by omega, ?_⟩
  walk_at "dd"
  refine DR.for_inv (fun j δ => ∃ ys m rs p5 p6 f, δ = [some (.own (.lst ys)), some (.d (.lst (gs.map .str))), some (.d (.lst (ns.map .str))), some (.d (.int often)), some (.own (.lst (rs.map rowD))), p5, p6, some (.d (.dT (es (sq ns) f)))] ∧ Src m ys ∧ m ≤ n + 145 + 3 * j ∧ j ≤ 36 ∧ P2 ns j rs ∧ IsDist ns rs f) ⟨ys, m, rs, _, _, f, rfl, hs, by omega, by omega, .start h1, hf⟩ ?_ ?_
  · rintro i x δ N hx ⟨ys, m, rs, p5, p6, f, rfl, hs, hm, hi, h2, hf⟩ kN
    obtain ⟨⟨a, b⟩, hab, rfl⟩ := DR.map_at hx
    have hi36 : i + 1 ≤ 36 := Nat.le_trans (DR.at_lt hab) (prs_len hl)
    have hpl := prs_len hl
    have hmem := prs_mem.mp (List.mem_of_getElem? hab)
    walk_at "dd"
    refine ⟨_, k2 a b, _, rfl, rfl, val_es (mem_sq.mpr ⟨hmem.1, hmem.2.1⟩), ?_⟩
    walk_at "dd"
    cases e1 : f a b with
    | none =>
      refine ⟨true, rfl, ⟨fun _ => rfl, fun _ => rfl⟩, ?_⟩
      walk_at "dd"
      have hlen : (rs.map rowD).length ≤ 72 := by rw [List.length_map]; exact Nat.le_trans h2.len (by omega)
      refine draw hs (by omega) (by omega) (by omega) fun r ys r0 r1 hs => ?_
      walk_at "dd"
      refine size hs (by omega) fun z ys z0 z1 hs => ?_
      walk_at "dd"
      refine ⟨[_, _], _, rfl, rfl, _, _, rfl, Nat.lt_of_le_of_lt hlen (by decide), r0, by omega, ?_⟩
      rw [ins_back (f := rowD) (l := rs) (x := (a, b, z)) (k := r.toNat)]
      rotate_left
      · rfl
      have h3 := h2.more (k := r.toNat) hab hf e1 z0 z1
      walk_at "dd"
      refine ⟨ns, ins rs r.toNat (a, b, z), rfl, nd, by omega, fun r hr => ⟨(h3.row r hr).1, (h3.row r hr).2.1⟩, fun r hr => (h3.row r hr).2.2.2.1, fun f hf => ⟨rfl, pln_es, ?_⟩⟩
      exact kN _ ⟨ys, _, ins rs r.toNat (a, b, z), _, _, f, rfl, hs, by omega, hi36, h3, hf⟩
    | some t =>
      refine ⟨false, rfl, ⟨(fun h => nomatch h), (fun h => nomatch h)⟩, ?_⟩
      walk_at "dd"
      exact kN _ ⟨ys, m, rs, _, _, f, rfl, hs, by omega, hi36, h2.skip hab hf e1, hf⟩
  · rintro δ ⟨ys, m, rs, p5, p6, f, rfl, hs, hm, hi, h2, hf⟩
    rw [List.length_map] at h2
    walk_at "dd"
    exact k rs ys m h2.done (by omega) hs
end
end KT

set_option Elab.async false
set_option linter.all false
set_option maxRecDepth 100000
set_option maxHeartbeats 0
set_option pp.deepTerms false
set_option pp.deepTerms.threshold 8


namespace KT
open PySem PySem.Spec PyProof.Rows L2 DL
open Dst (IsDist Walk leO)
def sdSums : SpD := fun as Q _ => ∃ (ns : List Str) (rs : List Row) (x : D), as = [.d (.tup (ns.map .str)), .d x] ∧ (x = .lst (rs.map rowD) ∨ x = .ro (rs.map rowD) ∨ x = .tup (rs.map rowD)) ∧ ns.length ≤ 10 ∧ (∀ r ∈ rs, r.1 ∈ ns ∧ r.2.1 ∈ ns) ∧ (∀ r ∈ rs, 0 ≤ r.2.2) ∧ ∀ kvs f, Dct ns kvs f → IsDist ns rs f → Q (.own (.dT kvs)) []
theorem own0_nil : own0 [] = fun _ _ => none := by
  funext a b
  unfold own0
  exact if_neg fun h => nomatch h.2
section
variable {P : Program} {w : World} {K : PySem.W.Frag} {mg : Str → Option Value} {base : Heap}
abbrev s_closed_sums : Stmt := top 34
theorem sc_closed_sums : FnScope ["assets", "rows", "sums", "asset", "up", "down", "most", "middle", "through"] ["assets", "rows"] (defScope s_closed_sums) := ⟨rfl, rfl, rfl, by decide +kernel, rfl, by decide +kernel, by decide +kernel⟩
theorem ok_sums {f : Addr} {fd : FuncData} (G : Fun K "closed_sums" "closed_sums" s_closed_sums f fd) (T : TxtB mg) : FnOk P w K mg base (L2.CX P w) 1 f fd ["assets", "rows"] (spOf K sdSums) := by
  refine okD G sc_closed_sums [] (fun as Q E ⟨xs, ys, z, e, _⟩ => by subst e; exact ⟨rfl, rfl⟩) ⟨_, fun cdv A outer s H E ad F0 H0 hr => (pds_cons (psd_setO (i := 2) (pd_newT pe_dnewT) (by show ¬ (2 ∈ ([] : List Nat)); decide) sc_closed_sums.nd rfl (.inl rfl))
      (pds_cons (psd_for (passes_of rfl) rfl (pid_tup (pd_var (pv 0))) (pgd_name (i := 3) (vs := [3]) (pg_name (i := 3) sc_closed_sums.nd rfl (.inl rfl)) (by show ¬ (3 ∈ ([] : List Nat)); decide) (by decide))
      (pds_one (psd_put (j := 2) (hu_of hr) (fun ho hi hv => ps_dput (hu_of hr) ho hi hv (by rfl)) (pv 2) (pd_const pe_int (fun _ => .int _)) (pd_tup (fun h => pe_tup h) (pda_cons (pd_var (pv 3)) (pda_cons (pd_var (pv 3)) pda_nil))))))
      (pds_cons (psd_for (passes_of rfl) rfl (pid_seq (pd_var (pv 1))) (pgd_tup (is := [4, 5, 6]) (vs := [4, 5, 6]) (pg_tup rfl (pgs_cons (pg_name (i := 4) sc_closed_sums.nd rfl (.inl rfl)) (pgs_cons (pg_name (i := 5) sc_closed_sums.nd rfl (.inl rfl)) (pgs_cons (pg_name (i := 6) sc_closed_sums.nd rfl (.inl rfl)) pgs_nil)))) rfl (by show ∀ i ∈ ([4, 5, 6] : List Nat), ¬ (i ∈ ([] : List Nat)) ∧ i ∈ ([4, 5, 6] : List Nat); decide))
      (pds_one (psd_if (PW.pt (pwd_or (ptd_inO_f (j := 2) (fun hi ho => pt_cmp (pc_dnotin (hu_of hr) hi ho)) (pd_tup (fun h => pe_tup h) (pda_cons (pd_var (pv 4)) (pda_cons (pd_var (pv 5)) pda_nil))) (pv 2)) (pwd_or1 (ptd_cmp op_lt (op2_I0 fun _ _ _ => .bl _) (pd_var (pv 6)) (pd_getO (j := 2) (fun ho hi => pe_dget (hu_of hr) ho hi (fun _ _ => rfl)) (pv 2) (pd_tup (fun h => pe_tup h) (pda_cons (pd_var (pv 4)) (pda_cons (pd_var (pv 5)) pda_nil)))) (nomark _))))) (pds_one (psd_put (j := 2) (hu_of hr) (fun ho hi hv => ps_dput (hu_of hr) ho hi hv (by rfl)) (pv 2) (pd_var (pv 6)) (pd_tup (fun h => pe_tup h) (pda_cons (pd_var (pv 4)) (pda_cons (pd_var (pv 5)) pda_nil))))) pds_nil)))
      (pds_cons (psd_for (passes_of rfl) rfl (pid_tup (pd_var (pv 0))) (pgd_name (i := 7) (vs := [7]) (pg_name (i := 7) sc_closed_sums.nd rfl (.inl rfl)) (by show ¬ (7 ∈ ([] : List Nat)); decide) (by decide))
      (pds_one (psd_for (passes_of rfl) rfl (pid_tup (pd_var (pv 0))) (pgd_name (i := 4) (vs := [4]) (pg_name (i := 4) sc_closed_sums.nd rfl (.inl rfl)) (by show ¬ (4 ∈ ([] : List Nat)); decide) (by decide))
      (pds_one (psd_for (passes_of rfl) rfl (pid_tup (pd_var (pv 0))) (pgd_name (i := 5) (vs := [5]) (pg_name (i := 5) sc_closed_sums.nd rfl (.inl rfl)) (by show ¬ (5 ∈ ([] : List Nat)); decide) (by decide))
      (pds_one (psd_if (PW.pt (pwd_and (ptd_inO_t (j := 2) (fun hi ho => pt_cmp (pc_din (hu_of hr) hi ho)) (pd_tup (fun h => pe_tup h) (pda_cons (pd_var (pv 4)) (pda_cons (pd_var (pv 7)) pda_nil))) (pv 2)) (pwd_and1 (ptd_inO_t (j := 2) (fun hi ho => pt_cmp (pc_din (hu_of hr) hi ho)) (pd_tup (fun h => pe_tup h) (pda_cons (pd_var (pv 7)) (pda_cons (pd_var (pv 5)) pda_nil))) (pv 2))))) (pds_cons (psd_set (i := 8) (pd_op op_add (op2_I0 fun _ _ _ => .int _) (pd_getO (j := 2) (fun ho hi => pe_dget (hu_of hr) ho hi (fun _ _ => rfl)) (pv 2) (pd_tup (fun h => pe_tup h) (pda_cons (pd_var (pv 4)) (pda_cons (pd_var (pv 7)) pda_nil)))) (pd_getO (j := 2) (fun ho hi => pe_dget (hu_of hr) ho hi (fun _ _ => rfl)) (pv 2) (pd_tup (fun h => pe_tup h) (pda_cons (pd_var (pv 7)) (pda_cons (pd_var (pv 5)) pda_nil))))) (by show ¬ (8 ∈ ([] : List Nat)); decide) sc_closed_sums.nd rfl (.inl rfl))
      (pds_one (psd_if (PW.pt (pwd_or (ptd_inO_f (j := 2) (fun hi ho => pt_cmp (pc_dnotin (hu_of hr) hi ho)) (pd_tup (fun h => pe_tup h) (pda_cons (pd_var (pv 4)) (pda_cons (pd_var (pv 5)) pda_nil))) (pv 2)) (pwd_or1 (ptd_cmp op_lt (op2_I0 fun _ _ _ => .bl _) (pd_var (pv 8)) (pd_getO (j := 2) (fun ho hi => pe_dget (hu_of hr) ho hi (fun _ _ => rfl)) (pv 2) (pd_tup (fun h => pe_tup h) (pda_cons (pd_var (pv 4)) (pda_cons (pd_var (pv 5)) pda_nil)))) (nomark _))))) (pds_one (psd_put (j := 2) (hu_of hr) (fun ho hi hv => ps_dput (hu_of hr) ho hi hv (by rfl)) (pv 2) (pd_var (pv 8)) (pd_tup (fun h => pe_tup h) (pda_cons (pd_var (pv 4)) (pda_cons (pd_var (pv 5)) pda_nil))))) pds_nil))) pds_nil)))))))
      (pds_one (psd_ret (pd_mvar (pv 2) (by show ¬ (2 ∈ ([] : List Nat)); decide)))))))), ?_⟩
  rintro as Qd Ed ⟨ns, rs, x, rfl, hx, hn, hrs, nn, k⟩
  have hsz : ∀ kvs f, Dct ns kvs f → kvs.length < sizeLine := fun kvs f h => Nat.lt_of_le_of_lt h.len (Nat.lt_of_le_of_lt (Nat.mul_le_mul hn hn) (by decide))
  refine DR.start (δ' := [some (.d (.tup (ns.map .str))), some (.d x), none, none, none, none, none, none, none]) rfl ?_
  refine DR.seq (DR.setO (DR.newT ?_))
  with_reducible refine DR.cut (fun δ => ∃ kvs p3, δ = [some (.d (.tup (ns.map .str))), some (.d x), some (.own (.dT kvs)), p3, none, none, none, none, none] ∧ Dct ns kvs (own0 ns)) (fun N kN => ?_) ?_
  · walk_at "dd"
    refine DR.for_inv (fun i δ => ∃ kvs p3, δ = [some (.d (.tup (ns.map .str))), some (.d x), some (.own (.dT kvs)), p3, none, none, none, none, none] ∧ Dct ns kvs (own0 (ns.take i))) ⟨[], _, rfl, by rw [List.take_zero, own0_nil]; exact Dct.nil⟩ ?_ ?_
    · rintro i y δ N hy ⟨kvs, p3, rfl, hd⟩ kN
      obtain ⟨a, ha, rfl⟩ := DR.map_at hy
      have hm := List.mem_of_getElem? ha
      walk_at "dd"
      refine ⟨_, k2 a a, rfl, rfl, hsz _ _ hd, ?_⟩
      refine kN _ ⟨_, _, rfl, ?_⟩
      rw [List.take_succ, ha, show ns.take i ++ (some a).toList = ns.take i ++ [a] from rfl, ← own0_next]
      exact hd.put hm hm
    · rintro δ ⟨kvs, p3, rfl, hd⟩
      rw [List.length_map, List.take_length] at hd
      exact kN _ ⟨_, _, rfl, hd⟩
  rintro δ ⟨kvs, p3, rfl, hd⟩
  with_reducible refine DR.cut (fun δ => ∃ kvs f p3 p4 p5 p6, δ = [some (.d (.tup (ns.map .str))), some (.d x), some (.own (.dT kvs)), p3, p4, p5, p6, none, none] ∧ Dct ns kvs f ∧ Btw rs ns [] f) (fun N kN => ?_) ?_
  · with_reducible refine DR.for_ ?_
    with_reducible refine DR.icut (fun xs δ => xs = rs.map rowD ∧ δ = [some (.d (.tup (ns.map .str))), some (.d x), some (.own (.dT kvs)), p3, none, none, none, none, none]) (fun N kN => ?_) ?_
    · rcases hx with rfl | rfl | rfl
      · refine DR.seqL ?_
        walk_at "dd"
        exact kN _ _ ⟨rfl, rfl⟩
      · refine DR.seqL ?_
        walk_at "dd"
        exact ⟨_, .inr rfl, kN _ _ ⟨rfl, rfl⟩⟩
      · refine DR.seqT ?_
        walk_at "dd"
        exact kN _ _ ⟨rfl, rfl⟩
    rintro xs δ ⟨rfl, rfl⟩
    refine DR.for_inv (fun j δ => ∃ kvs f p3 p4 p5 p6, δ = [some (.d (.tup (ns.map .str))), some (.d x), some (.own (.dT kvs)), p3, p4, p5, p6, none, none] ∧ Dct ns kvs f ∧ Snd rs ns f ∧ (∀ a ∈ ns, leO (f a a) 0) ∧ ∀ r ∈ rs.take j, leO (f r.1 r.2.1) r.2.2) ⟨kvs, _, _, _, _, _, rfl, hd, own0_snd, fun a ha => own0_at ha, fun r hr => nomatch hr⟩ ?_ ?_
    · rintro j y δ N hy ⟨kvs, f, p3, p4, p5, p6, rfl, hd, hs, h0, h1⟩ kN
      obtain ⟨⟨u, d, m⟩, hr, rfl⟩ := DR.map_at hy
      have hm := List.mem_of_getElem? hr
      have hu := (hrs _ hm).1
      have hdn := (hrs _ hm).2
      have fin : ∀ kvs2, Dct ns kvs2 (low2 f u d m) → N [some (.d (.tup (ns.map .str))), some (.d x), some (.own (.dT kvs2)), p3, some (.d (.str u)), some (.d (.str d)), some (.d (.int m)), none, none] := fun kvs2 h2 => by
        refine kN _ ⟨kvs2, _, _, _, _, _, rfl, h2, hs.low2 hu hdn ⟨1, by have := Walk.cons hm (Walk.nil (n := 0)); rwa [Int.add_zero] at this⟩, fun a ha => low2_mono _ _ _ (h0 a ha), fun r hr' => ?_⟩
        rw [List.take_succ, hr] at hr'
        rcases List.mem_append.mp hr' with h | h
        · exact low2_mono _ _ _ (h1 r h)
        · rw [List.mem_singleton.mp h]; exact low2_at
      walk_at "dd"
      refine ⟨_, k2 u d, rfl, rfl, ?_⟩
      rw [hd.val]
      walk_at "dd"
      cases e : f u d with
      | none =>
        refine DR.iteT ?_
        walk_at "dd"
        refine ⟨_, k2 u d, rfl, rfl, hsz _ _ hd, fin _ ?_⟩
        rw [low2_none e]
        exact hd.put hu hdn
      | some t =>
        refine DR.iteF ?_
        walk_at "dd"
        refine ⟨_, k2 u d, _, rfl, rfl, by rw [hd.val, e]; rfl, ?_⟩
        walk_at "dd"
        refine DR.split (fun c => ?_) (fun c => ?_)
        · walk_at "dd"
          refine ⟨_, k2 u d, rfl, rfl, hsz _ _ hd, fin _ ?_⟩
          rw [low2_lt e c]
          exact hd.put hu hdn
        · walk_at "dd"
          refine fin _ ?_
          rw [low2_ge e c]
          exact hd
    · rintro δ ⟨kvs, f, p3, p4, p5, p6, rfl, hd, hs, h0, h1⟩
      rw [List.length_map, List.take_length] at h1
      exact kN _ ⟨kvs, f, _, _, _, _, rfl, hd, .start hs h0 h1⟩
  rintro δ ⟨kvs, f, p3, p4, p5, p6, rfl, hd, hb⟩
  walk_at "dd"
  refine DR.for_inv (fun i δ => ∃ kvs f p3 p4 p5 p6 p7 p8, δ = [some (.d (.tup (ns.map .str))), some (.d x), some (.own (.dT kvs)), p3, p4, p5, p6, p7, p8] ∧ Dct ns kvs f ∧ Btw rs ns (ns.take i) f) ⟨kvs, f, _, _, _, _, _, _, rfl, hd, by rw [List.take_zero]; exact hb⟩ ?_ ?_
  · rintro i y δ N hy ⟨kvs, f0, p3, p4, p5, p6, p7, p8, rfl, hd, hb⟩ kN
    obtain ⟨m, hmi, rfl⟩ := DR.map_at hy
    have hm := List.mem_of_getElem? hmi
    walk_at "dd"
    refine DR.for_inv (fun j δ => ∃ kvs f p3 p4 p5 p6 p8, δ = [some (.d (.tup (ns.map .str))), some (.d x), some (.own (.dT kvs)), p3, p4, p5, p6, some (.d (.str m)), p8] ∧ Dct ns kvs f ∧ Mid rs ns m (sq2 ns j) f0 f) ⟨kvs, f0, _, _, _, _, _, rfl, hd, ⟨⟨hb.sound, hb.dom⟩, .refl _, fun p hp => nomatch hp⟩⟩ ?_ ?_
    · rintro j y δ N hy ⟨kvs, f, p3, p4, p5, p6, p8, rfl, hd, hs⟩ kN
      obtain ⟨u, hui, rfl⟩ := DR.map_at hy
      have hu := List.mem_of_getElem? hui
      walk_at "dd"
      refine DR.for_inv (fun l δ => ∃ kvs f p3 p5 p6 p8, δ = [some (.d (.tup (ns.map .str))), some (.d x), some (.own (.dT kvs)), p3, some (.d (.str u)), p5, p6, some (.d (.str m)), p8] ∧ Dct ns kvs f ∧ Mid rs ns m (sq2 ns j ++ (ns.take l).map fun y => (u, y)) f0 f) ⟨kvs, f, _, _, _, _, rfl, hd, by rw [List.take_zero, List.map_nil, List.append_nil]; exact hs⟩ ?_ ?_
      · rintro l y δ N hy ⟨kvs, f, p3, p5, p6, p8, rfl, hd, hs⟩ kN
        obtain ⟨d, hdi, rfl⟩ := DR.map_at hy
        have hdn := List.mem_of_getElem? hdi
        have keep : ∀ f2 kvs2 q8, Dct ns kvs2 f2 → Snd rs ns f2 → leF f f2 → (∀ s t, leO (f0 u m) s → leO (f0 m d) t → leO (f2 u d) (s + t)) → N [some (.d (.tup (ns.map .str))), some (.d x), some (.own (.dT kvs2)), p3, some (.d (.str u)), some (.d (.str d)), p6, some (.d (.str m)), q8] := fun f2 kvs2 q8 h1 h2 h3 h4 => by
          refine kN _ ⟨kvs2, f2, _, _, _, _, rfl, h1, h2, hs.mono.trans h3, fun p hp s t l1 l2 => ?_⟩
          rw [List.take_succ, hdi, List.map_append, ← List.append_assoc] at hp
          rcases List.mem_append.mp hp with hp | hp
          · exact h3 _ _ _ (hs.done p hp s t l1 l2)
          · have e : p = (u, d) := List.mem_singleton.mp hp
            subst e
            exact h4 s t l1 l2
        walk_at "dd"
        refine ⟨_, k2 u m, rfl, rfl, ?_⟩
        rw [hd.val]
        walk_at "dd"
        cases e1 : f u m with
        | none =>
          refine DR.iteF ?_
          walk_at "dd"
          exact keep f kvs p8 hd hs.snd (.refl _) fun s t l1 l2 => by
            obtain ⟨z, e, _⟩ := hs.mono _ _ _ l1
            rw [e1] at e; cases e
        | some v =>
          refine DR.iteT ?_
          walk_at "dd"
          refine ⟨_, k2 m d, rfl, rfl, ?_⟩
          rw [hd.val]
          walk_at "dd"
          cases e2 : f m d with
          | none =>
            refine DR.iteF ?_
            walk_at "dd"
            exact keep f kvs p8 hd hs.snd (.refl _) fun s t l1 l2 => by
              obtain ⟨z, e, _⟩ := hs.mono _ _ _ l2
              rw [e2] at e; cases e
          | some z =>
            refine DR.iteT ?_
            have fin : ∀ kvs2, Dct ns kvs2 (low2 f u d (v + z)) → N [some (.d (.tup (ns.map .str))), some (.d x), some (.own (.dT kvs2)), p3, some (.d (.str u)), some (.d (.str d)), p6, some (.d (.str m)), some (.d (.int (v + z)))] := fun kvs2 h2 => by
              obtain ⟨n1, w1⟩ := hs.snd.sound _ _ _ e1
              obtain ⟨n2, w2⟩ := hs.snd.sound _ _ _ e2
              refine keep _ kvs2 _ h2 (hs.snd.low2 hu hdn ⟨_, w1.app w2⟩) low2_mono fun s t l1 l2 => ?_
              obtain ⟨v', g1, q1⟩ := hs.mono _ _ _ l1
              obtain ⟨z', g2, q2⟩ := hs.mono _ _ _ l2
              rw [e1] at g1
              rw [e2] at g2
              cases g1; cases g2
              exact low2_at.le (by omega)
            walk_at "dd"
            refine ⟨_, k2 u m, _, rfl, rfl, by rw [hd.val, e1]; rfl, ?_⟩
            walk_at "dd"
            refine ⟨_, k2 m d, _, rfl, rfl, by rw [hd.val, e2]; rfl, ?_⟩
            walk_at "dd"
            refine ⟨_, k2 u d, rfl, rfl, ?_⟩
            rw [hd.val]
            walk_at "dd"
            cases e : f u d with
            | none =>
              refine DR.iteT ?_
              walk_at "dd"
              refine ⟨_, k2 u d, rfl, rfl, hsz _ _ hd, fin _ ?_⟩
              rw [low2_none e]
              exact hd.put hu hdn
            | some t =>
              refine DR.iteF ?_
              walk_at "dd"
              refine ⟨_, k2 u d, _, rfl, rfl, by rw [hd.val, e]; rfl, ?_⟩
              walk_at "dd"
              refine DR.split (fun c => ?_) (fun c => ?_)
              · walk_at "dd"
                refine ⟨_, k2 u d, rfl, rfl, hsz _ _ hd, fin _ ?_⟩
                rw [low2_lt e c]
                exact hd.put hu hdn
              · walk_at "dd"
                refine fin _ ?_
                rw [low2_ge e c]
                exact hd
      · rintro δ ⟨kvs, f, p3, p5, p6, p8, rfl, hd, hs⟩
        rw [List.length_map, sq2_row hui] at hs
        exact kN _ ⟨kvs, f, _, _, _, _, _, rfl, hd, hs⟩
    · rintro δ ⟨kvs, f, p3, p4, p5, p6, p8, rfl, hd, hs⟩
      rw [List.length_map, sq2_all] at hs
      refine kN _ ⟨kvs, f, _, _, _, _, _, _, rfl, hd, ?_⟩
      rw [List.take_succ, hmi]
      exact hs.end nn hm hb
  · rintro δ ⟨kvs, f, p3, p4, p5, p6, p7, p8, rfl, hd, hb⟩
    rw [List.length_map, List.take_length] at hb
    walk_at "dd"
    exact k kvs f hd (hb.dist hrs)
end
end KT

set_option Elab.async false
set_option linter.all false
set_option maxRecDepth 100000
set_option maxHeartbeats 0
set_option pp.deepTerms false
set_option pp.deepTerms.threshold 8


namespace KT
open PySem PySem.Spec PyProof.Rows L2 DL
structure TxtN (mg : Str → Option Value) : Prop extends TxtB mg where
  b_isinstance : mg "isinstance" = none
  b_all : mg "all" = none
  b_str : mg "str" = none
  b_bool : mg "bool" = none
  b_list : mg "list" = none
  b_tuple : mg "tuple" = none
  b_set : mg "set" = none
  b_enumerate : mg "enumerate" = none
  b_iter : mg "iter" = none
  b_zip : mg "zip" = none
  b_max : mg "max" = none
  k_MOST : ∃ t, mg "MOST" = some (.int 1000000000000 t)
  k__CASH : ∃ t, mg "_CASH" = some (.str "cash" t)
  k__LETTERS : ∃ t, mg "_LETTERS" = some (.str "abcdefghijklmnopqrstuvwxyz" t)
  k__LONGEST_NAME : ∃ t, mg "_LONGEST_NAME" = some (.int 12 t)
  k__MOST_GOODS : ∃ t, mg "_MOST_GOODS" = some (.int 5 t)
def sdName : SpD := fun as Q _ => ∃ g : Str, as = [.d (.str g)] ∧ Nm g ∧ Q (.d (.bl true)) []
theorem in_abz {c : Nat} (h : 97 ≤ c ∧ c ≤ 122) : c ∈ (Str.ofString "abcdefghijklmnopqrstuvwxyz").cps.toList := by
  have e : ∀ k : Fin 26, 97 + k.val ∈ (Str.ofString "abcdefghijklmnopqrstuvwxyz").cps.toList := by decide +kernel
  have := e ⟨c - 97, by omega⟩
  rwa [show 97 + (c - 97) = c by omega] at this
theorem kit_self {K : PySem.W.Frag} {n : String} : PySem.W.kitOne K (.type n) (.type n) = some true := by
  unfold PySem.W.kitOne
  exact if_pos (beq_iff_eq.mpr rfl)
section
variable {P : Program} {w : World} {K : PySem.W.Frag} {mg : Str → Option Value} {base : Heap}
abbrev s_is_name : Stmt := top 20
theorem sc_is_name : FnScope ["thing", "letter"] ["thing"] (defScope s_is_name) := ⟨rfl, rfl, rfl, by decide +kernel, rfl, by decide +kernel, by decide +kernel⟩
theorem ok_name {f : Addr} {fd : FuncData} (G : Fun K "is_name" "is_name" s_is_name f fd) (T : TxtN mg) : FnOk P w K mg base (L2.CX P w) 1 f fd ["thing"] (spOf K sdName) := by
  obtain ⟨_, k__LETTERS⟩ := T.k__LETTERS
  obtain ⟨_, k__LONGEST_NAME⟩ := T.k__LONGEST_NAME
  refine okD G sc_is_name [] (fun as Q E ⟨xs, e, _⟩ => by subst e; exact ⟨rfl, rfl⟩) ⟨_, fun cdv A outer s H E ad F0 H0 hr => (pds_cons (psd_if (PW.pt (pwd_or (ptd_not (ptd_val (pd_builtB (fun h => pe_callB call_isi (by rfl) T.b_isinstance (by decide +kernel) h) (cn_isi (K := K)).op (pda_cons (pd_var (pv 0)) (pda_cons (pd_const (pe_bltn (v := .ty "str") (by rfl) T.b_str (by decide +kernel) rfl) (fun _ => .ty _)) pda_nil))) (fun h => pt_val h))) (pwd_or1 (ptd_not (ptd_chain op_le (op2_I0 fun _ _ _ => .bl _) op_le (op2_I0 fun _ _ _ => .bl _) (pd_const pe_int (fun _ => .int _)) (pd_builtB (fun h => pe_callB call_len_str (by rfl) T.b_len (by decide +kernel) h) cn_lenS.op (pda_cons (pd_var (pv 0)) pda_nil)) (pd_const (pe_glob (v := (.int 12)) rfl k__LONGEST_NAME ⟨_, rfl⟩) (fun _ => .int _)) (by with_unfolding_all rfl)))))) (pds_one (psd_ret (pd_const pe_bl (fun _ => .bl _)))) pds_nil)
      (pds_one (psd_ret (pd_builtB (fun h => pe_callB (cr_all rfl) (by rfl) T.b_all (by decide +kernel) h) cn_all.op (pda_cons (pd_lc (own := [("letter", 1)]) (by rfl) sc_is_name.nd (pid_str (pd_var (pv 0))) (blkOk_by (own := [("letter", 1)]) (N := ["thing", "letter"]) (sc := defScope s_is_name) (by decide +kernel)) (fun _ _ _ _ _ => (pgd_name (i := 1) (vs := [1]) (pg_name (i := 1) sc_is_name.nd rfl (.inl rfl)) (by show ¬ (1 ∈ ([] : List Nat)); decide) (by decide))) (fun _ _ _ _ _ => ptsd_nil) (fun _ _ _ _ _ => (pd_cmp op_in_sign op2_inSign.op (pd_var (pv 1)) (pd_const (pe_glob (v := (.str "abcdefghijklmnopqrstuvwxyz")) rfl k__LETTERS ⟨_, rfl⟩) (fun _ => .str (by decide +kernel))) rfl)) (by show ∀ i ∈ ([1] : List Nat), ¬ (i ∈ ([] : List Nat)); decide)) pda_nil))))), ?_⟩
  rintro as Qd Ed ⟨g, rfl, hg, k⟩
  refine DR.start (δ' := [some (.d (.str g)), none]) rfl ?_
  walk_at "dd"
  refine ⟨_, _, _, _, true, rfl, .ty _, .str _, kit_self, ?_⟩
  walk_at "dd"
  obtain ⟨g1, g2, g3, g4⟩ := hg
  refine ⟨Nat.le_trans g3 (by decide), ?_⟩
  walk_at "dd"
  rw [show decide (1 ≤ (g.length : Int)) = true from decide_eq_true (by omega)]
  walk_at "dd"
  rw [show decide ((g.length : Int) ≤ 12) = true from decide_eq_true (by omega)]
  walk_at "dd"
  refine DR.lc_mapM (fun _ => D.bl true) (fun ch acc N hc hl kN => ?_) ?_
  · walk_at "dd"
    refine ⟨Nat.lt_of_lt_of_le hl (Nat.le_trans (show g.cps.toList.length ≤ 12 by rw [Array.length_toList]; exact g3) (by decide)), ?_⟩
    rw [if_neg Bool.false_ne_true, show decide (ch ∈ (Str.ofString "abcdefghijklmnopqrstuvwxyz").cps.toList) = true from decide_eq_true (in_abz (g4 ch hc))]
    exact kN
  · walk_at "dd"
    refine ⟨g.cps.toList.map fun _ => true, .inl (by rw [List.map_map]; rfl), ?_⟩
    walk_at "dd"
    have e : (g.cps.toList.map fun _ => true).all id = true := by simp
    rw [← e] at k
    exact k
end
end KT

set_option Elab.async false
set_option linter.all false
set_option maxRecDepth 100000
set_option maxHeartbeats 0
set_option pp.deepTerms false
set_option pp.deepTerms.threshold 8


namespace KT
open PySem PySem.Spec PyProof.Rows L2 DL
/-- a row of data, as a list or as a tuple -/
def RowOf (x : D) (xs : List D) : Prop := x = .lst xs ∨ x = .tup xs
def sdSeq : SpD := fun as Q _ => ∃ x xs, as = [.d x] ∧ RowOf x xs ∧ Q (.d (.bl true)) []
def sdChecked : SpD := fun as Q _ => ∃ (gs : List Str) (x : D), as = [.d x] ∧ RowOf x (gs.map .str) ∧ Goods gs ∧ Q (.d (.tup (gs.map .str))) []
def sdAssets : SpD := fun as Q _ => ∃ (gs : List Str) (x : D), as = [.d x] ∧ RowOf x (gs.map .str) ∧ Goods gs ∧ Q (.d (.tup ((cash :: gs).map .str))) []
theorem scL_str : ∀ {gs : List Str}, scL (gs.map .str) = some (gs.map V.str)
  | [] => rfl
  | g :: gs => by
    rw [List.map_cons, List.map_cons]
    unfold scL
    rw [scL_str]
    rfl
theorem inV_str {a : Str} {gs : List Str} : inV (V.str a) (gs.map V.str) = decide (a ∈ gs) := by
  unfold inV
  rw [List.any_map, Bool.eq_iff_iff, List.any_eq_true, decide_eq_true_eq]
  constructor
  · rintro ⟨b, hb, e⟩
    have e : eqV (V.str b) (V.str a) = true := e
    have : b = a := by simpa [eqV] using e
    exact this ▸ hb
  · intro h
    exact ⟨a, h, by show eqV (V.str a) (V.str a) = true; simp [eqV]⟩
section
variable {P : Program} {w : World} {K : PySem.W.Frag} {mg : Str → Option Value} {base : Heap}
abbrev s_is_sequence : Stmt := top 17
theorem sc_is_sequence : FnScope ["thing"] ["thing"] (defScope s_is_sequence) := ⟨rfl, rfl, rfl, by decide +kernel, rfl, by decide +kernel, by decide +kernel⟩
theorem ok_seq {f : Addr} {fd : FuncData} (G : Fun K "is_sequence" "is_sequence" s_is_sequence f fd) (T : TxtN mg) : FnOk P w K mg base (L2.CX P w) 1 f fd ["thing"] (spOf K sdSeq) := by
  refine okD G sc_is_sequence [] (fun as Q E ⟨xs, y, e, _⟩ => by subst e; exact ⟨rfl, rfl⟩) ⟨_, fun cdv A outer s H E ad F0 H0 hr => (pds_one (psd_ret (pd_builtB (fun h => pe_callB call_isiT (by rfl) T.b_isinstance (by decide +kernel) h) (cn_isiT (K := K)).op (pda_cons (pd_var (pv 0)) (pda_cons (pd_tup (fun h => pe_tup h) (pda_cons (pd_const (pe_bltn (v := .ty "list") (by rfl) T.b_list (by decide +kernel) rfl) (fun _ => .ty _)) (pda_cons (pd_const (pe_bltn (v := .ty "tuple") (by rfl) T.b_tuple (by decide +kernel) rfl) (fun _ => .ty _)) pda_nil))) pda_nil))))), ?_⟩
  rintro as Qd Ed ⟨x, xs, rfl, hx, k⟩
  refine DR.start (δ' := [some (.d x)]) rfl ?_
  walk_at "dd"
  rcases hx with rfl | rfl
  · refine ⟨_, _, _, _, true, rfl, .cons (.ty _) (.cons (.ty _) .nil), .lst _, rfl, ?_⟩
    walk_at "dd"
    exact k
  · refine ⟨_, _, _, _, true, rfl, .cons (.ty _) (.cons (.ty _) .nil), .tup _, rfl, ?_⟩
    walk_at "dd"
    exact k
abbrev s_checked_goods : Stmt := top 21
theorem sc_checked_goods : FnScope ["goods", "told", "good"] ["goods"] (defScope s_checked_goods) := ⟨rfl, rfl, rfl, by decide +kernel, rfl, by decide +kernel, by decide +kernel⟩
theorem ok_checked (tk0 : True) (D_is_sequence : DefD P w K mg base "is_sequence" 1 ["thing"] sdSeq) (D_is_name : DefD P w K mg base "is_name" 1 ["thing"] sdName) {f : Addr} {fd : FuncData} (G : Fun K "checked_goods" "checked_goods" s_checked_goods f fd) (T : TxtN mg) : FnOk P w K mg base (L2.CX P w) 3 f fd ["goods"] (spOf K sdChecked) := by
  obtain ⟨_, k__CASH⟩ := T.k__CASH
  obtain ⟨_, k__MOST_GOODS⟩ := T.k__MOST_GOODS
  refine okD G sc_checked_goods [] (fun as Q E ⟨xs, y, e, _⟩ => by subst e; exact ⟨rfl, rfl⟩) ⟨_, fun cdv A outer s H E ad F0 H0 hr => (pds_cons (psd_if (PW.pt (pwd_or (ptd_not (ptd_val (pd_call D_is_sequence.ok (hr.mono (by decide)) (by rfl) D_is_sequence.mg D_is_sequence.kp D_is_sequence.b (takes_of rfl rfl rfl rfl) (pda_cons (pd_var (pv 0)) pda_nil)) (fun h => pt_val h))) (pwd_or1 (ptd_not (ptd_chain op_le (op2_I0 fun _ _ _ => .bl _) op_le (op2_I0 fun _ _ _ => .bl _) (pd_const pe_int (fun _ => .int _)) (pd_builtB (fun h => pe_callB call_len_seq (by rfl) T.b_len (by decide +kernel) h) cn_len.op (pda_cons (pd_var (pv 0)) pda_nil)) (pd_const (pe_glob (v := (.int 5)) rfl k__MOST_GOODS ⟨_, rfl⟩) (fun _ => .int _)) (by with_unfolding_all rfl)))))) (pds_one psd_never) pds_nil)
      (pds_cons (psd_set (i := 1) (pd_builtB (fun h => pe_callTy call_tuple_of (by rfl) T.b_tuple (by decide +kernel) h) cn_tuple (pda_cons (pd_var (pv 0)) pda_nil)) (by show ¬ (1 ∈ ([] : List Nat)); decide) sc_checked_goods.nd rfl (.inl rfl))
      (pds_cons (psd_if (ptd_not (ptd_val (pd_builtB (fun h => pe_callB (cr_all rfl) (by rfl) T.b_all (by decide +kernel) h) cn_all.op (pda_cons (pd_lc (own := [("good", 2)]) (by rfl) sc_checked_goods.nd (pid_tup (pd_var (pv 1))) (blkOk_by (own := [("good", 2)]) (N := ["goods", "told", "good"]) (sc := defScope s_checked_goods) (by decide +kernel)) (fun _ _ _ _ _ => (pgd_name (i := 2) (vs := [2]) (pg_name (i := 2) sc_checked_goods.nd rfl (.inl rfl)) (by show ¬ (2 ∈ ([] : List Nat)); decide) (by decide))) (fun _ _ _ _ _ => ptsd_nil) (fun _ _ _ _ _ => (pd_call D_is_name.ok (hr.mono (by decide)) (by rfl) D_is_name.mg D_is_name.kp D_is_name.b takes0 (pda_cons (pd_var (pv 2)) pda_nil))) (by show ∀ i ∈ ([2] : List Nat), ¬ (i ∈ ([] : List Nat)); decide)) pda_nil)) (fun h => pt_val h))) (pds_one psd_never) pds_nil)
      (pds_cons (psd_if (ptd_cmp op_in_seq (op2_in false).op (pd_const (pe_glob (v := (.str "cash")) rfl k__CASH ⟨_, rfl⟩) (fun _ => .str (by decide +kernel))) (pd_var (pv 1)) rfl) (pds_one psd_never) pds_nil)
      (pds_cons (psd_if (ptd_cmp op_lt (op2_I0 fun _ _ _ => .bl _) (pd_lenSet (fun h => RS.pe_lenSetT rfl (by rfl) T.b_len (by rfl) T.b_set h) (pd_var (pv 1))) (pd_builtB (fun h => pe_callB call_len_seq (by rfl) T.b_len (by decide +kernel) h) cn_len.op (pda_cons (pd_var (pv 1)) pda_nil)) (nomark _)) (pds_one psd_never) pds_nil)
      (pds_one (psd_ret (pd_var (pv 1))))))))), ?_⟩
  rintro as Qd Ed ⟨gs, x, rfl, hx, hg, k⟩
  refine DR.start (δ' := [some (.d x), none, none]) rfl ?_
  have hl : ((gs.map D.str).length : Int) ≤ 5 ∧ 1 ≤ ((gs.map D.str).length : Int) := by rw [List.length_map]; have := hg.2.1; have := hg.2.2.1; omega
  have hz : (gs.map D.str).length ≤ sizeLine := Nat.le_trans (show _ ≤ 5 by omega) (by decide)
  with_reducible refine DR.cut (fun δ => δ = [some (.d x), none, none]) (fun N kN => ?_) ?_
  · rcases hx with rfl | rfl
    · walk_at "dd"
      refine ⟨_, _, rfl, .inl rfl, ?_⟩
      walk_at "dd"
      rw [show decide (1 ≤ ((gs.map D.str).length : Int)) = true from decide_eq_true hl.2]
      walk_at "dd"
      rw [show decide (((gs.map D.str).length : Int) ≤ 5) = true from decide_eq_true hl.1]
      walk_at "dd"
      exact kN _ rfl
    · walk_at "dd"
      refine ⟨_, _, rfl, .inr rfl, ?_⟩
      walk_at "dd"
      rw [show decide (1 ≤ ((gs.map D.str).length : Int)) = true from decide_eq_true hl.2]
      walk_at "dd"
      rw [show decide (((gs.map D.str).length : Int) ≤ 5) = true from decide_eq_true hl.1]
      walk_at "dd"
      exact kN _ rfl
  rintro δ rfl
  with_reducible refine DR.cut (fun δ => δ = [some (.d x), some (.d (.tup (gs.map .str))), none]) (fun N kN => ?_) ?_
  · rcases hx with rfl | rfl
    · walk_at "dd"
      exact ⟨_, _, rfl, .inl rfl, kN _ rfl⟩
    · walk_at "dd"
      exact ⟨_, _, rfl, .inr (.inr rfl), kN _ rfl⟩
  rintro δ rfl
  walk_at "dd"
  refine DR.lc_mapM (fun _ => D.bl true) (fun g acc N hgm hl kN => ?_) ?_
  · walk_at "dd"
    refine ⟨g, rfl, hg.2.2.2 g hgm, ?_⟩
    exact ⟨Nat.lt_of_lt_of_le hl (by rw [List.length_map] at hz; exact hz), kN⟩
  walk_at "dd"
  refine ⟨gs.map fun _ => true, .inl (by rw [List.map_map]; rfl), ?_⟩
  walk_at "dd"
  have e : (gs.map fun _ => true).all id = true := by simp
  rw [show (fun bs : List Bool => bs.all id) (gs.map fun _ => true) = true from e]
  walk_at "dd"
  refine ⟨_, _, _, rfl, rfl, scL_str, ?_⟩
  walk_at "dd"
  rw [inV_str, decide_eq_false (fun h => (hg.2.2.2 _ h).1 rfl)]
  walk_at "dd"
  refine ⟨Nat.le_trans hg.2.2.1 (by decide), ?_⟩
  walk_at "dd"
  refine DR.split (fun c => ?_) (fun c => ?_)
  · rw [List.length_map] at c
    exact absurd hg.1 ((RS.uniq_lt gs).mp (by omega))
  · walk_at "dd"
    exact k
abbrev s_assets : Stmt := top 22
theorem sc_assets : FnScope ["goods"] ["goods"] (defScope s_assets) := ⟨rfl, rfl, rfl, by decide +kernel, rfl, by decide +kernel, by decide +kernel⟩
theorem ok_assets (D_checked_goods : DefD P w K mg base "checked_goods" 3 ["goods"] sdChecked) {f : Addr} {fd : FuncData} (G : Fun K "assets" "assets" s_assets f fd) (T : TxtN mg) : FnOk P w K mg base (L2.CX P w) 5 f fd ["goods"] (spOf K sdAssets) := by
  obtain ⟨_, k__CASH⟩ := T.k__CASH
  refine okD G sc_assets [] (fun as Q E ⟨xs, y, e, _⟩ => by subst e; exact ⟨rfl, rfl⟩) ⟨_, fun cdv A outer s H E ad F0 H0 hr => (pds_one (psd_ret (pd_op op_catA op2_catT (pd_tup (fun h => pe_tup h) (pda_cons (pd_const (pe_glob (v := (.str "cash")) rfl k__CASH ⟨_, rfl⟩) (fun _ => .str (by decide +kernel))) pda_nil)) (pd_call D_checked_goods.ok (hr.mono (by decide)) (by rfl) D_checked_goods.mg D_checked_goods.kp D_checked_goods.b (takes_of rfl rfl rfl rfl) (pda_cons (pd_var (pv 0)) pda_nil))))), ?_⟩
  rintro as Qd Ed ⟨gs, x, rfl, hx, hg, k⟩
  refine DR.start (δ' := [some (.d x)]) rfl ?_
  walk_at "dd"
  refine ⟨gs, x, rfl, hx, hg, ?_⟩
  walk_at "dd"
  refine ⟨by show 1 + (gs.map D.str).length ≤ sizeLine; rw [List.length_map]; have := hg.2.2.1; exact Nat.le_trans (show _ ≤ 6 by omega) (by decide), ?_⟩
  walk_at "dd"
  exact k
end
end KT

set_option Elab.async false
set_option linter.all false
set_option maxRecDepth 100000
set_option maxHeartbeats 0
set_option pp.deepTerms false
set_option pp.deepTerms.threshold 8


namespace KT
open PySem PySem.Spec PyProof.Rows L2 DL
def sdPairsOf : SpD := fun as Q _ => ∃ ns : List Str, as = [.d (.tup (ns.map .str))] ∧ ns.length ≤ 10 ∧ Q (.d (.tup ((prs ns).map prD))) []
section
variable {P : Program} {w : World} {K : PySem.W.Frag} {mg : Str → Option Value} {base : Heap}
abbrev s_pairs_of : Stmt := top 23
theorem sc_pairs_of : FnScope ["known", "up", "down"] ["known"] (defScope s_pairs_of) := ⟨rfl, rfl, rfl, by decide +kernel, rfl, by decide +kernel, by decide +kernel⟩
theorem ok_pairs_of {f : Addr} {fd : FuncData} (G : Fun K "pairs_of" "pairs_of" s_pairs_of f fd) (T : TxtN mg) : FnOk P w K mg base (L2.CX P w) 1 f fd ["known"] (spOf K sdPairsOf) := by
  refine okD G sc_pairs_of [] (fun as Q E ⟨xs, e, _⟩ => by subst e; exact ⟨rfl, rfl⟩) ⟨_, fun cdv A outer s H E ad F0 H0 hr => (pds_one (psd_ret (pd_builtB (fun h => pe_callTy call_tuple_of (by rfl) T.b_tuple (by decide +kernel) h) cn_tuple (pda_cons (pd_lc2 (own := [("up", 1), ("down", 2)]) (vs1 := [2]) (by rfl) sc_pairs_of.nd (pid_tup (pd_var (pv 0))) (blkOk_by (own := [("up", 1), ("down", 2)]) (N := ["known", "up", "down"]) (sc := defScope s_pairs_of) (by decide +kernel)) (by show ∀ i ∈ ([2] : List Nat), i ∈ ([1, 2] : List Nat); decide) (fun _ _ _ _ _ => (pgd_name (i := 1) (vs := [1, 2]) (pg_name (i := 1) sc_pairs_of.nd rfl (.inl rfl)) (by show ¬ (1 ∈ ([] : List Nat)); decide) (by decide))) (fun _ _ _ _ _ => ptsd_nil) (fun _ _ _ _ _ => (pid_tup (pd_var (pv 0)))) (fun _ _ _ _ _ => (pgd_name (i := 2) (vs := [2]) (pg_name (i := 2) sc_pairs_of.nd rfl (.inl rfl)) (by show ¬ (2 ∈ ([] : List Nat)); decide) (by decide))) (fun _ _ _ _ _ => ptsd_one (ptd_cmp op_ne op2_ne.op (pd_var (pv 1)) (pd_var (pv 2)) (nomark _))) (fun _ _ _ _ _ => (pd_tup (fun h => pe_tup h) (pda_cons (pd_var (pv 1)) (pda_cons (pd_var (pv 2)) pda_nil)))) (by show ∀ i ∈ ([1, 2] : List Nat), ¬ (i ∈ ([] : List Nat)); decide)) pda_nil)))), ?_⟩
  rintro as Qd Ed ⟨ns, rfl, hn, k⟩
  refine DR.start (δ' := [some (.d (.tup (ns.map .str))), none, none]) rfl ?_
  walk_at "dd"
  have h10 : (ns.flatMap fun a => (prRow ns a).map prD).length ≤ 100 := by
    have h2 := flat_len (f := fun a => (prRow ns a).map prD) (n := 10) (l := ns) fun a _ => by rw [List.length_map]; exact Nat.le_trans prRow_len hn
    omega
  refine DR.lc2_flatM (fun a => (prRow ns a).map prD) (fun a acc N ha hl kN => ?_) ?_
  · have hl : acc.length ≤ 100 := Nat.le_trans hl (by show 0 + _ ≤ 100; omega)
    walk_at "dd"
    refine DR.lc_filterA (fun b => if b = a then none else some (D.tup [.str a, .str b])) (n := 110) (by omega) (fun b acc N hb hl kN => ?_) ?_
    · walk_at "dd"
      refine DR.splitN (fun c => ?_) (fun c => ?_)
      · rw [if_pos c.symm, Option.toList_none, List.append_nil] at kN
        exact kN
      · rw [if_neg fun e => c e.symm] at kN
        walk_at "dd"
        exact ⟨Nat.lt_of_lt_of_le hl (by decide), kN⟩
    · rw [prRow_f]
      exact kN
  · walk_at "dd"
    refine ⟨_, _, rfl, .inl rfl, ?_⟩
    walk_at "dd"
    have e : [] ++ (ns.flatMap fun a => (prRow ns a).map prD) = (prs ns).map prD := by
      unfold prs
      rw [List.map_flatMap]
      rfl
    rw [e]
    exact k
end
end KT

set_option Elab.async false
set_option linter.all false
set_option maxRecDepth 100000
set_option maxHeartbeats 0
set_option pp.deepTerms false
set_option pp.deepTerms.threshold 8


namespace KT
open PySem PySem.Spec PyProof.Rows L2 DL
def sdIsInt : SpD := fun as Q _ => ∃ i : Int, as = [.d (.int i)] ∧ Q (.d (.bl true)) []
def sdWhole : SpD := fun as Q _ => ∃ i a b : Int, as = [.d (.int i), .d (.int a), .d (.int b)] ∧ a ≤ i ∧ i ≤ b ∧ Q (.d (.bl true)) []
def sdIsRow : SpD := fun as Q _ => ∃ (x : D) (xs : List D), as = [.d x, .d (.int xs.length)] ∧ RowOf x xs ∧ xs.length ≤ 1000 ∧ Q (.d (.bl true)) []
section
variable {P : Program} {w : World} {K : PySem.W.Frag} {mg : Str → Option Value} {base : Heap}
abbrev s_is_integer : Stmt := top 15
theorem sc_is_integer : FnScope ["thing"] ["thing"] (defScope s_is_integer) := ⟨rfl, rfl, rfl, by decide +kernel, rfl, by decide +kernel, by decide +kernel⟩
theorem ok_integer {f : Addr} {fd : FuncData} (G : Fun K "is_integer" "is_integer" s_is_integer f fd) (T : TxtN mg) : FnOk P w K mg base (L2.CX P w) 1 f fd ["thing"] (spOf K sdIsInt) := by
  refine okD G sc_is_integer [] (fun as Q E ⟨xs, e, _⟩ => by subst e; exact ⟨rfl, rfl⟩) ⟨_, fun cdv A outer s H E ad F0 H0 hr => (pds_one (psd_ret (pd_and (pd_builtB (fun h => pe_callB call_isi (by rfl) T.b_isinstance (by decide +kernel) h) (cn_isi (K := K)).op (pda_cons (pd_var (pv 0)) (pda_cons (pd_const (pe_bltn (v := .ty "int") (by rfl) T.b_int (by decide +kernel) rfl) (fun _ => .ty _)) pda_nil))) (pd_one (pd_not (pd_builtB (fun h => pe_callB call_isi (by rfl) T.b_isinstance (by decide +kernel) h) (cn_isi (K := K)).op (pda_cons (pd_var (pv 0)) (pda_cons (pd_const (pe_bltn (v := .ty "bool") (by rfl) T.b_bool (by decide +kernel) rfl) (fun _ => .ty _)) pda_nil)))))))), ?_⟩
  rintro as Qd Ed ⟨i, rfl, k⟩
  refine DR.start (δ' := [some (.d (.int i))]) rfl ?_
  walk_at "dd"
  refine ⟨_, _, _, _, true, rfl, .ty _, .int _, kit_self, ?_⟩
  walk_at "dd"
  refine ⟨_, _, _, _, false, rfl, .ty _, .int _, by rfl, ?_⟩
  walk_at "dd"
  exact k
abbrev s_is_whole : Stmt := top 16
theorem sc_is_whole : FnScope ["thing", "low", "high"] ["thing", "low", "high"] (defScope s_is_whole) := ⟨rfl, rfl, rfl, by decide +kernel, rfl, by decide +kernel, by decide +kernel⟩
theorem ok_whole (D_is_integer : DefD P w K mg base "is_integer" 1 ["thing"] sdIsInt) {f : Addr} {fd : FuncData} (G : Fun K "is_whole" "is_whole" s_is_whole f fd) (T : TxtN mg) : FnOk P w K mg base (L2.CX P w) 3 f fd ["thing", "low", "high"] (spOf K sdWhole) := by
  refine okD G sc_is_whole [] (fun as Q E ⟨xs, y, z, e, _⟩ => by subst e; exact ⟨rfl, rfl⟩) ⟨_, fun cdv A outer s H E ad F0 H0 hr => (pds_one (psd_ret (pd_and (pd_call D_is_integer.ok (hr.mono (by decide)) (by rfl) D_is_integer.mg D_is_integer.kp D_is_integer.b (takes_of rfl rfl rfl rfl) (pda_cons (pd_var (pv 0)) pda_nil)) (pd_one (pd_chain op_le (op2_I0 fun _ _ _ => .bl _) op_le (op2_I0 fun _ _ _ => .bl _) (pd_var (pv 1)) (pd_var (pv 0)) (pd_var (pv 2)) (by with_unfolding_all rfl)))))), ?_⟩
  rintro as Qd Ed ⟨i, a, b, rfl, h1, h2, k⟩
  refine DR.start (δ' := [some (.d (.int i)), some (.d (.int a)), some (.d (.int b))]) rfl ?_
  walk_at "dd"
  refine ⟨i, rfl, ?_⟩
  walk_at "dd"
  rw [decide_eq_true h1]
  walk_at "dd"
  rw [decide_eq_true h2]
  exact k
abbrev s_is_row : Stmt := top 18
theorem sc_is_row : FnScope ["thing", "length"] ["thing", "length"] (defScope s_is_row) := ⟨rfl, rfl, rfl, by decide +kernel, rfl, by decide +kernel, by decide +kernel⟩
theorem ok_row (D_is_sequence : DefD P w K mg base "is_sequence" 1 ["thing"] sdSeq) {f : Addr} {fd : FuncData} (G : Fun K "is_row" "is_row" s_is_row f fd) (T : TxtN mg) : FnOk P w K mg base (L2.CX P w) 3 f fd ["thing", "length"] (spOf K sdIsRow) := by
  refine okD G sc_is_row [] (fun as Q E ⟨xs, y, e, _⟩ => by subst e; exact ⟨rfl, rfl⟩) ⟨_, fun cdv A outer s H E ad F0 H0 hr => (pds_one (psd_ret (pd_and (pd_call D_is_sequence.ok (hr.mono (by decide)) (by rfl) D_is_sequence.mg D_is_sequence.kp D_is_sequence.b (takes_of rfl rfl rfl rfl) (pda_cons (pd_var (pv 0)) pda_nil)) (pd_one (pd_cmp op_eq op2_eq.op (pd_builtB (fun h => pe_callB call_len_seq (by rfl) T.b_len (by decide +kernel) h) cn_len.op (pda_cons (pd_var (pv 0)) pda_nil)) (pd_var (pv 1)) (nomark _)))))), ?_⟩
  rintro as Qd Ed ⟨x, xs, rfl, hx, hl, k⟩
  refine DR.start (δ' := [some (.d x), some (.d (.int xs.length))]) rfl ?_
  walk_at "dd"
  refine ⟨x, xs, rfl, hx, ?_⟩
  walk_at "dd"
  rcases hx with rfl | rfl
  · walk_at "dd"
    rw [if_neg Bool.false_ne_true, show decide (V.int (xs.length : Int) = V.int (xs.length : Int)) = true from decide_eq_true rfl]
    exact k
  · walk_at "dd"
    rw [if_neg Bool.false_ne_true, show decide (V.int (xs.length : Int) = V.int (xs.length : Int)) = true from decide_eq_true rfl]
    exact k
end
end KT

set_option Elab.async false
set_option linter.all false
set_option maxRecDepth 100000
set_option maxHeartbeats 0
set_option pp.deepTerms false
set_option pp.deepTerms.threshold 8


namespace KT
open PySem PySem.Spec PyProof.Rows L2 DL
def sdRowFault : SpD := fun as Q _ => ∃ (ns : List Str) (r : Row) (cap : Int), as = [.d (.tup (ns.map .str)), .d (rowD r), .d (.int cap)] ∧ r.1 ∈ ns ∧ r.2.1 ∈ ns ∧ r.1 ≠ r.2.1 ∧ 0 ≤ r.2.2 ∧ r.2.2 ≤ cap ∧ Q (.d .non) []
section
variable {P : Program} {w : World} {K : PySem.W.Frag} {mg : Str → Option Value} {base : Heap}
abbrev s_row_fault : Stmt := top 36
theorem sc_row_fault : FnScope ["known", "row", "cap", "up", "down", "most"] ["known", "row", "cap"] (defScope s_row_fault) := ⟨rfl, rfl, rfl, by decide +kernel, rfl, by decide +kernel, by decide +kernel⟩
theorem ok_fault (D_is_row : DefD P w K mg base "is_row" 3 ["thing", "length"] sdIsRow) (D_is_whole : DefD P w K mg base "is_whole" 3 ["thing", "low", "high"] sdWhole) {f : Addr} {fd : FuncData} (G : Fun K "_row_fault" "_row_fault" s_row_fault f fd) (T : TxtN mg) : FnOk P w K mg base (L2.CX P w) 5 f fd ["known", "row", "cap"] (spOf K sdRowFault) := by
  refine okD G sc_row_fault [] (fun as Q E ⟨xs, y, z, e, _⟩ => by subst e; exact ⟨rfl, rfl⟩) ⟨_, fun cdv A outer s H E ad F0 H0 hr => (pds_cons (psd_if (ptd_not (ptd_val (pd_call D_is_row.ok (hr.mono (by decide)) (by rfl) D_is_row.mg D_is_row.kp D_is_row.b (takes_of rfl rfl rfl rfl) (pda_cons (pd_var (pv 1)) (pda_cons (pd_const pe_int (fun _ => .int _)) pda_nil))) (fun h => pt_val h))) (pds_one (psd_ret (pd_const pe_str (fun _ => .str (by decide +kernel))))) pds_nil)
      (pds_cons (psd_unpack (pd_var (pv 1)) (pgd_tup (is := [3, 4, 5]) (vs := [3, 4, 5]) (pg_tup rfl (pgs_cons (pg_name (i := 3) sc_row_fault.nd rfl (.inl rfl)) (pgs_cons (pg_name (i := 4) sc_row_fault.nd rfl (.inl rfl)) (pgs_cons (pg_name (i := 5) sc_row_fault.nd rfl (.inl rfl)) pgs_nil)))) rfl (by show ∀ i ∈ ([3, 4, 5] : List Nat), ¬ (i ∈ ([] : List Nat)) ∧ i ∈ ([3, 4, 5] : List Nat); decide)) (fun h g => ps_asg h g))
      (pds_cons (psd_if (ptd_cmp op_notIn_seq (op2_in true).op (pd_var (pv 3)) (pd_var (pv 0)) rfl) (pds_one (psd_ret (pd_const pe_str (fun _ => .str (by decide +kernel))))) pds_nil)
      (pds_cons (psd_if (ptd_cmp op_notIn_seq (op2_in true).op (pd_var (pv 4)) (pd_var (pv 0)) rfl) (pds_one (psd_ret (pd_const pe_str (fun _ => .str (by decide +kernel))))) pds_nil)
      (pds_cons (psd_if (ptd_cmp op_eq op2_eq.op (pd_var (pv 3)) (pd_var (pv 4)) (nomark _)) (pds_one (psd_ret (pd_const pe_str (fun _ => .str (by decide +kernel))))) pds_nil)
      (pds_cons (psd_if (ptd_not (ptd_val (pd_call D_is_whole.ok (hr.mono (by decide)) (by rfl) D_is_whole.mg D_is_whole.kp D_is_whole.b (takes_of rfl rfl rfl rfl) (pda_cons (pd_var (pv 5)) (pda_cons (pd_const pe_int (fun _ => .int _)) (pda_cons (pd_var (pv 2)) pda_nil)))) (fun h => pt_val h))) (pds_one (psd_ret (pd_const pe_str (fun _ => .str (by decide +kernel))))) pds_nil)
      (pds_one (psd_ret (pd_const pe_non (fun _ => .non)))))))))), ?_⟩
  rintro as Qd Ed ⟨ns, ⟨a, b, m⟩, cap, rfl, h1, h2, h3, h4, h5, k⟩
  refine DR.start (δ' := [some (.d (.tup (ns.map .str))), some (.d (rowD (a, b, m))), some (.d (.int cap)), none, none, none]) rfl ?_
  walk_at "dd"
  refine ⟨rowD (a, b, m), _, rfl, .inr rfl, by show 3 ≤ 1000; decide, ?_⟩
  walk_at "dd"
  refine DR.tupg (xs := [.str a, .str b, .int m]) ?_
  walk_at "dd"
  refine ⟨_, _, _, rfl, rfl, scL_str, ?_⟩
  walk_at "dd"
  rw [if_pos rfl, inV_str, decide_eq_true h1]
  walk_at "dd"
  refine ⟨_, _, _, rfl, rfl, scL_str, ?_⟩
  walk_at "dd"
  rw [if_pos rfl, inV_str, decide_eq_true h2]
  walk_at "dd"
  rw [decide_eq_false h3]
  walk_at "dd"
  refine ⟨m, 0, cap, rfl, h4, h5, ?_⟩
  walk_at "dd"
  exact k
end
end KT

set_option Elab.async false
set_option linter.all false
set_option maxRecDepth 100000
set_option maxHeartbeats 0
set_option pp.deepTerms false
set_option pp.deepTerms.threshold 8


namespace KT
open PySem PySem.Spec PyProof.Rows L2 DL
def sdRowsOk : SpD := fun as Q _ => ∃ (ns : List Str) (rs : List Row) (x : D) (cap : Int), as = [.d (.tup (ns.map .str)), .d x, .d (.int cap)] ∧ RowOf x (rs.map rowD) ∧ rs.length ≤ 200 ∧ (∀ r ∈ rs, (r.1 ∈ ns ∧ r.2.1 ∈ ns ∧ r.1 ≠ r.2.1 ∧ 0 ≤ r.2.2) ∧ r.2.2 ≤ cap) ∧ (rs.map ends).Nodup ∧ Q (.d (.tup (rs.map rowD))) []
abbrev endD (p : Str × Str) : D := .tup [.str p.1, .str p.2]
theorem pyL_any {a b : Str} : ∀ {l : List (Str × Str)}, (a, b) ∉ l → ((pyL (l.map endD)).any fun z => PyData.eqv z (D.py (.tup [.str a, .str b]))) = false
  | [], _ => rfl
  | (c, d) :: l, h => by
    have ih := pyL_any (l := l) fun z => h (List.mem_cons_of_mem _ z)
    have ne : ¬ (c = a ∧ d = b) := fun ⟨e1, e2⟩ => h (by rw [e1, e2]; exact List.mem_cons_self)
    rw [List.map_cons]
    simp only [pyL, List.any_cons]
    rw [ih, Bool.or_false]
    simp only [D.py, pyL, PyData.eqv, PyData.eqvAll, Bool.and_true]
    cases q : (c == a && d == b) with
    | false => rfl
    | true =>
      rw [Bool.and_eq_true, beq_iff_eq, beq_iff_eq] at q
      exact absurd q ne
theorem cmp_end {p : Str × Str} : Cmp (endD p) := ⟨rfl, by simp [D.py, pyL, PyData.depth, PyData.depthAll]⟩
theorem cmp_ends (l : List (Str × Str)) : Cmp (.lst (l.map endD)) := by
  have h1 : isPyL (l.map endD) = true := by
    induction l with
    | nil => rfl
    | cons p l ih =>
      rw [List.map_cons]
      simp only [isPyL, D.isPy]
      rw [ih]
      rfl
  have h2 : PyData.depthAll (pyL (l.map endD)) ≤ 10 := by
    induction l with
    | nil => simp [pyL, PyData.depthAll]
    | cons p l ih =>
      rw [List.map_cons]
      have := ih (by simp only [List.map_cons, isPyL, D.isPy] at h1; simpa using h1)
      simp [D.py, pyL, PyData.depth, PyData.depthAll] at this ⊢
      omega
  refine ⟨h1, ?_⟩
  simp [D.py, PyData.depth] at h2 ⊢
  omega
section
variable {P : Program} {w : World} {K : PySem.W.Frag} {mg : Str → Option Value} {base : Heap}
abbrev s_checked_rows : Stmt := top 37
theorem sc_checked_rows : FnScope ["known", "rows", "cap", "kept", "pairs", "index", "row", "word", "up", "down", "most"] ["known", "rows", "cap"] (defScope s_checked_rows) := ⟨rfl, rfl, rfl, by decide +kernel, rfl, by decide +kernel, by decide +kernel⟩
theorem ok_rowsOk (D_is_sequence : DefD P w K mg base "is_sequence" 1 ["thing"] sdSeq) (D_row_fault : DefD P w K mg base "_row_fault" 5 ["known", "row", "cap"] sdRowFault) {f : Addr} {fd : FuncData} (G : Fun K "_checked_rows" "_checked_rows" s_checked_rows f fd) (T : TxtN mg) : FnOk P w K mg base (L2.CX P w) 7 f fd ["known", "rows", "cap"] (spOf K sdRowsOk) := by
  refine okD G sc_checked_rows [] (fun as Q E ⟨xs, y, z, c, e, _⟩ => by subst e; exact ⟨rfl, rfl⟩) ⟨_, fun cdv A outer s H E ad F0 H0 hr => (pds_cons (psd_if (ptd_not (ptd_val (pd_call D_is_sequence.ok (hr.mono (by decide)) (by rfl) D_is_sequence.mg D_is_sequence.kp D_is_sequence.b (takes_of rfl rfl rfl rfl) (pda_cons (pd_var (pv 1)) pda_nil)) (fun h => pt_val h))) (pds_one psd_never) pds_nil)
      (pds_cons (psd_setO (i := 3) (pd_lst (fun h => pe_lst h) pda_nil) (by show ¬ (3 ∈ ([] : List Nat)); decide) sc_checked_rows.nd rfl (.inl rfl))
      (pds_cons (psd_setO (i := 4) (pd_lst (fun h => pe_lst h) pda_nil) (by show ¬ (4 ∈ ([] : List Nat)); decide) sc_checked_rows.nd rfl (.inl rfl))
      (pds_cons (psd_for (passes_of rfl) rfl (PI.or (pid_enum (by rfl) T.b_enumerate (pda_cons (pd_var (pv 1)) pda_nil)) (pid_enumT (by rfl) T.b_enumerate (pda_cons (pd_var (pv 1)) pda_nil))) (pgd_tup (is := [5, 6]) (vs := [5, 6]) (pg_tup rfl (pgs_cons (pg_name (i := 5) sc_checked_rows.nd rfl (.inl rfl)) (pgs_cons (pg_name (i := 6) sc_checked_rows.nd rfl (.inl rfl)) pgs_nil))) rfl (by show ∀ i ∈ ([5, 6] : List Nat), ¬ (i ∈ ([] : List Nat)) ∧ i ∈ ([5, 6] : List Nat); decide))
      (pds_cons (psd_set (i := 7) (pd_call D_row_fault.ok (hr.mono (by decide)) (by rfl) D_row_fault.mg D_row_fault.kp D_row_fault.b (takes_of rfl rfl rfl rfl) (pda_cons (pd_var (pv 0)) (pda_cons (pd_var (pv 6)) (pda_cons (pd_var (pv 2)) pda_nil)))) (by show ¬ (7 ∈ ([] : List Nat)); decide) sc_checked_rows.nd rfl (.inl rfl))
      (pds_cons (psd_if (ptd_cmp op_notN op2_notN.op (pd_var (pv 7)) (pd_const pe_non (fun _ => .non)) (nomark _)) (pds_one psd_never) pds_nil)
      (pds_cons (psd_unpack (pd_var (pv 6)) (pgd_tup (is := [8, 9, 10]) (vs := [8, 9, 10]) (pg_tup rfl (pgs_cons (pg_name (i := 8) sc_checked_rows.nd rfl (.inl rfl)) (pgs_cons (pg_name (i := 9) sc_checked_rows.nd rfl (.inl rfl)) (pgs_cons (pg_name (i := 10) sc_checked_rows.nd rfl (.inl rfl)) pgs_nil)))) rfl (by show ∀ i ∈ ([8, 9, 10] : List Nat), ¬ (i ∈ ([] : List Nat)) ∧ i ∈ ([8, 9, 10] : List Nat); decide)) (fun h g => ps_asg h g))
      (pds_cons (psd_if (ptd_inLO_t (j := 4) (units65 hr) (pd_tup (fun h => pe_tup h) (pda_cons (pd_var (pv 8)) (pda_cons (pd_var (pv 9)) pda_nil))) (pv 4)) (pds_one psd_never) pds_nil)
      (pds_cons (psd_expr (pd_methO (j := 4) (fun ho h => pe_bm PySem.F.plainAttrs_list PySem.F.slot_list_append PySem.F.type_list_append mt_append ho h) mo_append (pv 4) (pda_cons (pd_tup (fun h => pe_tup h) (pda_cons (pd_var (pv 8)) (pda_cons (pd_var (pv 9)) pda_nil))) pda_nil)))
      (pds_one (psd_expr (pd_methO (j := 3) (fun ho h => pe_bm PySem.F.plainAttrs_list PySem.F.slot_list_append PySem.F.type_list_append mt_append ho h) mo_append (pv 3) (pda_cons (pd_tup (fun h => pe_tup h) (pda_cons (pd_var (pv 8)) (pda_cons (pd_var (pv 9)) (pda_cons (pd_var (pv 10)) pda_nil)))) pda_nil))))))))))
      (pds_one (psd_ret (pd_builtB (fun h => pe_callTy call_tuple_of (by rfl) T.b_tuple (by decide +kernel) h) cn_tuple (pda_cons (pd_fvar (i := 3) (pv 3) (by show ¬ (3 ∈ ([] : List Nat)); decide)) pda_nil)))))))), ?_⟩
  rintro as Qd Ed ⟨ns, rs, x, cap, rfl, hx, hl, hr, nd, k⟩
  refine DR.start (δ' := [some (.d (.tup (ns.map .str))), some (.d x), some (.d (.int cap)), none, none, none, none, none, none, none, none]) rfl ?_
  walk_at "dd"
  refine ⟨_, _, rfl, hx, ?_⟩
  walk_at "dd"
  have hle : ∀ i, (rs.take i).length < sizeLine := fun i => Nat.lt_of_le_of_lt (show _ ≤ 200 by rw [List.length_take]; omega) (by decide)
  with_reducible refine DR.icut (fun xs δ => xs = enumL (rs.map rowD) ∧ δ = [some (.d (.tup (ns.map .str))), some (.d x), some (.d (.int cap)), some (.own (.lst [])), some (.own (.lst [])), none, none, none, none, none, none]) (fun N kN => ?_) ?_
  · rcases hx with rfl | rfl
    · refine DR.orl (DR.enumi ?_)
      walk_at "dd"
      exact ⟨_, _, rfl, .inl rfl, kN _ _ ⟨rfl, rfl⟩⟩
    · refine DR.orr (DR.enumti ?_)
      walk_at "dd"
      exact kN _ _ ⟨rfl, rfl⟩
  rintro xs δ ⟨rfl, rfl⟩
  refine DR.for_inv (fun i δ => ∃ p5 p6 p7 p8 p9 p10, δ = [some (.d (.tup (ns.map .str))), some (.d x), some (.d (.int cap)), some (.own (.lst ((rs.take i).map rowD))), some (.own (.lst (((rs.take i).map ends).map endD))), p5, p6, p7, p8, p9, p10]) ⟨_, _, _, _, _, _, rfl⟩ ?_ ?_
  · rintro i y δ N hy ⟨p5, p6, p7, p8, p9, p10, rfl⟩ kN
    obtain ⟨z, hz, rfl⟩ := DR.enum_at hy
    obtain ⟨⟨a, b, m⟩, hri, rfl⟩ := DR.map_at hz
    have hm := hr _ (List.mem_of_getElem? hri)
    walk_at "dd"
    refine ⟨ns, (a, b, m), cap, rfl, hm.1.1, hm.1.2.1, hm.1.2.2.1, hm.1.2.2.2, hm.2, ?_⟩
    walk_at "dd"
    refine ⟨true, rfl, ⟨fun _ => rfl, fun _ => rfl⟩, ?_⟩
    walk_at "dd"
    refine DR.tupg (xs := [.str a, .str b, .int m]) ?_
    walk_at "dd"
    have hout : (a, b) ∉ (rs.take i).map ends := by
      rw [List.map_take]
      exact nd_take nd (by rw [List.getElem?_map, hri]; rfl)
    refine ⟨cmp_end (p := (a, b)), cmp_ends _, ?_⟩
    refine ⟨false, congrArg (fun z => DV.d (D.bl (false != z))) (pyL_any hout), ?_⟩
    walk_at "dd"
    refine ⟨[_], _, rfl, rfl, _, rfl, by rw [List.length_map, List.length_map]; exact hle i, ?_⟩
    walk_at "dd"
    refine ⟨[_], _, rfl, rfl, _, rfl, by rw [List.length_map]; exact hle i, ?_⟩
    have q := kN _ ⟨some (.d (.int i)), some (.d (rowD (a, b, m))), some (.d .non), some (.d (.str a)), some (.d (.str b)), some (.d (.int m)), rfl⟩
    rw [List.take_succ, hri, List.map_append, List.map_append, List.map_append] at q
    exact q
  · rintro δ ⟨p5, p6, p7, p8, p9, p10, rfl⟩
    rw [DR.enum_len, List.length_map, List.take_length]
    walk_at "dd"
    refine ⟨_, _, rfl, .inl rfl, ?_⟩
    walk_at "dd"
    exact k
end
end KT

set_option Elab.async false
set_option linter.all false
set_option maxRecDepth 100000
set_option maxHeartbeats 0
set_option pp.deepTerms false
set_option pp.deepTerms.threshold 8


namespace KT
open PySem PySem.Spec PyProof.Rows L2 DL
open Dst (IsDist)
structure TxtT (K : PySem.W.Frag) (mg : Str → Option Value) (C : Addr) : Prop extends TxtN mg where
  cl_Table : Cls K C
  na_Table : ∀ n : Str, (["goods", "_assets", "rows", "_sums", "_entries"] : List Str).contains n = true → NoAttr K C n
def ent (ns : List Str) (f : Fn) : List D := (prs ns).map fun p => .tup [.str p.1, .str p.2, optD (f p.1 p.2)]
def tabFs (gs : List Str) (rs : List Row) (kvs : List (List Key × D)) (f : Fn) : List (Str × D) := [("goods", .tup (gs.map .str)), ("_assets", .tup ((cash :: gs).map .str)), ("rows", .tup (rs.map rowD)), ("_sums", .dT kvs), ("_entries", .tup (ent (cash :: gs) f))]
def sdInit (C : Addr) : SpD := fun as Q _ => ∃ (gs : List Str) (rs : List Row) (x y : D) (cap : Int), as = [.own (.ins C []), .d x, .d y, .d (.int cap)] ∧ RowOf x (gs.map .str) ∧ RowOf y (rs.map rowD) ∧ Goods gs ∧ rs.length ≤ 200 ∧ FineRows (cash :: gs) rs ∧ (∀ r ∈ rs, r.2.2 ≤ cap) ∧
  ∀ kvs f, Dct (cash :: gs) kvs f → IsDist (cash :: gs) rs f → Q (.d .non) [.ins C (tabFs gs rs kvs f)]
section
variable {P : Program} {w : World} {K : PySem.W.Frag} {mg : Str → Option Value} {base : Heap} {C : Addr}
abbrev s_Table___init : Stmt := inClass (top 40) 0
theorem sc_Table___init : FnScope ["self", "goods", "rows", "cap", "pairs", "up", "down"] ["self", "goods", "rows", "cap"] (defScope s_Table___init) := ⟨rfl, rfl, rfl, by decide +kernel, rfl, by decide +kernel, by decide +kernel⟩
theorem ok_init (D_checked_goods : DefD P w K mg base "checked_goods" 3 ["goods"] sdChecked) (D_assets : DefD P w K mg base "assets" 5 ["goods"] sdAssets) (D_checked_rows : DefD P w K mg base "_checked_rows" 7 ["known", "rows", "cap"] sdRowsOk) (D_closed_sums : DefD P w K mg base "closed_sums" 1 ["assets", "rows"] sdSums) (D_pairs_of : DefD P w K mg base "pairs_of" 1 ["known"] sdPairsOf)
    {f : Addr} {fd : FuncData} (G : Fun K "__init__" "Table.__init__" s_Table___init f fd) (T : TxtT K mg C) : FnOk P w K mg base (L2.CX P w) 9 f fd ["self", "goods", "rows", "cap"] (spOf K (sdInit C)) := by
  refine okD G sc_Table___init [0] (fun as Q E ⟨xs, y, z, c, c2, e, _⟩ => by subst e; exact ⟨rfl, rfl⟩) ⟨_, fun cdv A outer s H E ad F0 H0 hr => (pds_cons (psd_fld (i := 0) (pv 0) (pd_call D_checked_goods.ok (hr.mono (by decide)) (by rfl) D_checked_goods.mg D_checked_goods.kp D_checked_goods.b (takes_of rfl rfl rfl rfl) (pda_cons (pd_var (pv 1)) pda_nil)) T.cl_Table (T.na_Table _ (by decide)) rfl)
      (pds_cons (psd_fld (i := 0) (pv 0) (pd_call D_assets.ok (hr.mono (by decide)) (by rfl) D_assets.mg D_assets.kp D_assets.b (takes_of rfl rfl rfl rfl) (pda_cons (pd_fldO (i := 0) (pv 0) T.cl_Table (T.na_Table _ (by decide)) rfl) pda_nil)) T.cl_Table (T.na_Table _ (by decide)) rfl)
      (pds_cons (psd_fld (i := 0) (pv 0) (pd_call D_checked_rows.ok (hr.mono (by decide)) (by rfl) D_checked_rows.mg D_checked_rows.kp D_checked_rows.b (takes_of rfl rfl rfl rfl) (pda_cons (pd_fldO (i := 0) (pv 0) T.cl_Table (T.na_Table _ (by decide)) rfl) (pda_cons (pd_var (pv 2)) (pda_cons (pd_var (pv 3)) pda_nil)))) T.cl_Table (T.na_Table _ (by decide)) rfl)
      (pds_cons (psd_fld (i := 0) (pv 0) (pd_call D_closed_sums.ok (hr.mono (by decide)) (by rfl) D_closed_sums.mg D_closed_sums.kp D_closed_sums.b (takes_of rfl rfl rfl rfl) (pda_cons (pd_fldO (i := 0) (pv 0) T.cl_Table (T.na_Table _ (by decide)) rfl) (pda_cons (pd_fldO (i := 0) (pv 0) T.cl_Table (T.na_Table _ (by decide)) rfl) pda_nil))) T.cl_Table (T.na_Table _ (by decide)) rfl)
      (pds_cons (psd_set (i := 4) (pd_call D_pairs_of.ok (hr.mono (by decide)) (by rfl) D_pairs_of.mg D_pairs_of.kp D_pairs_of.b (takes_of rfl rfl rfl rfl) (pda_cons (pd_fldO (i := 0) (pv 0) T.cl_Table (T.na_Table _ (by decide)) rfl) pda_nil)) (by show ¬ (4 ∈ ([0] : List Nat)); decide) sc_Table___init.nd rfl (.inl rfl))
      (pds_cons (psd_for (passes_of rfl) rfl (pid_tup (pd_var (pv 4))) (pgd_tup (is := [5, 6]) (vs := [5, 6]) (pg_tup rfl (pgs_cons (pg_name (i := 5) sc_Table___init.nd rfl (.inl rfl)) (pgs_cons (pg_name (i := 6) sc_Table___init.nd rfl (.inl rfl)) pgs_nil))) rfl (by show ∀ i ∈ ([5, 6] : List Nat), ¬ (i ∈ ([0] : List Nat)) ∧ i ∈ ([5, 6] : List Nat); decide))
      (pds_one (psd_if (ptd_inF_f (fun hi ho => pt_cmp (pc_dnotin (hu_of hr) hi ho)) (pd_tup (fun h => pe_tup h) (pda_cons (pd_var (pv 5)) (pda_cons (pd_var (pv 6)) pda_nil))) (pd_fldO (i := 0) (pv 0) T.cl_Table (T.na_Table _ (by decide)) rfl)) (pds_one psd_never) pds_nil)))
      (pds_one (psd_fld (i := 0) (pv 0) (pd_builtB (fun h => pe_callTy call_tuple_of (by rfl) T.b_tuple (by decide +kernel) h) cn_tuple (pda_cons (pd_lc (own := [("up", 5), ("down", 6)]) (by rfl) sc_Table___init.nd (pid_tup (pd_var (pv 4))) (blkOk_by (own := [("up", 5), ("down", 6)]) (N := ["self", "goods", "rows", "cap", "pairs", "up", "down"]) (sc := defScope s_Table___init) (by decide +kernel)) (fun _ _ _ _ _ => (pgd_tup (is := [5, 6]) (vs := [5, 6]) (pg_tup rfl (pgs_cons (pg_name (i := 5) sc_Table___init.nd rfl (.inl rfl)) (pgs_cons (pg_name (i := 6) sc_Table___init.nd rfl (.inl rfl)) pgs_nil))) rfl (by show ∀ i ∈ ([5, 6] : List Nat), ¬ (i ∈ ([0] : List Nat)) ∧ i ∈ ([5, 6] : List Nat); decide))) (fun _ _ _ _ _ => ptsd_nil) (fun _ _ _ _ _ => (pd_tup (fun h => pe_tup h) (pda_cons (pd_var (pv 5)) (pda_cons (pd_var (pv 6)) (pda_cons (pd_get (fun ho hi => pe_dget (hu_of hr) ho hi (fun _ _ => rfl)) (pd_fldO (i := 0) (pv 0) T.cl_Table (T.na_Table _ (by decide)) rfl) (pd_tup (fun h => pe_tup h) (pda_cons (pd_var (pv 5)) (pda_cons (pd_var (pv 6)) pda_nil)))) pda_nil))))) (by show ∀ i ∈ ([5, 6] : List Nat), ¬ (i ∈ ([0] : List Nat)); decide)) pda_nil)) T.cl_Table (T.na_Table _ (by decide)) rfl)))))))), ?_⟩
  rintro as Qd Ed ⟨gs, rs, x, y, cap, rfl, hx, hy, hg, hl, hr, hc, k⟩
  refine DR.start (δ' := [some (.own (.ins C [])), some (.d x), some (.d y), some (.d (.int cap)), none, none, none]) rfl ?_
  walk_at "dd"
  have hrow : ∀ r ∈ rs, (r.1 ∈ cash :: gs ∧ r.2.1 ∈ cash :: gs ∧ r.1 ≠ r.2.1 ∧ 0 ≤ r.2.2) ∧ r.2.2 ≤ cap := fun r h => ⟨hr.row r h, hc r h⟩
  have hlen : (cash :: gs).length ≤ 10 := by rw [List.length_cons]; have := hg.2.2.1; omega
  refine ⟨gs, x, rfl, hx, hg, ?_⟩
  walk_at "dd"
  refine ⟨(by show 0 < 1000; decide), ?_⟩
  walk_at "dd"
  refine ⟨gs, _, rfl, .inr rfl, hg, ?_⟩
  walk_at "dd"
  refine ⟨(by show 1 < 1000; decide), ?_⟩
  walk_at "dd"
  refine ⟨cash :: gs, rs, _, cap, rfl, hy, hl, hrow, hr.nd, ?_⟩
  walk_at "dd"
  refine ⟨(by show 2 < 1000; decide), ?_⟩
  walk_at "dd"
  refine ⟨cash :: gs, rs, _, rfl, .inr (.inr rfl), hlen, fun r h => ⟨(hr.row r h).1, (hr.row r h).2.1⟩, fun r h => (hr.row r h).2.2.2, fun kvs f hd hf => ?_⟩
  walk_at "dd"
  refine ⟨(by show 3 < 1000; decide), ?_⟩
  walk_at "dd"
  refine ⟨cash :: gs, rfl, hlen, ?_⟩
  walk_at "dd"
  have val : ∀ a b, (a, b) ∈ prs (cash :: gs) → valD kvs (k2 a b) = some (optD (f a b)) := fun a b h => by
    obtain ⟨ha, hb, _⟩ := prs_mem.mp h
    obtain ⟨n, s, w⟩ := hr.all a b ha hb
    obtain ⟨t, e, _⟩ := hf.least a b n s ha hb w
    rw [hd.val, e]
    rfl
  have hpl : (prs (cash :: gs)).length ≤ 100 := prs_len hlen
  refine DR.for_inv (fun i δ => ∃ p5 p6, δ = [some (.own (.ins C [("goods", .tup (gs.map .str)), ("_assets", .tup ((cash :: gs).map .str)), ("rows", .tup (rs.map rowD)), ("_sums", .dT kvs)])), some (.d x), some (.d y), some (.d (.int cap)), some (.d (.tup ((prs (cash :: gs)).map prD))), p5, p6]) ⟨none, none, by with_unfolding_all rfl⟩ ?_ ?_
  · rintro i z δ N hz ⟨p5, p6, rfl⟩ kN
    obtain ⟨⟨a, b⟩, hab, rfl⟩ := DR.map_at hz
    walk_at "dd"
    refine ⟨_, k2 a b, rfl, rfl, ?_⟩
    rw [val a b (List.mem_of_getElem? hab)]
    walk_at "dd"
    exact kN _ ⟨_, _, rfl⟩
  · rintro δ ⟨p5, p6, rfl⟩
    walk_at "dd"
    refine DR.lc_mapM (fun p => D.tup [.str p.1, .str p.2, optD (f p.1 p.2)]) (fun p acc N hp hl kN => ?_) ?_
    · obtain ⟨a, b⟩ := p
      walk_at "dd"
      refine ⟨_, k2 a b, _, rfl, rfl, val a b hp, ?_⟩
      walk_at "dd"
      exact ⟨Nat.lt_of_lt_of_le hl (Nat.le_trans hpl (by decide)), kN⟩
    · walk_at "dd"
      refine ⟨_, _, rfl, .inl rfl, ?_⟩
      walk_at "dd"
      refine ⟨(by show 4 < 1000; decide), ?_⟩
      walk_at "dd"
      exact k kvs f hd hf
end
end KT

set_option Elab.async false
set_option linter.all false
set_option maxRecDepth 100000
set_option maxHeartbeats 0
set_option pp.deepTerms false
set_option pp.deepTerms.threshold 8


namespace KT
open PySem PySem.Spec PyProof.Rows L2 DL
open Dst (IsDist)
theorem kit_own {K : PySem.W.Frag} {a : Addr} : PySem.W.kitOne K (.ref a) (.ref a) = some true := by
  unfold PySem.W.kitOne
  simp
structure TxtO (K : PySem.W.Frag) (mg : Str → Option Value) (C OG ME : Addr) : Prop extends TxtT K mg C where
  c_Table : mg "Table" = some (.ref C)
  si_Table : SlX.SIsi K C
  c_OtherGoods : mg "OtherGoods" = some (.ref OG)
  oe_OtherGoods : Oex0 K OG
/-- a right table: its goods, rows, entries -/
def Tb (C : Addr) (gs : List Str) (rs : List Row) (e : En) (d : D) : Prop := ∃ kvs f, d = .obj C (tabFs gs rs kvs f) ∧ Goods gs ∧ FineRows (cash :: gs) rs ∧ rs.length ≤ 200 ∧ Dct (cash :: gs) kvs f ∧ IsDist (cash :: gs) rs f ∧ Ent (cash :: gs) rs e ∧ ∀ a b, a ∈ cash :: gs → b ∈ cash :: gs → f a b = some (e a b)
section
variable {P : Program} {w : World} {K : PySem.W.Frag} {mg : Str → Option Value} {base : Heap} {C OG ME : Addr}
/-! ### assets -/
def sdCheckA : SpD := fun as Q _ => ∃ (ns : List Str) (a : Str), as = [.d (.tup (ns.map .str)), .d (.str a)] ∧ a ∈ ns ∧ Q (.d .non) []
abbrev s_check_asset : Stmt := top 24
theorem sc_check_asset : FnScope ["known", "thing"] ["known", "thing"] (defScope s_check_asset) := ⟨rfl, rfl, rfl, by decide +kernel, rfl, by decide +kernel, by decide +kernel⟩
theorem ok_checkA {f : Addr} {fd : FuncData} (G : Fun K "check_asset" "check_asset" s_check_asset f fd) (T : TxtN mg) : FnOk P w K mg base (L2.CX P w) 1 f fd ["known", "thing"] (spOf K sdCheckA) := by
  refine okD G sc_check_asset [] (fun as Q E ⟨ns, a, e, _⟩ => by subst e; exact ⟨rfl, rfl⟩) ⟨_, fun cdv A outer s H E ad F0 H0 hr => (pds_one (psd_if (ptd_cmp op_notIn_seq (op2_in true).op (pd_var (pv 1)) (pd_var (pv 0)) rfl) (pds_one psd_never) pds_nil)), ?_⟩
  rintro as Qd Ed ⟨ns, a, rfl, ha, k⟩
  refine DR.start (δ' := [some (.d (.tup (ns.map .str))), some (.d (.str a))]) rfl ?_
  walk_at "dd"
  refine ⟨_, _, _, rfl, rfl, scL_str, ?_⟩
  walk_at "dd"
  rw [if_pos rfl, inV_str, decide_eq_true ha]
  walk_at "dd"
  exact k
def sdCheckP (C : Addr) : SpD := fun as Q _ => ∃ (gs : List Str) (rs : List Row) (e : En) (d : D) (a b : Str), as = [.d d, .d (.str a), .d (.str b)] ∧ Tb C gs rs e d ∧ a ∈ cash :: gs ∧ b ∈ cash :: gs ∧ Q (.d .non) []
abbrev s_Table__check_pair : Stmt := inClass (top 40) 7
theorem sc_Table__check_pair : FnScope ["self", "up", "down"] ["self", "up", "down"] (defScope s_Table__check_pair) := ⟨rfl, rfl, rfl, by decide +kernel, rfl, by decide +kernel, by decide +kernel⟩
theorem ok_checkP (D_check_asset : DefD P w K mg base "check_asset" 1 ["known", "thing"] sdCheckA) {f : Addr} {fd : FuncData} (G : Fun K "_check_pair" "Table._check_pair" s_Table__check_pair f fd) (T : TxtT K mg C) : FnOk P w K mg base (L2.CX P w) 3 f fd ["self", "up", "down"] (spOf K (sdCheckP C)) := by
  refine okD G sc_Table__check_pair [] (fun as Q E ⟨gs, rs, e, d, a, b, q, _⟩ => by subst q; exact ⟨rfl, rfl⟩) ⟨_, fun cdv A outer s H E ad F0 H0 hr => (pds_cons (psd_expr (pd_call D_check_asset.ok (hr.mono (by decide)) (by rfl) D_check_asset.mg D_check_asset.kp D_check_asset.b (takes_of rfl rfl rfl rfl) (pda_cons (pd_fld (pd_var (pv 0)) T.cl_Table (T.na_Table _ (by decide)) rfl) (pda_cons (pd_var (pv 1)) pda_nil))))
      (pds_one (psd_expr (pd_call D_check_asset.ok (hr.mono (by decide)) (by rfl) D_check_asset.mg D_check_asset.kp D_check_asset.b (takes_of rfl rfl rfl rfl) (pda_cons (pd_fld (pd_var (pv 0)) T.cl_Table (T.na_Table _ (by decide)) rfl) (pda_cons (pd_var (pv 2)) pda_nil)))))), ?_⟩
  rintro as Qd Ed ⟨gs, rs, e, d, a, b, rfl, ⟨kvs, f, rfl, h1, h2, h3, h4, h5, h6, h7⟩, ha, hb, k⟩
  refine DR.start (δ' := [some (.d (.obj C (tabFs gs rs kvs f))), some (.d (.str a)), some (.d (.str b))]) rfl ?_
  walk_at "dd"
  refine ⟨_, a, rfl, ha, ?_⟩
  walk_at "dd"
  refine ⟨_, b, rfl, hb, ?_⟩
  walk_at "dd"
  exact k
def sdGet (C : Addr) : SpD := fun as Q _ => ∃ (gs : List Str) (rs : List Row) (e : En) (d : D) (a b : Str), as = [.d d, .d (.tup [.str a, .str b])] ∧ Tb C gs rs e d ∧ a ∈ cash :: gs ∧ b ∈ cash :: gs ∧ Q (.d (.int (e a b))) []
abbrev s_Table___getitem : Stmt := inClass (top 40) 8
theorem sc_Table___getitem : FnScope ["self", "at", "up", "down"] ["self", "at"] (defScope s_Table___getitem) := ⟨rfl, rfl, rfl, by decide +kernel, rfl, by decide +kernel, by decide +kernel⟩
theorem ok_get (D_Table__check_pair : DefM P w K mg base C "_check_pair" 3 ["self", "up", "down"] (sdCheckP C)) {f : Addr} {fd : FuncData} (G : Fun K "__getitem__" "Table.__getitem__" s_Table___getitem f fd) (T : TxtT K mg C) : FnOk P w K mg base (L2.CX P w) 5 f fd ["self", "at"] (spOf K (sdGet C)) := by
  refine okD G sc_Table___getitem [] (fun as Q E ⟨gs, rs, e, d, a, b, q, _⟩ => by subst q; exact ⟨rfl, rfl⟩) ⟨_, fun cdv A outer s H E ad F0 H0 hr => (pds_cons (psd_unpack (pd_var (pv 1)) (pgd_tup (is := [2, 3]) (vs := [2, 3]) (pg_tup rfl (pgs_cons (pg_name (i := 2) sc_Table___getitem.nd rfl (.inl rfl)) (pgs_cons (pg_name (i := 3) sc_Table___getitem.nd rfl (.inl rfl)) pgs_nil))) rfl (by show ∀ i ∈ ([2, 3] : List Nat), ¬ (i ∈ ([] : List Nat)) ∧ i ∈ ([2, 3] : List Nat); decide)) (fun h g => ps_asg h g))
      (pds_cons (psd_expr (pd_meth (pd_var (pv 0)) T.cl_Table D_Table__check_pair.me D_Table__check_pair.ok (hr.mono (by decide)) D_Table__check_pair.b (takes_of rfl rfl rfl rfl) (pda_cons (pd_var (pv 2)) (pda_cons (pd_var (pv 3)) pda_nil))))
      (pds_one (psd_ret (pd_get (fun ho hi => pe_dget (hu_of hr) ho hi (fun _ _ => rfl)) (pd_fld (pd_var (pv 0)) T.cl_Table (T.na_Table _ (by decide)) rfl) (pd_tup (fun h => pe_tup h) (pda_cons (pd_var (pv 2)) (pda_cons (pd_var (pv 3)) pda_nil)))))))), ?_⟩
  rintro as Qd Ed ⟨gs, rs, e, d, a, b, rfl, ht, ha, hb, k⟩
  obtain ⟨kvs, f, rfl, h1, h2, h3, h4, h5, h6, h7⟩ := id ht
  refine DR.start (δ' := [some (.d (.obj C (tabFs gs rs kvs f))), some (.d (.tup [.str a, .str b])), none, none]) rfl ?_
  walk_at "dd"
  refine DR.tupg (xs := [.str a, .str b]) ?_
  walk_at "dd"
  refine ⟨gs, rs, e, _, a, b, rfl, ht, ha, hb, ?_⟩
  walk_at "dd"
  refine ⟨_, k2 a b, .int (e a b), rfl, rfl, by rw [h4.val, h7 a b ha hb]; rfl, ?_⟩
  walk_at "dd"
  exact k
theorem ent_rows {ns : List Str} {f : Fn} {e : En} (h : ∀ a b, a ∈ ns → b ∈ ns → f a b = some (e a b)) : ent ns f = (entRows ns e).map rowD := by
  unfold ent entRows
  rw [List.map_map]
  refine List.map_congr_left fun p hp => ?_
  obtain ⟨h1, h2, _⟩ := prs_mem.mp hp
  rw [h _ _ h1 h2]
  rfl
def sdEntries (C : Addr) : SpD := fun as Q _ => ∃ (gs : List Str) (rs : List Row) (e : En) (d : D), as = [.d d] ∧ Tb C gs rs e d ∧ Q (.d (.tup ((entRows (cash :: gs) e).map rowD))) []
abbrev s_Table_entries : Stmt := inClass (top 40) 2
theorem sc_Table_entries : FnScope ["self"] ["self"] (defScope s_Table_entries) := ⟨rfl, rfl, rfl, by decide +kernel, rfl, by decide +kernel, by decide +kernel⟩
theorem ok_entries {f : Addr} {fd : FuncData} (G : Fun K "entries" "Table.entries" s_Table_entries f fd) (T : TxtT K mg C) : FnOk P w K mg base (L2.CX P w) 1 f fd ["self"] (spOf K (sdEntries C)) := by
  refine okD G sc_Table_entries [] (fun as Q E ⟨gs, rs, e, d, q, _⟩ => by subst q; exact ⟨rfl, rfl⟩) ⟨_, fun cdv A outer s H E ad F0 H0 hr => (pds_one (psd_ret (pd_fld (pd_var (pv 0)) T.cl_Table (T.na_Table _ (by decide)) rfl))), ?_⟩
  rintro as Qd Ed ⟨gs, rs, e, d, rfl, ⟨kvs, f, rfl, h1, h2, h3, h4, h5, h6, h7⟩, k⟩
  refine DR.start (δ' := [some (.d (.obj C (tabFs gs rs kvs f)))]) rfl ?_
  walk_at "dd"
  rw [← ent_rows h7] at k
  exact k
theorem dp_row (r : Row) : Dp_ 2 (rowD r) := dp_tup fun d hd => by
  simp only [List.mem_cons, List.not_mem_nil, or_false] at hd
  rcases hd with rfl | rfl | rfl
  · exact dp_str
  · exact dp_str
  · exact dp_int
theorem dp_rows (l : List Row) : Dp_ 3 (.tup (l.map rowD)) := dp_tup (dp_map fun r _ => dp_row r)
theorem dp_strs (l : List Str) : Dp_ 2 (.tup (l.map .str)) := dp_tup (dp_map fun r _ => dp_str)
theorem eqv_rows {l k : List Row} : PyData.eqv (D.tup (l.map rowD)).py (D.tup (k.map rowD)).py = decide (l = k) := eqv_tups fun p q => eqv_trip eqv_strs eqv_strs eqv_ints p q
theorem eqv_names {l k : List Str} : PyData.eqv (D.tup (l.map .str)).py (D.tup (k.map .str)).py = decide (l = k) := eqv_tups eqv_strs
/-- the two tables are equal -/
def Same2 (gs gs2 : List Str) (e e2 : En) : Prop := gs = gs2 ∧ entRows (cash :: gs) e = entRows (cash :: gs2) e2
def sdEq (C : Addr) : SpD := fun as Q _ => ∃ (gs gs2 : List Str) (rs rs2 : List Row) (e e2 : En) (d d2 : D), as = [.d d, .d d2] ∧ Tb C gs rs e d ∧ Tb C gs2 rs2 e2 d2 ∧ ∀ b : Bool, (b = true ↔ Same2 gs gs2 e e2) → Q (.d (.bl b)) []
abbrev s_Table___eq : Stmt := inClass (top 40) 12
theorem sc_Table___eq : FnScope ["self", "other"] ["self", "other"] (defScope s_Table___eq) := ⟨rfl, rfl, rfl, by decide +kernel, rfl, by decide +kernel, by decide +kernel⟩
theorem ok_eq {f : Addr} {fd : FuncData} (G : Fun K "__eq__" "Table.__eq__" s_Table___eq f fd) (T : TxtO K mg C OG ME) : FnOk P w K mg base (L2.CX P w) 1 f fd ["self", "other"] (spOf K (sdEq C)) := by
  refine okD G sc_Table___eq [] (fun as Q E ⟨gs, g2, rs, r2, e, e2, d, d2, q, _⟩ => by subst q; exact ⟨rfl, rfl⟩) ⟨_, fun cdv A outer s H E ad F0 H0 hr => (pds_one (psd_ret (pd_and (pd_builtB (fun h => pe_callB call_isi (by rfl) T.b_isinstance (by decide +kernel) h) (cn_isi (K := K)).op (pda_cons (pd_var (pv 1)) (pda_cons (pd_const (pe_glob (v := .ref C) rfl T.c_Table rfl) (fun _ => .adr _)) pda_nil))) (pd_and (pd_cmp (op_eqD hr.units) op2_eqD.op (pd_fld (pd_var (pv 0)) T.cl_Table (T.na_Table _ (by decide)) rfl) (pd_fld (pd_var (pv 1)) T.cl_Table (T.na_Table _ (by decide)) rfl) (nomark _)) (pd_one (pd_cmp (op_eqD hr.units) op2_eqD.op (pd_fld (pd_var (pv 0)) T.cl_Table (T.na_Table _ (by decide)) rfl) (pd_fld (pd_var (pv 1)) T.cl_Table (T.na_Table _ (by decide)) rfl) (nomark _))))))), ?_⟩
  rintro as Qd Ed ⟨gs, gs2, rs, rs2, e, e2, d, d2, rfl, ⟨kvs, f, rfl, h1, h2, h3, h4, h5, h6, h7⟩, ⟨kvs2, f2, rfl, g1, g2, g3, g4, g5, g6, g7⟩, k⟩
  refine DR.start (δ' := [some (.d (.obj C (tabFs gs rs kvs f))), some (.d (.obj C (tabFs gs2 rs2 kvs2 f2)))]) rfl ?_
  walk_at "dd"
  refine ⟨_, _, _, _, true, rfl, .own C, .obj T.cl_Table T.si_Table, kit_own, ?_⟩
  walk_at "dd"
  refine eqd_t (dp_strs gs).cmp (dp_strs gs2).cmp eqv_names ?_
  walk_at "dd"
  refine DR.split (fun c => ?_) (fun c => ?_)
  · walk_at "dd"
    rw [ent_rows h7, ent_rows g7]
    refine eqd_t (dp_rows _).cmp (dp_rows _).cmp eqv_rows ?_
    walk_at "dd"
    exact k _ ⟨fun z => ⟨c, of_decide_eq_true z⟩, fun z => decide_eq_true z.2⟩
  · walk_at "dd"
    exact k _ ⟨(fun z => nomatch z), fun z => absurd z.1 c⟩
end
end KT

set_option Elab.async false
set_option linter.all false
set_option maxRecDepth 100000
set_option maxHeartbeats 0
set_option pp.deepTerms false
set_option pp.deepTerms.threshold 8


namespace KT
open PySem PySem.Spec PyProof.Rows L2 DL
open Dst (IsDist)
section
variable {P : Program} {w : World} {K : PySem.W.Frag} {mg : Str → Option Value} {base : Heap} {C OG ME : Addr}
/-! ### the same goods -/
def sdSameG (C OG : Addr) : SpD := fun as Q E => ∃ (gs gs2 : List Str) (rs : List Row) (e : En) (d : D), as = [.d (.tup (gs.map .str)), .d (.tup [d])] ∧ Tb C gs2 rs e d ∧ ((gs = gs2 ∧ Q (.d .non) []) ∨ (gs ≠ gs2 ∧ E ⟨OG, none⟩ []))
abbrev s_check_same_goods : Stmt := top 25
theorem sc_check_same_goods : FnScope ["goods", "others", "other"] ["goods", "others"] (defScope s_check_same_goods) := ⟨rfl, rfl, rfl, by decide +kernel, rfl, by decide +kernel, by decide +kernel⟩
theorem ok_sameG {f : Addr} {fd : FuncData} (G : Fun K "check_same_goods" "check_same_goods" s_check_same_goods f fd) (T : TxtO K mg C OG ME) : FnR P w K mg base (L2.CX P w) 1 f (spOf K (starD 1 (sdSameG C OG))) := by
  refine okStar (ps := ["goods"]) (pv := "others") G sc_check_same_goods (fun as Q E ⟨gs, g2, rs, e, d, q, _⟩ => by subst q; rfl) (fun kV doc pm an cdv ct us rest hl => ?_) ⟨_, fun cdv A outer s H E ad F0 H0 hr => (pds_one (psd_for (passes_of rfl) rfl (pid_tup (pd_var (pv 1))) (pgd_name (i := 2) (vs := [2]) (pg_name (i := 2) sc_check_same_goods.nd rfl (.inl rfl)) (by show ¬ (2 ∈ ([] : List Nat)); decide) (by decide))
      (pds_one (psd_if (ptd_cmp (op_neD hr.units) op2_neD.op (pd_fld (pd_var (pv 2)) T.cl_Table (T.na_Table _ (by decide)) rfl) (pd_var (pv 0)) (nomark _)) (pds_one (psd_raise0 rfl (takes_of rfl rfl rfl rfl) (pmk_own0 T.oe_OtherGoods T.c_OtherGoods (by rfl)))) pds_nil)))), ?_⟩
  · obtain ⟨u, rfl⟩ : ∃ u, us = [u] := by
      match us, hl with
      | [u], _ => exact ⟨u, rfl⟩
    cases rest with
    | nil => rfl
    | cons v rest => rfl
  rintro as Qd Ed ⟨gs, gs2, rs, e, d, rfl, ⟨kvs, f, rfl, h1, h2, h3, h4, h5, h6, h7⟩, k⟩
  refine DR.start (δ' := [some (.d (.tup (gs.map .str))), some (.d (.tup [.obj C (tabFs gs2 rs kvs f)])), none]) rfl ?_
  walk_at "dd"
  unfold forD
  walk_at "dd"
  simp only [List.getElem?_cons_succ, List.getElem?_cons_zero, DV.toD, List.set]
  walk_at "dd"
  refine eqd_f (dp_strs gs2).cmp (dp_strs gs).cmp eqv_names ?_
  walk_at "dd"
  by_cases c : gs2 = gs
  · subst c
    simp only [decide_true, Bool.not_true]
    walk_at "dd"
    rcases k with k | k
    · unfold forD
      exact ⟨_, rfl, k.2⟩
    · exact absurd rfl k.1
  · simp only [decide_eq_false c, Bool.not_false]
    rw [if_pos trivial]
    walk_at "dd"
    rcases k with k | k
    · exact absurd k.1.symm c
    · exact ⟨_, rfl, k.2⟩
end
end KT

set_option Elab.async false
set_option linter.all false
set_option maxRecDepth 100000
set_option maxHeartbeats 0
set_option pp.deepTerms false
set_option pp.deepTerms.threshold 8


namespace KT
open PySem PySem.Spec PyProof.Rows L2 DL
open Dst (IsDist)
theorem rows_ne {gs : List Str} {rs : List Row} (h : FineRows (cash :: gs) rs) (g : Goods gs) : rs ≠ [] := by
  rintro rfl
  obtain ⟨h1, h2, h3, h4⟩ := id g
  obtain ⟨a, ha⟩ : ∃ a, a ∈ gs := by
    match gs, h2 with
    | a :: t, _ => exact ⟨a, List.mem_cons_self⟩
  obtain ⟨n, s, w⟩ := h.all cash a List.mem_cons_self (List.mem_cons_of_mem _ ha)
  cases w with
  | nil => exact (h4 _ ha).1 rfl
  | cons h' => cases h'
section
variable {P : Program} {w : World} {K : PySem.W.Frag} {mg : Str → Option Value} {base : Heap} {C OG ME : Addr}
/-! ### made tables -/
def sdMade (C : Addr) : SpD := fun as Q _ => ∃ (gs : List Str) (rs : List Row) (y : D), as = [.d (.tup (gs.map .str)), .d y] ∧ RowOf y (rs.map rowD) ∧ Goods gs ∧ rs.length ≤ 200 ∧ FineRows (cash :: gs) rs ∧ ∀ d e, Tb C gs rs e d → Q (.d d) []
abbrev s_made_table : Stmt := top 38
theorem sc_made_table : FnScope ["goods", "rows", "_", "most"] ["goods", "rows"] (defScope s_made_table) := ⟨rfl, rfl, rfl, by decide +kernel, rfl, by decide +kernel, by decide +kernel⟩
theorem ok_made (K_Table : DefK P w K mg base C 9 3 ["self", "goods", "rows", "cap"] ["cap"] [.int 1000000000000] (sdInit C)) {f : Addr} {fd : FuncData} (G : Fun K "made_table" "made_table" s_made_table f fd) (T : TxtO K mg C OG ME) : FnOk P w K mg base (L2.CX P w) 11 f fd ["goods", "rows"] (spOf K (sdMade C)) := by
  refine okD G sc_made_table [] (fun as Q E ⟨gs, rs, y, q, _⟩ => by subst q; exact ⟨rfl, rfl⟩) ⟨_, fun cdv A outer s H E ad F0 H0 hr => (pds_one (psd_ret (pd_newK (n := 2) K_Table.mkc K_Table.ok (hr.mono (by decide)) (by rfl) T.c_Table K_Table.kb1 (fun _ => .nil) (fun _ _ _ => rfl) (takes_of rfl rfl rfl rfl) (pda_cons (pd_var (pv 0)) (pda_cons (pd_var (pv 1)) pda_nil)) (pkd_cons (pd_builtB (fun h => pe_callB (cr_max rfl) (by rfl) T.b_max (by decide +kernel) h) cn_max.op (pda_cons (pd_lc (own := [("_", 2), ("most", 3)]) (by rfl) sc_made_table.nd (pid_seq (pd_var (pv 1))) (blkOk_by (own := [("_", 2), ("most", 3)]) (N := ["goods", "rows", "_", "most"]) (sc := defScope s_made_table) (by decide +kernel)) (fun _ _ _ _ _ => (pgd_tup (is := [2, 2, 3]) (vs := [2, 3]) (pg_tup rfl (pgs_cons (pg_name (i := 2) sc_made_table.nd rfl (.inl rfl)) (pgs_cons (pg_name (i := 2) sc_made_table.nd rfl (.inl rfl)) (pgs_cons (pg_name (i := 3) sc_made_table.nd rfl (.inl rfl)) pgs_nil)))) rfl (by show ∀ i ∈ ([2, 2, 3] : List Nat), ¬ (i ∈ ([] : List Nat)) ∧ i ∈ ([2, 3] : List Nat); decide))) (fun _ _ _ _ _ => ptsd_nil) (fun _ _ _ _ _ => (pd_var (pv 3))) (by show ∀ i ∈ ([2, 3] : List Nat), ¬ (i ∈ ([] : List Nat)); decide)) pda_nil)) pkd_nil)))), ?_⟩
  rintro as Qd Ed ⟨gs, rs, y, rfl, hy, hg, hl, hf, k⟩
  refine DR.start (δ' := [some (.d (.tup (gs.map .str))), some (.d y), none, none]) rfl ?_
  walk_at "dd"
  refine ⟨rfl, ?_⟩
  walk_at "dd"
  have ne := rows_ne hf hg
  have main : ∀ (yd : D), RowOf yd (rs.map rowD) → ∀ m : Int, (∀ r ∈ rs, r.2.2 ≤ m) → sdInit C [.own (.ins C []), .d (.tup (gs.map .str)), .d yd, .d (.int m)] (fun r os => r = .d .non ∧ ∃ fs os', os = .ins C fs :: os' ∧ (endsD [] Qd Ed).rt (.d (.obj C fs)) [some (.d (.tup (gs.map .str))), some (.d yd), none, none]) (fun x os => ∃ o os', os = o :: os' ∧ (endsD [] Qd Ed).ex x [some (.d (.tup (gs.map .str))), some (.d yd), none, none]) := fun yd hy m hm => by
    refine ⟨gs, rs, _, _, m, rfl, .inr rfl, hy, hg, hl, hf, hm, fun kvs f hd hi => ⟨rfl, _, _, rfl, _, rfl, ?_⟩⟩
    obtain ⟨e, he, hfe⟩ := IsDist.ent hf hi
    exact k _ e ⟨kvs, f, rfl, hg, hf, hl, hd, hi, he, hfe⟩
  rcases hy with rfl | rfl
  · refine DR.seqL ?_
    walk_at "dd"
    refine DR.lc_mapM (fun r => D.int r.2.2) (fun p acc N hp hl2 kN => ?_) ?_
    · walk_at "dd"
      exact ⟨Nat.lt_of_lt_of_le hl2 (Nat.le_trans hl (by decide)), kN⟩
    · walk_at "dd"
      refine ⟨rs.map (·.2.2), .inl (by rw [List.map_map]; rfl), by rw [List.length_map]; exact List.length_pos_iff.mpr ne, fun m hm hle => ?_⟩
      walk_at "dd"
      exact ⟨rfl, main _ (.inl rfl) m fun r hr => hle _ (List.mem_map_of_mem hr)⟩
  · refine DR.seqT ?_
    walk_at "dd"
    refine DR.lc_mapM (fun r => D.int r.2.2) (fun p acc N hp hl2 kN => ?_) ?_
    · walk_at "dd"
      exact ⟨Nat.lt_of_lt_of_le hl2 (Nat.le_trans hl (by decide)), kN⟩
    · walk_at "dd"
      refine ⟨rs.map (·.2.2), .inl (by rw [List.map_map]; rfl), by rw [List.length_map]; exact List.length_pos_iff.mpr ne, fun m hm hle => ?_⟩
      walk_at "dd"
      exact ⟨rfl, main _ (.inr rfl) m fun r hr => hle _ (List.mem_map_of_mem hr)⟩
end
end KT

set_option Elab.async false
set_option linter.all false
set_option maxRecDepth 100000
set_option maxHeartbeats 0
set_option pp.deepTerms false
set_option pp.deepTerms.threshold 8


namespace KT
open PySem PySem.Spec PyProof.Rows L2 DL
open Dst (IsDist)
abbrev ns1 (gs : List Str) : List Str := cash :: gs
theorem goods_nd {gs : List Str} (g : Goods gs) : (cash :: gs).Nodup := by
  rw [List.nodup_cons]
  exact ⟨fun h => (g.2.2.2 _ h).1 rfl, g.1⟩
theorem goods_len {gs : List Str} (g : Goods gs) : (cash :: gs).length ≤ 10 := by rw [List.length_cons]; have := g.2.2.1; omega
theorem ent_len {gs : List Str} (g : Goods gs) {e : En} : (entRows (cash :: gs) e).length ≤ 100 := by
  rw [entRows_len]; exact prs_len (goods_len g)
theorem Ent.congr {ns : List Str} {rs : List Row} {e f : En} (h : Ent ns rs e) (q : ∀ a b, a ∈ ns → b ∈ ns → e a b = f a b) : Ent ns rs f :=
  ⟨fun a b ha hb => by rw [← q a b ha hb]; exact h.at_ a b ha hb, fun a b n s ha hb w => by rw [← q a b ha hb]; exact h.low a b n s ha hb w⟩
theorem Tb.congr {C : Addr} {gs : List Str} {rs : List Row} {e f : En} {d : D} (h : Tb C gs rs e d) (q : ∀ a b, a ∈ cash :: gs → b ∈ cash :: gs → e a b = f a b) : Tb C gs rs f d := by
  obtain ⟨kvs, g, rfl, h1, h2, h3, h4, h5, h6, h7⟩ := h
  exact ⟨kvs, g, rfl, h1, h2, h3, h4, h5, h6.congr q, fun a b ha hb => by rw [h7 a b ha hb, q a b ha hb]⟩
theorem Tb.met {C : Addr} {gs : List Str} {rs : List Row} {e : En} {d : D} (h : Tb C gs rs e d) : Met (cash :: gs) e := by
  obtain ⟨kvs, g, rfl, h1, h2, h3, h4, h5, h6, h7⟩ := h
  exact h6.met h2
theorem Tb.ent {C : Addr} {gs : List Str} {rs : List Row} {e : En} {d : D} (h : Tb C gs rs e d) : Ent (cash :: gs) rs e := by
  obtain ⟨kvs, g, rfl, h1, h2, h3, h4, h5, h6, h7⟩ := h
  exact h6
theorem Tb.goods {C : Addr} {gs : List Str} {rs : List Row} {e : En} {d : D} (h : Tb C gs rs e d) : Goods gs := by
  obtain ⟨kvs, g, rfl, h1, h2, h3, h4, h5, h6, h7⟩ := h
  exact h1
/-- a table of the closed rows has them as its entries -/
theorem Tb.own {C : Addr} {gs : List Str} {e m : En} {d : D} (h : Tb C gs (entRows (cash :: gs) m) e d) (t : Met (cash :: gs) m) : Tb C gs (entRows (cash :: gs) m) m d :=
  h.congr fun a b ha hb => Ent.unique h.ent t.ent ha hb
theorem entRows_map {ns : List Str} {e : En} (o : Str → Str → Int → Int) : (entRows ns e).map (fun r => rowD (r.1, r.2.1, o r.1 r.2.1 r.2.2)) = (entRows ns fun a b => o a b (e a b)).map rowD := by
  unfold entRows
  rw [List.map_map, List.map_map]
  rfl
section
variable {P : Program} {w : World} {K : PySem.W.Frag} {mg : Str → Option Value} {base : Heap} {C OG ME : Addr}
def sdClosedT (C : Addr) : SpD := fun as Q _ => ∃ (gs : List Str) (rs : List Row), as = [.d (.tup (gs.map .str)), .d (.lst (rs.map rowD))] ∧ Goods gs ∧ rs.length ≤ 200 ∧ FineRows (cash :: gs) rs ∧ ∀ d m, Ent (cash :: gs) rs m → Tb C gs (entRows (cash :: gs) m) m d → Q (.d d) []
abbrev s_closed_table : Stmt := top 39
theorem sc_closed_table : FnScope ["goods", "rows"] ["goods", "rows"] (defScope s_closed_table) := ⟨rfl, rfl, rfl, by decide +kernel, rfl, by decide +kernel, by decide +kernel⟩
theorem ok_closedT (D_made_table : DefD P w K mg base "made_table" 11 ["goods", "rows"] (sdMade C)) (D_Table_entries : DefP P w K mg base C "entries" 1 ["self"] (sdEntries C)) {f : Addr} {fd : FuncData} (G : Fun K "closed_table" "closed_table" s_closed_table f fd) (T : TxtO K mg C OG ME) : FnOk P w K mg base (L2.CX P w) 13 f fd ["goods", "rows"] (spOf K (sdClosedT C)) := by
  refine okD G sc_closed_table [] (fun as Q E ⟨gs, rs, q, _⟩ => by subst q; exact ⟨rfl, rfl⟩) ⟨_, fun cdv A outer s H E ad F0 H0 hr => (pds_one (psd_ret (pd_call D_made_table.ok (hr.mono (by decide)) (by rfl) D_made_table.mg D_made_table.kp D_made_table.b (takes_of rfl rfl rfl rfl) (pda_cons (pd_var (pv 0)) (pda_cons (pd_prop (pd_call D_made_table.ok (hr.mono (by decide)) (by rfl) D_made_table.mg D_made_table.kp D_made_table.b (takes_of rfl rfl rfl rfl) (pda_cons (pd_var (pv 0)) (pda_cons (pd_var (pv 1)) pda_nil))) T.cl_Table D_Table_entries.po D_Table_entries.ok (hr.mono (by decide)) D_Table_entries.b rfl) pda_nil))))), ?_⟩
  rintro as Qd Ed ⟨gs, rs, rfl, hg, hl, hf, k⟩
  refine DR.start (δ' := [some (.d (.tup (gs.map .str))), some (.d (.lst (rs.map rowD)))]) rfl ?_
  walk_at "dd"
  refine ⟨gs, rs, _, rfl, .inl rfl, hg, hl, hf, fun d1 e1 t1 => ?_⟩
  obtain ⟨kvs1, f1, rfl, g1⟩ := id t1
  refine ⟨_, rfl, gs, rs, e1, _, rfl, t1, ?_⟩
  walk_at "dd"
  refine ⟨gs, entRows (cash :: gs) e1, _, rfl, .inr rfl, hg, Nat.le_trans (ent_len hg) (by decide), fine_ent (goods_nd hg) t1.met.nn, fun d2 e2 t2 => ?_⟩
  exact ⟨_, rfl, k _ e1 t1.ent (t2.own t1.met)⟩
def sdOp (C OG : Addr) (r : List Str → En → En → D → Prop) : SpD := fun as Q E => ∃ (gs gs2 : List Str) (rs rs2 : List Row) (e e2 : En) (d d2 : D), as = [.d d, .d d2] ∧ Tb C gs rs e d ∧ Tb C gs2 rs2 e2 d2 ∧ ((gs = gs2 ∧ ∀ z, r gs e e2 z → Q (.d z) []) ∨ (gs ≠ gs2 ∧ E ⟨OG, none⟩ []))
def rAdd (C : Addr) : List Str → En → En → D → Prop := fun gs e f z => Tb C gs (entRows (cash :: gs) fun a b => e a b + f a b) (fun a b => e a b + f a b) z
def rOr (C : Addr) : List Str → En → En → D → Prop := fun gs e f z => Tb C gs (entRows (cash :: gs) fun a b => max (e a b) (f a b)) (fun a b => max (e a b) (f a b)) z
def rAnd (C : Addr) : List Str → En → En → D → Prop := fun gs e f z => ∃ m, Tb C gs (entRows (cash :: gs) m) m z ∧ Inf (cash :: gs) m e f
abbrev s_Table___add : Stmt := inClass (top 40) 9
theorem sc_Table___add : FnScope ["self", "other", "up", "down", "most"] ["self", "other"] (defScope s_Table___add) := ⟨rfl, rfl, rfl, by decide +kernel, rfl, by decide +kernel, by decide +kernel⟩
theorem ok_add (D_made_table : DefD P w K mg base "made_table" 11 ["goods", "rows"] (sdMade C)) (D_check_same_goods : DefR P w K mg base "check_same_goods" 1 (starD 1 (sdSameG C OG))) (D_Table___getitem : DefG P w K mg base C 5 ["self", "at"] (sdGet C)) {f : Addr} {fd : FuncData} (G : Fun K "__add__" "Table.__add__" s_Table___add f fd) (T : TxtO K mg C OG ME) : FnOk P w K mg base (L2.CX P w) 13 f fd ["self", "other"] (spOf K (sdOp C OG (rAdd C))) := by
  refine okD G sc_Table___add [] (fun as Q E ⟨gs, g2, rs, r2, e, e2, d, d2, q, _⟩ => by subst q; exact ⟨rfl, rfl⟩) ⟨_, fun cdv A outer s H E ad F0 H0 hr => (pds_cons (psd_expr (pd_callR D_check_same_goods.ok (hr.mono (by decide)) (by rfl) D_check_same_goods.mg D_check_same_goods.kp (takes_of rfl rfl rfl rfl) (pda_cons (pd_fld (pd_var (pv 0)) T.cl_Table (T.na_Table _ (by decide)) rfl) (pda_cons (pd_var (pv 1)) pda_nil))))
      (pds_one (psd_ret (pd_call D_made_table.ok (hr.mono (by decide)) (by rfl) D_made_table.mg D_made_table.kp D_made_table.b (takes_of rfl rfl rfl rfl) (pda_cons (pd_fld (pd_var (pv 0)) T.cl_Table (T.na_Table _ (by decide)) rfl) (pda_cons (pd_lc (own := [("up", 2), ("down", 3), ("most", 4)]) (by rfl) sc_Table___add.nd (pid_tup (pd_fld (pd_var (pv 0)) T.cl_Table (T.na_Table _ (by decide)) rfl)) (blkOk_by (own := [("up", 2), ("down", 3), ("most", 4)]) (N := ["self", "other", "up", "down", "most"]) (sc := defScope s_Table___add) (by decide +kernel)) (fun _ _ _ _ _ => (pgd_tup (is := [2, 3, 4]) (vs := [2, 3, 4]) (pg_tup rfl (pgs_cons (pg_name (i := 2) sc_Table___add.nd rfl (.inl rfl)) (pgs_cons (pg_name (i := 3) sc_Table___add.nd rfl (.inl rfl)) (pgs_cons (pg_name (i := 4) sc_Table___add.nd rfl (.inl rfl)) pgs_nil)))) rfl (by show ∀ i ∈ ([2, 3, 4] : List Nat), ¬ (i ∈ ([] : List Nat)) ∧ i ∈ ([2, 3, 4] : List Nat); decide))) (fun _ _ _ _ _ => ptsd_nil) (fun _ _ _ _ _ => (pd_tup (fun h => pe_tup h) (pda_cons (pd_var (pv 2)) (pda_cons (pd_var (pv 3)) (pda_cons (pd_op op_add (op2_I0 fun _ _ _ => .int _) (pd_var (pv 4)) (pd_sub D_Table___getitem.gi D_Table___getitem.ok (hr.mono (by decide)) D_Table___getitem.b takes0 (pd_var (pv 1)) (pd_tup (fun h => pe_tup h) (pda_cons (pd_var (pv 2)) (pda_cons (pd_var (pv 3)) pda_nil))) (fun _ _ => rfl))) pda_nil))))) (by show ∀ i ∈ ([2, 3, 4] : List Nat), ¬ (i ∈ ([] : List Nat)); decide)) pda_nil)))))), ?_⟩
  rintro as Qd Ed ⟨gs, gs2, rs, rs2, e, e2, d, d2, rfl, t1, t2, k⟩
  obtain ⟨kvs, f, rfl, h1, h2, h3, h4, h5, h6, h7⟩ := id t1
  obtain ⟨kvs2, f2, rfl, _⟩ := id t2
  refine DR.start (δ' := [some (.d (.obj C (tabFs gs rs kvs f))), some (.d (.obj C (tabFs gs2 rs2 kvs2 f2))), none, none, none]) rfl ?_
  walk_at "dd"
  refine ⟨[.tup (gs.map .str)], [_], rfl, rfl, (by show 1 ≤ _; decide), gs, gs2, rs2, e2, _, rfl, t2, ?_⟩
  rcases k with ⟨rfl, k⟩ | ⟨ne, k⟩
  · refine .inl ⟨rfl, ?_⟩
    walk_at "dd"
    rw [ent_rows h7]
    refine DR.lc_mapM (fun r => rowD (r.1, r.2.1, r.2.2 + e2 r.1 r.2.1)) (fun p acc N hp hl2 kN => ?_) ?_
    · obtain ⟨a, b, m⟩ := p
      obtain ⟨ha, hb, _, hm⟩ := entRows_mem.mp hp
      walk_at "dd"
      refine ⟨gs, rs2, e2, _, a, b, rfl, t2, ha, hb, ?_⟩
      walk_at "dd"
      exact ⟨Nat.lt_of_lt_of_le hl2 (Nat.le_trans (ent_len h1) (by decide)), kN⟩
    · walk_at "dd"
      rw [entRows_map fun a b m => m + e2 a b]
      refine ⟨gs, entRows (cash :: gs) fun a b => e a b + e2 a b, _, rfl, .inl rfl, h1, Nat.le_trans (ent_len h1) (by decide), fine_ent (goods_nd h1) (t1.met.add t2.met).nn, fun d3 e3 t3 => ?_⟩
      exact ⟨_, rfl, k _ (t3.own (t1.met.add t2.met))⟩
  · refine .inr ⟨ne, ?_⟩
    exact ⟨_, rfl, k⟩
abbrev s_Table___or : Stmt := inClass (top 40) 11
theorem sc_Table___or : FnScope ["self", "other", "up", "down", "most"] ["self", "other"] (defScope s_Table___or) := ⟨rfl, rfl, rfl, by decide +kernel, rfl, by decide +kernel, by decide +kernel⟩
theorem ok_or (D_made_table : DefD P w K mg base "made_table" 11 ["goods", "rows"] (sdMade C)) (D_check_same_goods : DefR P w K mg base "check_same_goods" 1 (starD 1 (sdSameG C OG))) (D_Table___getitem : DefG P w K mg base C 5 ["self", "at"] (sdGet C)) {f : Addr} {fd : FuncData} (G : Fun K "__or__" "Table.__or__" s_Table___or f fd) (T : TxtO K mg C OG ME) : FnOk P w K mg base (L2.CX P w) 13 f fd ["self", "other"] (spOf K (sdOp C OG (rOr C))) := by
  refine okD G sc_Table___or [] (fun as Q E ⟨gs, g2, rs, r2, e, e2, d, d2, q, _⟩ => by subst q; exact ⟨rfl, rfl⟩) ⟨_, fun cdv A outer s H E ad F0 H0 hr => (pds_cons (psd_expr (pd_callR D_check_same_goods.ok (hr.mono (by decide)) (by rfl) D_check_same_goods.mg D_check_same_goods.kp (takes_of rfl rfl rfl rfl) (pda_cons (pd_fld (pd_var (pv 0)) T.cl_Table (T.na_Table _ (by decide)) rfl) (pda_cons (pd_var (pv 1)) pda_nil))))
      (pds_one (psd_ret (pd_call D_made_table.ok (hr.mono (by decide)) (by rfl) D_made_table.mg D_made_table.kp D_made_table.b (takes_of rfl rfl rfl rfl) (pda_cons (pd_fld (pd_var (pv 0)) T.cl_Table (T.na_Table _ (by decide)) rfl) (pda_cons (pd_lc (own := [("up", 2), ("down", 3), ("most", 4)]) (by rfl) sc_Table___or.nd (pid_tup (pd_fld (pd_var (pv 0)) T.cl_Table (T.na_Table _ (by decide)) rfl)) (blkOk_by (own := [("up", 2), ("down", 3), ("most", 4)]) (N := ["self", "other", "up", "down", "most"]) (sc := defScope s_Table___or) (by decide +kernel)) (fun _ _ _ _ _ => (pgd_tup (is := [2, 3, 4]) (vs := [2, 3, 4]) (pg_tup rfl (pgs_cons (pg_name (i := 2) sc_Table___or.nd rfl (.inl rfl)) (pgs_cons (pg_name (i := 3) sc_Table___or.nd rfl (.inl rfl)) (pgs_cons (pg_name (i := 4) sc_Table___or.nd rfl (.inl rfl)) pgs_nil)))) rfl (by show ∀ i ∈ ([2, 3, 4] : List Nat), ¬ (i ∈ ([] : List Nat)) ∧ i ∈ ([2, 3, 4] : List Nat); decide))) (fun _ _ _ _ _ => ptsd_nil) (fun _ _ _ _ _ => (pd_tup (fun h => pe_tup h) (pda_cons (pd_var (pv 2)) (pda_cons (pd_var (pv 3)) (pda_cons (pd_builtB (fun h => pe_callB (call_max2 rfl) (by rfl) T.b_max (by decide +kernel) h) cn_two.op (pda_cons (pd_var (pv 4)) (pda_cons (pd_sub D_Table___getitem.gi D_Table___getitem.ok (hr.mono (by decide)) D_Table___getitem.b takes0 (pd_var (pv 1)) (pd_tup (fun h => pe_tup h) (pda_cons (pd_var (pv 2)) (pda_cons (pd_var (pv 3)) pda_nil))) (fun _ _ => rfl)) pda_nil))) pda_nil))))) (by show ∀ i ∈ ([2, 3, 4] : List Nat), ¬ (i ∈ ([] : List Nat)); decide)) pda_nil)))))), ?_⟩
  rintro as Qd Ed ⟨gs, gs2, rs, rs2, e, e2, d, d2, rfl, t1, t2, k⟩
  obtain ⟨kvs, f, rfl, h1, h2, h3, h4, h5, h6, h7⟩ := id t1
  obtain ⟨kvs2, f2, rfl, _⟩ := id t2
  refine DR.start (δ' := [some (.d (.obj C (tabFs gs rs kvs f))), some (.d (.obj C (tabFs gs2 rs2 kvs2 f2))), none, none, none]) rfl ?_
  walk_at "dd"
  refine ⟨[.tup (gs.map .str)], [_], rfl, rfl, (by show 1 ≤ _; decide), gs, gs2, rs2, e2, _, rfl, t2, ?_⟩
  rcases k with ⟨rfl, k⟩ | ⟨ne, k⟩
  · refine .inl ⟨rfl, ?_⟩
    walk_at "dd"
    rw [ent_rows h7]
    refine DR.lc_mapM (fun r => rowD (r.1, r.2.1, if r.2.2 < e2 r.1 r.2.1 then e2 r.1 r.2.1 else r.2.2)) (fun p acc N hp hl2 kN => ?_) ?_
    · obtain ⟨a, b, m⟩ := p
      obtain ⟨ha, hb, _, hm⟩ := entRows_mem.mp hp
      walk_at "dd"
      refine ⟨gs, rs2, e2, _, a, b, rfl, t2, ha, hb, ?_⟩
      walk_at "dd"
      exact ⟨Nat.lt_of_lt_of_le hl2 (Nat.le_trans (ent_len h1) (by decide)), kN⟩
    · walk_at "dd"
      rw [entRows_map fun a b m => if m < e2 a b then e2 a b else m, (entRows_congr fun a b _ _ => by show (if e a b < e2 a b then e2 a b else e a b) = max (e a b) (e2 a b); split <;> omega : entRows (cash :: gs) (fun a b => if e a b < e2 a b then e2 a b else e a b) = entRows (cash :: gs) fun a b => max (e a b) (e2 a b))]
      refine ⟨gs, entRows (cash :: gs) fun a b => max (e a b) (e2 a b), _, rfl, .inl rfl, h1, Nat.le_trans (ent_len h1) (by decide), fine_ent (goods_nd h1) (t1.met.max t2.met).nn, fun d3 e3 t3 => ?_⟩
      exact ⟨_, rfl, k _ (t3.own (t1.met.max t2.met))⟩
  · refine .inr ⟨ne, ?_⟩
    exact ⟨_, rfl, k⟩
abbrev s_Table___and : Stmt := inClass (top 40) 10
theorem sc_Table___and : FnScope ["self", "other", "up", "down", "most"] ["self", "other"] (defScope s_Table___and) := ⟨rfl, rfl, rfl, by decide +kernel, rfl, by decide +kernel, by decide +kernel⟩
theorem ok_and (D_closed_table : DefD P w K mg base "closed_table" 13 ["goods", "rows"] (sdClosedT C)) (D_check_same_goods : DefR P w K mg base "check_same_goods" 1 (starD 1 (sdSameG C OG))) (D_Table___getitem : DefG P w K mg base C 5 ["self", "at"] (sdGet C)) {f : Addr} {fd : FuncData} (G : Fun K "__and__" "Table.__and__" s_Table___and f fd) (T : TxtO K mg C OG ME) : FnOk P w K mg base (L2.CX P w) 15 f fd ["self", "other"] (spOf K (sdOp C OG (rAnd C))) := by
  refine okD G sc_Table___and [] (fun as Q E ⟨gs, g2, rs, r2, e, e2, d, d2, q, _⟩ => by subst q; exact ⟨rfl, rfl⟩) ⟨_, fun cdv A outer s H E ad F0 H0 hr => (pds_cons (psd_expr (pd_callR D_check_same_goods.ok (hr.mono (by decide)) (by rfl) D_check_same_goods.mg D_check_same_goods.kp (takes_of rfl rfl rfl rfl) (pda_cons (pd_fld (pd_var (pv 0)) T.cl_Table (T.na_Table _ (by decide)) rfl) (pda_cons (pd_var (pv 1)) pda_nil))))
      (pds_one (psd_ret (pd_call D_closed_table.ok (hr.mono (by decide)) (by rfl) D_closed_table.mg D_closed_table.kp D_closed_table.b (takes_of rfl rfl rfl rfl) (pda_cons (pd_fld (pd_var (pv 0)) T.cl_Table (T.na_Table _ (by decide)) rfl) (pda_cons (pd_lc (own := [("up", 2), ("down", 3), ("most", 4)]) (by rfl) sc_Table___and.nd (pid_tup (pd_fld (pd_var (pv 0)) T.cl_Table (T.na_Table _ (by decide)) rfl)) (blkOk_by (own := [("up", 2), ("down", 3), ("most", 4)]) (N := ["self", "other", "up", "down", "most"]) (sc := defScope s_Table___and) (by decide +kernel)) (fun _ _ _ _ _ => (pgd_tup (is := [2, 3, 4]) (vs := [2, 3, 4]) (pg_tup rfl (pgs_cons (pg_name (i := 2) sc_Table___and.nd rfl (.inl rfl)) (pgs_cons (pg_name (i := 3) sc_Table___and.nd rfl (.inl rfl)) (pgs_cons (pg_name (i := 4) sc_Table___and.nd rfl (.inl rfl)) pgs_nil)))) rfl (by show ∀ i ∈ ([2, 3, 4] : List Nat), ¬ (i ∈ ([] : List Nat)) ∧ i ∈ ([2, 3, 4] : List Nat); decide))) (fun _ _ _ _ _ => ptsd_nil) (fun _ _ _ _ _ => (pd_tup (fun h => pe_tup h) (pda_cons (pd_var (pv 2)) (pda_cons (pd_var (pv 3)) (pda_cons (pd_builtB (fun h => pe_callB (call_min2 rfl) (by rfl) T.b_min (by decide +kernel) h) cn_two.op (pda_cons (pd_var (pv 4)) (pda_cons (pd_sub D_Table___getitem.gi D_Table___getitem.ok (hr.mono (by decide)) D_Table___getitem.b takes0 (pd_var (pv 1)) (pd_tup (fun h => pe_tup h) (pda_cons (pd_var (pv 2)) (pda_cons (pd_var (pv 3)) pda_nil))) (fun _ _ => rfl)) pda_nil))) pda_nil))))) (by show ∀ i ∈ ([2, 3, 4] : List Nat), ¬ (i ∈ ([] : List Nat)); decide)) pda_nil)))))), ?_⟩
  rintro as Qd Ed ⟨gs, gs2, rs, rs2, e, e2, d, d2, rfl, t1, t2, k⟩
  obtain ⟨kvs, f, rfl, h1, h2, h3, h4, h5, h6, h7⟩ := id t1
  obtain ⟨kvs2, f2, rfl, _⟩ := id t2
  refine DR.start (δ' := [some (.d (.obj C (tabFs gs rs kvs f))), some (.d (.obj C (tabFs gs2 rs2 kvs2 f2))), none, none, none]) rfl ?_
  walk_at "dd"
  refine ⟨[.tup (gs.map .str)], [_], rfl, rfl, (by show 1 ≤ _; decide), gs, gs2, rs2, e2, _, rfl, t2, ?_⟩
  rcases k with ⟨rfl, k⟩ | ⟨ne, k⟩
  · refine .inl ⟨rfl, ?_⟩
    walk_at "dd"
    rw [ent_rows h7]
    refine DR.lc_mapM (fun r => rowD (r.1, r.2.1, if e2 r.1 r.2.1 < r.2.2 then e2 r.1 r.2.1 else r.2.2)) (fun p acc N hp hl2 kN => ?_) ?_
    · obtain ⟨a, b, m⟩ := p
      obtain ⟨ha, hb, _, hm⟩ := entRows_mem.mp hp
      walk_at "dd"
      refine ⟨gs, rs2, e2, _, a, b, rfl, t2, ha, hb, ?_⟩
      walk_at "dd"
      exact ⟨Nat.lt_of_lt_of_le hl2 (Nat.le_trans (ent_len h1) (by decide)), kN⟩
    · walk_at "dd"
      rw [entRows_map fun a b m => if e2 a b < m then e2 a b else m, (entRows_congr fun a b _ _ => by show (if e2 a b < e a b then e2 a b else e a b) = min (e a b) (e2 a b); split <;> omega : entRows (cash :: gs) (fun a b => if e2 a b < e a b then e2 a b else e a b) = entRows (cash :: gs) fun a b => min (e a b) (e2 a b))]
      refine ⟨gs, entRows (cash :: gs) fun a b => min (e a b) (e2 a b), rfl, h1, Nat.le_trans (ent_len h1) (by decide), fine_ent (goods_nd h1) (fun a b ha hb => by have := t1.met.nn a b ha hb; have := t2.met.nn a b ha hb; omega), fun d3 m hm t3 => ?_⟩
      exact ⟨_, rfl, k _ ⟨m, t3, inf_of (goods_nd h1) t1.met t2.met hm⟩⟩
  · refine .inr ⟨ne, ?_⟩
    exact ⟨_, rfl, k⟩
end
end KT

set_option Elab.async false
set_option linter.all false
set_option maxRecDepth 100000
set_option maxHeartbeats 0
set_option pp.deepTerms false
set_option pp.deepTerms.threshold 8


namespace KT
open PySem PySem.Spec PyProof.Rows L2 DL
open Dst (IsDist)
/-- the first pair whose entry is above -/
def firstUp (ns : List Str) (e f : En) : Option Row := (entRows ns e).find? fun r => decide (f r.1 r.2.1 < r.2.2)
def upD : Option Row → D
  | none => .non
  | some r => .tup [.str r.1, .str r.2.1]
theorem find_at {α : Type} {p : α → Bool} {l : List α} {i : Nat} {x : α} (h : (l.take i).find? p = none) (hx : l[i]? = some x) : (p x = true → l.find? p = some x) ∧ (p x = false → (l.take (i + 1)).find? p = none) := by
  have hl : i < l.length := by
    rcases Nat.lt_or_ge i l.length with c | c
    · exact c
    · rw [List.getElem?_eq_none c] at hx; cases hx
  have e1 : l.take (i + 1) = l.take i ++ [x] := by rw [List.take_succ, hx]; rfl
  constructor
  · intro hp
    have : (l.take (i + 1) ++ l.drop (i + 1)).find? p = some x := by
      rw [e1, List.append_assoc, List.find?_append, h]
      simp [List.find?_cons, hp]
    rwa [List.take_append_drop] at this
  · intro hp
    rw [e1, List.find?_append, h]
    simp [List.find?_cons, hp]
section
variable {P : Program} {w : World} {K : PySem.W.Frag} {mg : Str → Option Value} {base : Heap} {C OG ME : Addr}
def sdAbove (C OG : Addr) : SpD := fun as Q E => ∃ (gs gs2 : List Str) (rs rs2 : List Row) (e e2 : En) (d d2 : D), as = [.d d, .d d2] ∧ Tb C gs rs e d ∧ Tb C gs2 rs2 e2 d2 ∧ ((gs = gs2 ∧ Q (.d (upD (firstUp (cash :: gs) e e2))) []) ∨ (gs ≠ gs2 ∧ E ⟨OG, none⟩ []))
abbrev s_Table_first_above : Stmt := inClass (top 40) 5
theorem sc_Table_first_above : FnScope ["self", "other", "up", "down", "most"] ["self", "other"] (defScope s_Table_first_above) := ⟨rfl, rfl, rfl, by decide +kernel, rfl, by decide +kernel, by decide +kernel⟩
theorem ok_above (D_check_same_goods : DefR P w K mg base "check_same_goods" 1 (starD 1 (sdSameG C OG))) (D_Table___getitem : DefG P w K mg base C 5 ["self", "at"] (sdGet C)) {f : Addr} {fd : FuncData} (G : Fun K "first_above" "Table.first_above" s_Table_first_above f fd) (T : TxtO K mg C OG ME) : FnOk P w K mg base (L2.CX P w) 7 f fd ["self", "other"] (spOf K (sdAbove C OG)) := by
  refine okD G sc_Table_first_above [] (fun as Q E ⟨gs, g2, rs, r2, e, e2, d, d2, q, _⟩ => by subst q; exact ⟨rfl, rfl⟩) ⟨_, fun cdv A outer s H E ad F0 H0 hr => (pds_cons (psd_expr (pd_callR D_check_same_goods.ok (hr.mono (by decide)) (by rfl) D_check_same_goods.mg D_check_same_goods.kp (takes_of rfl rfl rfl rfl) (pda_cons (pd_fld (pd_var (pv 0)) T.cl_Table (T.na_Table _ (by decide)) rfl) (pda_cons (pd_var (pv 1)) pda_nil))))
      (pds_cons (psd_for (passes_of rfl) rfl (pid_tup (pd_fld (pd_var (pv 0)) T.cl_Table (T.na_Table _ (by decide)) rfl)) (pgd_tup (is := [2, 3, 4]) (vs := [2, 3, 4]) (pg_tup rfl (pgs_cons (pg_name (i := 2) sc_Table_first_above.nd rfl (.inl rfl)) (pgs_cons (pg_name (i := 3) sc_Table_first_above.nd rfl (.inl rfl)) (pgs_cons (pg_name (i := 4) sc_Table_first_above.nd rfl (.inl rfl)) pgs_nil)))) rfl (by show ∀ i ∈ ([2, 3, 4] : List Nat), ¬ (i ∈ ([] : List Nat)) ∧ i ∈ ([2, 3, 4] : List Nat); decide))
      (pds_one (psd_if (ptd_cmp op_gt (op2_I0 fun _ _ _ => .bl _) (pd_var (pv 4)) (pd_sub D_Table___getitem.gi D_Table___getitem.ok (hr.mono (by decide)) D_Table___getitem.b (takes_of rfl rfl rfl rfl) (pd_var (pv 1)) (pd_tup (fun h => pe_tup h) (pda_cons (pd_var (pv 2)) (pda_cons (pd_var (pv 3)) pda_nil))) (fun _ _ => rfl)) (nomark _)) (pds_one (psd_ret (pd_tup (fun h => pe_tup h) (pda_cons (pd_var (pv 2)) (pda_cons (pd_var (pv 3)) pda_nil))))) pds_nil)))
      (pds_one (psd_ret (pd_const pe_non (fun _ => .non)))))), ?_⟩
  rintro as Qd Ed ⟨gs, gs2, rs, rs2, e, e2, d, d2, rfl, t1, t2, k⟩
  obtain ⟨kvs, f, rfl, h1, h2, h3, h4, h5, h6, h7⟩ := id t1
  obtain ⟨kvs2, f2, rfl, _⟩ := id t2
  refine DR.start (δ' := [some (.d (.obj C (tabFs gs rs kvs f))), some (.d (.obj C (tabFs gs2 rs2 kvs2 f2))), none, none, none]) rfl ?_
  walk_at "dd"
  refine ⟨[.tup (gs.map .str)], [_], rfl, rfl, (by show 1 ≤ _; decide), gs, gs2, rs2, e2, _, rfl, t2, ?_⟩
  rcases k with ⟨rfl, k⟩ | ⟨ne, k⟩
  · refine .inl ⟨rfl, ?_⟩
    walk_at "dd"
    rw [ent_rows h7]
    refine DR.for_inv (fun i δ => ∃ p2 p3 p4, δ = [some (.d (.obj C (tabFs gs rs kvs f))), some (.d (.obj C (tabFs gs rs2 kvs2 f2))), p2, p3, p4] ∧ ((entRows (cash :: gs) e).take i).find? (fun r => decide (e2 r.1 r.2.1 < r.2.2)) = none) ⟨_, _, _, rfl, rfl⟩ ?_ ?_
    · rintro i x δ N hx ⟨p2, p3, p4, rfl, hn⟩ kN
      obtain ⟨⟨a, b, m⟩, hr, rfl⟩ := DR.map_at hx
      obtain ⟨ha, hb, _, hm⟩ := entRows_mem.mp (List.mem_of_getElem? hr)
      obtain ⟨y, n⟩ := find_at hn hr
      walk_at "dd"
      refine ⟨gs, rs2, e2, _, a, b, rfl, t2, ha, hb, ?_⟩
      walk_at "dd"
      refine DR.split (fun c => ?_) (fun c => ?_)
      · walk_at "dd"
        have q := y (decide_eq_true c)
        unfold firstUp at k
        rw [q] at k
        exact k
      · walk_at "dd"
        exact kN _ ⟨_, _, _, rfl, n (decide_eq_false c)⟩
    · rintro δ ⟨p2, p3, p4, rfl, hn⟩
      walk_at "dd"
      rw [List.length_map, List.take_length] at hn
      unfold firstUp at k
      rw [hn] at k
      exact k
  · refine .inr ⟨ne, ?_⟩
    exact ⟨_, rfl, k⟩
def sdWithin (C OG : Addr) : SpD := fun as Q E => ∃ (gs gs2 : List Str) (rs rs2 : List Row) (e e2 : En) (d d2 : D), as = [.d d, .d d2] ∧ Tb C gs rs e d ∧ Tb C gs2 rs2 e2 d2 ∧ ((gs = gs2 ∧ Q (.d (.bl (firstUp (cash :: gs) e e2).isNone)) []) ∨ (gs ≠ gs2 ∧ E ⟨OG, none⟩ []))
abbrev s_Table_within : Stmt := inClass (top 40) 4
theorem sc_Table_within : FnScope ["self", "other"] ["self", "other"] (defScope s_Table_within) := ⟨rfl, rfl, rfl, by decide +kernel, rfl, by decide +kernel, by decide +kernel⟩
theorem ok_within (D_Table_first_above : DefM P w K mg base C "first_above" 7 ["self", "other"] (sdAbove C OG)) {f : Addr} {fd : FuncData} (G : Fun K "within" "Table.within" s_Table_within f fd) (T : TxtO K mg C OG ME) : FnOk P w K mg base (L2.CX P w) 9 f fd ["self", "other"] (spOf K (sdWithin C OG)) := by
  refine okD G sc_Table_within [] (fun as Q E ⟨gs, g2, rs, r2, e, e2, d, d2, q, _⟩ => by subst q; exact ⟨rfl, rfl⟩) ⟨_, fun cdv A outer s H E ad F0 H0 hr => (pds_one (psd_ret (pd_cmp op_isN op2_isN.op (pd_meth (pd_var (pv 0)) T.cl_Table D_Table_first_above.me D_Table_first_above.ok (hr.mono (by decide)) D_Table_first_above.b (takes_of rfl rfl rfl rfl) (pda_cons (pd_var (pv 1)) pda_nil)) (pd_const pe_non (fun _ => .non)) (nomark _)))), ?_⟩
  rintro as Qd Ed ⟨gs, gs2, rs, rs2, e, e2, d, d2, rfl, t1, t2, k⟩
  obtain ⟨kvs, f, rfl, h1, h2, h3, h4, h5, h6, h7⟩ := id t1
  obtain ⟨kvs2, f2, rfl, _⟩ := id t2
  refine DR.start (δ' := [some (.d (.obj C (tabFs gs rs kvs f))), some (.d (.obj C (tabFs gs2 rs2 kvs2 f2)))]) rfl ?_
  walk_at "dd"
  refine ⟨gs, gs2, rs, rs2, e, e2, _, _, rfl, t1, t2, ?_⟩
  rcases k with ⟨rfl, k⟩ | ⟨ne, k⟩
  · refine .inl ⟨rfl, ?_⟩
    walk_at "dd"
    refine ⟨(firstUp (cash :: gs) e e2).isNone, rfl, ?_, DR.nost_b, ?_⟩
    · cases firstUp (cash :: gs) e e2 with
      | none => exact ⟨fun _ => rfl, fun _ => rfl⟩
      | some r => exact ⟨fun z => (nomatch z), fun z => (nomatch z)⟩
    · exact ⟨_, rfl, k⟩
  · exact .inr ⟨ne, _, rfl, k⟩
end
end KT

set_option Elab.async false
set_option linter.all false
set_option maxRecDepth 100000
set_option maxHeartbeats 0
set_option pp.deepTerms false
set_option pp.deepTerms.threshold 8


namespace KT
open PySem PySem.Spec PyProof.Rows L2 DL
abbrev s_NoAsset___init : Stmt := inClass (top 4) 0
theorem sc_NoAsset___init : FnScope ["self", "name"] ["self", "name"] (defScope s_NoAsset___init) := ⟨rfl, rfl, rfl, by decide +kernel, rfl, by decide +kernel, by decide +kernel⟩
theorem ok_NoAsset {P : Program} {w : World} {K : PySem.W.Frag} {mg : Str → Option Value} {base : Heap} {B : Addr} {f : Addr} {fd : FuncData} (F : Fun K "__init__" "NoAsset.__init__" s_NoAsset___init f fd) (ox : OexC K B) (nw0 : PySem.W.findIn K (.ref B) "name" = some none) : FnOk P w K mg base CX0 1 f fd ["self", "name"] (ErrR K B ["name"]) :=
  ok_err1 F sc_NoAsset___init ox nw0 fun cdv A outer s H E => pss_one (ps_ost (pv 0) (pv 1))
abbrev s_BadGoods___init : Stmt := inClass (top 3) 0
theorem sc_BadGoods___init : FnScope ["self", "what"] ["self", "what"] (defScope s_BadGoods___init) := ⟨rfl, rfl, rfl, by decide +kernel, rfl, by decide +kernel, by decide +kernel⟩
theorem ok_BadGoods {P : Program} {w : World} {K : PySem.W.Frag} {mg : Str → Option Value} {base : Heap} {B : Addr} {f : Addr} {fd : FuncData} (F : Fun K "__init__" "BadGoods.__init__" s_BadGoods___init f fd) (ox : OexC K B) (nw0 : PySem.W.findIn K (.ref B) "what" = some none) : FnOk P w K mg base CX0 1 f fd ["self", "what"] (ErrR K B ["what"]) :=
  ok_err1 F sc_BadGoods___init ox nw0 fun cdv A outer s H E => pss_one (ps_ost (pv 0) (pv 1))
abbrev s_BadMove___init : Stmt := inClass (top 8) 0
theorem sc_BadMove___init : FnScope ["self", "what"] ["self", "what"] (defScope s_BadMove___init) := ⟨rfl, rfl, rfl, by decide +kernel, rfl, by decide +kernel, by decide +kernel⟩
theorem ok_BadMove {P : Program} {w : World} {K : PySem.W.Frag} {mg : Str → Option Value} {base : Heap} {B : Addr} {f : Addr} {fd : FuncData} (F : Fun K "__init__" "BadMove.__init__" s_BadMove___init f fd) (ox : OexC K B) (nw0 : PySem.W.findIn K (.ref B) "what" = some none) : FnOk P w K mg base CX0 1 f fd ["self", "what"] (ErrR K B ["what"]) :=
  ok_err1 F sc_BadMove___init ox nw0 fun cdv A outer s H E => pss_one (ps_ost (pv 0) (pv 1))
/-- plain data and its type -/
inductive Pl : D → String → Prop
  | non : Pl .non "NoneType"
  | bl (b : Bool) : Pl (.bl b) "bool"
  | int (i : Int) : Pl (.int i) "int"
  | str (s : Str) : Pl (.str s) "str"
  | lst (l : List D) : Pl (.lst l) "list"
  | tup (l : List D) : Pl (.tup l) "tuple"
theorem Pl.ty {K : PySem.W.Frag} {x : D} {n : String} (h : Pl x n) : TyD K x (.type n) := by
  cases h
  · exact .non
  · exact .bl _
  · exact .int _
  · exact .str _
  · exact .lst _
  · exact .tup _
def isI : D → Bool
  | .int _ => true
  | _ => false
def isS : D → Bool
  | .lst _ => true
  | .tup _ => true
  | _ => false
def low (z : Str) : Bool := z.cps.toList.all fun c => decide (c ∈ (Str.ofString "abcdefghijklmnopqrstuvwxyz").cps.toList)
def nmB (z : Str) : Bool := decide (1 ≤ z.length) && decide (z.length ≤ 12) && low z
def nmD : D → Bool
  | .str z => nmB z
  | _ => false
def seqOf : D → List D
  | .lst l => l
  | .tup l => l
  | _ => []
section
variable {P : Program} {w : World} {K : PySem.W.Frag} {mg : Str → Option Value} {base : Heap} {C OG NA BG BM : Addr}
/-! ### kinds of things -/
def sdIntX : SpD := fun as Q _ => ∃ (x : D) (n : String), as = [.d x] ∧ Pl x n ∧ Q (.d (.bl (isI x))) []
theorem ok_integerX {f : Addr} {fd : FuncData} (G : Fun K "is_integer" "is_integer" s_is_integer f fd) (T : TxtN mg) : FnOk P w K mg base (L2.CX P w) 1 f fd ["thing"] (spOf K sdIntX) := by
  refine okD G sc_is_integer [] (fun as Q E ⟨xs, n, e, _⟩ => by subst e; exact ⟨rfl, rfl⟩) ⟨_, fun cdv A outer s H E ad F0 H0 hr => (pds_one (psd_ret (pd_and (pd_builtB (fun h => pe_callB call_isi (by rfl) T.b_isinstance (by decide +kernel) h) (cn_isi (K := K)).op (pda_cons (pd_var (pv 0)) (pda_cons (pd_const (pe_bltn (v := .ty "int") (by rfl) T.b_int (by decide +kernel) rfl) (fun _ => .ty _)) pda_nil))) (pd_one (pd_not (pd_builtB (fun h => pe_callB call_isi (by rfl) T.b_isinstance (by decide +kernel) h) (cn_isi (K := K)).op (pda_cons (pd_var (pv 0)) (pda_cons (pd_const (pe_bltn (v := .ty "bool") (by rfl) T.b_bool (by decide +kernel) rfl) (fun _ => .ty _)) pda_nil)))))))), ?_⟩
  rintro as Qd Ed ⟨x, n, rfl, hx, k⟩
  refine DR.start (δ' := [some (.d x)]) rfl ?_
  walk_at "dd"
  cases hx with
  | non => exact ⟨_, _, _, _, false, rfl, .ty _, .non, by rfl, DR.nost_b, by walk_at "dd"; exact k⟩
  | bl b =>
    refine ⟨_, _, _, _, true, rfl, .ty _, .bl _, by rfl, ?_⟩
    walk_at "dd"
    refine ⟨_, _, _, _, true, rfl, .ty _, .bl _, kit_self, ?_⟩
    walk_at "dd"
    exact k
  | int i =>
    refine ⟨_, _, _, _, true, rfl, .ty _, .int _, kit_self, ?_⟩
    walk_at "dd"
    refine ⟨_, _, _, _, false, rfl, .ty _, .int _, by rfl, ?_⟩
    walk_at "dd"
    exact k
  | str s => exact ⟨_, _, _, _, false, rfl, .ty _, .str _, by rfl, DR.nost_b, by walk_at "dd"; exact k⟩
  | lst l => exact ⟨_, _, _, _, false, rfl, .ty _, .lst _, by rfl, DR.nost_b, by walk_at "dd"; exact k⟩
  | tup l => exact ⟨_, _, _, _, false, rfl, .ty _, .tup _, by rfl, DR.nost_b, by walk_at "dd"; exact k⟩
def sdSeqX : SpD := fun as Q _ => ∃ (x : D) (n : String), as = [.d x] ∧ Pl x n ∧ Q (.d (.bl (isS x))) []
theorem ok_seqX {f : Addr} {fd : FuncData} (G : Fun K "is_sequence" "is_sequence" s_is_sequence f fd) (T : TxtN mg) : FnOk P w K mg base (L2.CX P w) 1 f fd ["thing"] (spOf K sdSeqX) := by
  refine okD G sc_is_sequence [] (fun as Q E ⟨xs, y, e, _⟩ => by subst e; exact ⟨rfl, rfl⟩) ⟨_, fun cdv A outer s H E ad F0 H0 hr => (pds_one (psd_ret (pd_builtB (fun h => pe_callB call_isiT (by rfl) T.b_isinstance (by decide +kernel) h) (cn_isiT (K := K)).op (pda_cons (pd_var (pv 0)) (pda_cons (pd_tup (fun h => pe_tup h) (pda_cons (pd_const (pe_bltn (v := .ty "list") (by rfl) T.b_list (by decide +kernel) rfl) (fun _ => .ty _)) (pda_cons (pd_const (pe_bltn (v := .ty "tuple") (by rfl) T.b_tuple (by decide +kernel) rfl) (fun _ => .ty _)) pda_nil))) pda_nil))))), ?_⟩
  rintro as Qd Ed ⟨x, n, rfl, hx, k⟩
  refine DR.start (δ' := [some (.d x)]) rfl ?_
  walk_at "dd"
  cases hx with
  | non => exact ⟨_, _, _, _, false, rfl, .cons (.ty _) (.cons (.ty _) .nil), .non, rfl, DR.nost_b, by walk_at "dd"; exact k⟩
  | bl b => exact ⟨_, _, _, _, false, rfl, .cons (.ty _) (.cons (.ty _) .nil), .bl _, rfl, DR.nost_b, by walk_at "dd"; exact k⟩
  | int i => exact ⟨_, _, _, _, false, rfl, .cons (.ty _) (.cons (.ty _) .nil), .int _, rfl, DR.nost_b, by walk_at "dd"; exact k⟩
  | str s => exact ⟨_, _, _, _, false, rfl, .cons (.ty _) (.cons (.ty _) .nil), .str _, rfl, DR.nost_b, by walk_at "dd"; exact k⟩
  | lst l => exact ⟨_, _, _, _, true, rfl, .cons (.ty _) (.cons (.ty _) .nil), .lst _, rfl, DR.nost_b, by walk_at "dd"; exact k⟩
  | tup l => exact ⟨_, _, _, _, true, rfl, .cons (.ty _) (.cons (.ty _) .nil), .tup _, rfl, DR.nost_b, by walk_at "dd"; exact k⟩
def isR (n : Nat) (x : D) : Bool := isS x && decide ((seqOf x).length = n)
def sdRowX : SpD := fun as Q _ => ∃ (x : D) (t : String) (n : Nat), as = [.d x, .d (.int n)] ∧ Pl x t ∧ n ≤ 1000 ∧ Q (.d (.bl (isR n x))) []
theorem ok_rowX (D_is_sequence : DefD P w K mg base "is_sequence" 1 ["thing"] sdSeqX) {f : Addr} {fd : FuncData} (G : Fun K "is_row" "is_row" s_is_row f fd) (T : TxtN mg) : FnOk P w K mg base (L2.CX P w) 3 f fd ["thing", "length"] (spOf K sdRowX) := by
  refine okD G sc_is_row [] (fun as Q E ⟨xs, y, n, e, _⟩ => by subst e; exact ⟨rfl, rfl⟩) ⟨_, fun cdv A outer s H E ad F0 H0 hr => (pds_one (psd_ret (pd_and (pd_call D_is_sequence.ok (hr.mono (by decide)) (by rfl) D_is_sequence.mg D_is_sequence.kp D_is_sequence.b (takes_of rfl rfl rfl rfl) (pda_cons (pd_var (pv 0)) pda_nil)) (pd_one (pd_cmp op_eq op2_eq.op (pd_builtB (fun h => pe_callB call_len_seq (by rfl) T.b_len (by decide +kernel) h) cn_len.op (pda_cons (pd_var (pv 0)) pda_nil)) (pd_var (pv 1)) (nomark _)))))), ?_⟩
  rintro as Qd Ed ⟨x, t, n, rfl, hx, hn, k⟩
  refine DR.start (δ' := [some (.d x), some (.d (.int n))]) rfl ?_
  walk_at "dd"
  refine ⟨x, t, rfl, hx, ?_⟩
  have e : ∀ l : List D, decide (V.int (l.length : Int) = V.int (n : Int)) = decide (l.length = n) := fun l => decide_eq_decide.mpr ⟨fun q => by injection q with q; omega, fun q => by rw [q]⟩
  have no : isS x = false → isR n x = false := fun h => by unfold isR; rw [h]; rfl
  have yes : isS x = true → isR n x = decide ((seqOf x).length = n) := fun h => by unfold isR; rw [h]; rfl
  cases q : isS x with
  | false =>
    rw [no q] at k
    walk_at "dd"
    exact k
  | true =>
    rw [yes q] at k
    cases hx with
    | lst l =>
      walk_at "dd"
      rw [if_neg Bool.false_ne_true, e]
      exact k
    | tup l =>
      walk_at "dd"
      rw [if_neg Bool.false_ne_true, e]
      exact k
    | _ => cases q
def isN (n : Nat) (x : D) : Bool := isR n x && (seqOf x).all isI
def AllPl (x : D) : Prop := ∀ d ∈ seqOf x, ∃ n, Pl d n
def sdNumX : SpD := fun as Q _ => ∃ (x : D) (t : String) (n : Nat), as = [.d x, .d (.int n)] ∧ Pl x t ∧ AllPl x ∧ n ≤ 1000 ∧ Q (.d (.bl (isN n x))) []
abbrev s_is_number_row : Stmt := top 19
theorem sc_is_number_row : FnScope ["thing", "length", "number"] ["thing", "length"] (defScope s_is_number_row) := ⟨rfl, rfl, rfl, by decide +kernel, rfl, by decide +kernel, by decide +kernel⟩
theorem ok_numX (D_is_row : DefD P w K mg base "is_row" 3 ["thing", "length"] sdRowX) (D_is_integer : DefD P w K mg base "is_integer" 1 ["thing"] sdIntX) {f : Addr} {fd : FuncData} (G : Fun K "is_number_row" "is_number_row" s_is_number_row f fd) (T : TxtN mg) : FnOk P w K mg base (L2.CX P w) 5 f fd ["thing", "length"] (spOf K sdNumX) := by
  refine okD G sc_is_number_row [] (fun as Q E ⟨xs, y, n, e, _⟩ => by subst e; exact ⟨rfl, rfl⟩) ⟨_, fun cdv A outer s H E ad F0 H0 hr => (pds_one (psd_ret (pd_and (pd_call D_is_row.ok (hr.mono (by decide)) (by rfl) D_is_row.mg D_is_row.kp D_is_row.b (takes_of rfl rfl rfl rfl) (pda_cons (pd_var (pv 0)) (pda_cons (pd_var (pv 1)) pda_nil))) (pd_one (pd_builtB (fun h => pe_callB (cr_all rfl) (by rfl) T.b_all (by decide +kernel) h) cn_all.op (pda_cons (pd_lc (own := [("number", 2)]) (by rfl) sc_is_number_row.nd (pid_seq (pd_var (pv 0))) (blkOk_by (own := [("number", 2)]) (N := ["thing", "length", "number"]) (sc := defScope s_is_number_row) (by decide +kernel)) (fun _ _ _ _ _ => (pgd_name (i := 2) (vs := [2]) (pg_name (i := 2) sc_is_number_row.nd rfl (.inl rfl)) (by show ¬ (2 ∈ ([] : List Nat)); decide) (by decide))) (fun _ _ _ _ _ => ptsd_nil) (fun _ _ _ _ _ => (pd_call D_is_integer.ok (hr.mono (by decide)) (by rfl) D_is_integer.mg D_is_integer.kp D_is_integer.b takes0 (pda_cons (pd_var (pv 2)) pda_nil))) (by show ∀ i ∈ ([2] : List Nat), ¬ (i ∈ ([] : List Nat)); decide)) pda_nil)))))), ?_⟩
  rintro as Qd Ed ⟨x, t, n, rfl, hx, ha, hn, k⟩
  refine DR.start (δ' := [some (.d x), some (.d (.int n)), none]) rfl ?_
  walk_at "dd"
  refine ⟨x, t, n, rfl, hx, hn, ?_⟩
  cases q : isR n x with
  | false =>
    rw [show isN n x = false by unfold isN; rw [q]; rfl] at k
    walk_at "dd"
    exact k
  | true =>
    rw [show isN n x = (seqOf x).all isI by unfold isN; rw [q]; rfl] at k
    have hlen : (seqOf x).length = n := by
      unfold isR at q
      rw [Bool.and_eq_true] at q
      exact of_decide_eq_true q.2
    walk_at "dd"
    have ea : ∀ l : List D, (l.map isI).all id = l.all isI := fun l => by rw [List.all_map]; rfl
    cases hx with
    | lst l =>
      refine DR.seqL ?_
      walk_at "dd"
      refine DR.lc_map (fun d => D.bl (isI d)) (fun d acc N hd hl kN => ?_) ?_
      · obtain ⟨m, hm⟩ := ha d hd
        walk_at "dd"
        refine ⟨d, m, rfl, hm, ?_⟩
        exact ⟨Nat.lt_of_lt_of_le hl (Nat.le_trans (Nat.le_of_eq hlen) (Nat.le_trans hn (by decide))), kN⟩
      walk_at "dd"
      refine ⟨l.map isI, .inl (by rw [List.map_map]; rfl), ?_⟩
      dsimp only
      rw [ea]
      walk_at "dd"
      exact k
    | tup l =>
      refine DR.seqT ?_
      walk_at "dd"
      refine DR.lc_map (fun d => D.bl (isI d)) (fun d acc N hd hl kN => ?_) ?_
      · obtain ⟨m, hm⟩ := ha d hd
        walk_at "dd"
        refine ⟨d, m, rfl, hm, ?_⟩
        exact ⟨Nat.lt_of_lt_of_le hl (Nat.le_trans (Nat.le_of_eq hlen) (Nat.le_trans hn (by decide))), kN⟩
      walk_at "dd"
      refine ⟨l.map isI, .inl (by rw [List.map_map]; rfl), ?_⟩
      dsimp only
      rw [ea]
      walk_at "dd"
      exact k
    | _ => unfold isR at q; cases q
/-! ### names -/
def sdNameX : SpD := fun as Q _ => ∃ (x : D) (n : String), as = [.d x] ∧ Pl x n ∧ (∀ z, x = .str z → z.length ≤ 1000) ∧ Q (.d (.bl (nmD x))) []
theorem ok_nameX {f : Addr} {fd : FuncData} (G : Fun K "is_name" "is_name" s_is_name f fd) (T : TxtN mg) : FnOk P w K mg base (L2.CX P w) 1 f fd ["thing"] (spOf K sdNameX) := by
  obtain ⟨_, k__LETTERS⟩ := T.k__LETTERS
  obtain ⟨_, k__LONGEST_NAME⟩ := T.k__LONGEST_NAME
  refine okD G sc_is_name [] (fun as Q E ⟨xs, n, e, _⟩ => by subst e; exact ⟨rfl, rfl⟩) ⟨_, fun cdv A outer s H E ad F0 H0 hr => (pds_cons (psd_if (PW.pt (pwd_or (ptd_not (ptd_val (pd_builtB (fun h => pe_callB call_isi (by rfl) T.b_isinstance (by decide +kernel) h) (cn_isi (K := K)).op (pda_cons (pd_var (pv 0)) (pda_cons (pd_const (pe_bltn (v := .ty "str") (by rfl) T.b_str (by decide +kernel) rfl) (fun _ => .ty _)) pda_nil))) (fun h => pt_val h))) (pwd_or1 (ptd_not (ptd_chain op_le (op2_I0 fun _ _ _ => .bl _) op_le (op2_I0 fun _ _ _ => .bl _) (pd_const pe_int (fun _ => .int _)) (pd_builtB (fun h => pe_callB call_len_str (by rfl) T.b_len (by decide +kernel) h) cn_lenS.op (pda_cons (pd_var (pv 0)) pda_nil)) (pd_const (pe_glob (v := (.int 12)) rfl k__LONGEST_NAME ⟨_, rfl⟩) (fun _ => .int _)) (by with_unfolding_all rfl)))))) (pds_one (psd_ret (pd_const pe_bl (fun _ => .bl _)))) pds_nil)
      (pds_one (psd_ret (pd_builtB (fun h => pe_callB (cr_all rfl) (by rfl) T.b_all (by decide +kernel) h) cn_all.op (pda_cons (pd_lc (own := [("letter", 1)]) (by rfl) sc_is_name.nd (pid_str (pd_var (pv 0))) (blkOk_by (own := [("letter", 1)]) (N := ["thing", "letter"]) (sc := defScope s_is_name) (by decide +kernel)) (fun _ _ _ _ _ => (pgd_name (i := 1) (vs := [1]) (pg_name (i := 1) sc_is_name.nd rfl (.inl rfl)) (by show ¬ (1 ∈ ([] : List Nat)); decide) (by decide))) (fun _ _ _ _ _ => ptsd_nil) (fun _ _ _ _ _ => (pd_cmp op_in_sign op2_inSign.op (pd_var (pv 1)) (pd_const (pe_glob (v := (.str "abcdefghijklmnopqrstuvwxyz")) rfl k__LETTERS ⟨_, rfl⟩) (fun _ => .str (by decide +kernel))) rfl)) (by show ∀ i ∈ ([1] : List Nat), ¬ (i ∈ ([] : List Nat)); decide)) pda_nil))))), ?_⟩
  rintro as Qd Ed ⟨x, n, rfl, hx, hz, k⟩
  refine DR.start (δ' := [some (.d x), none]) rfl ?_
  walk_at "dd"
  cases hx with
  | str g =>
    have hz := hz g rfl
    refine ⟨_, _, _, _, true, rfl, .ty _, .str _, kit_self, ?_⟩
    walk_at "dd"
    refine ⟨Nat.le_trans hz (by decide), ?_⟩
    walk_at "dd"
    by_cases c1 : 1 ≤ g.length
    · rw [show decide (1 ≤ (g.length : Int)) = true from decide_eq_true (by omega)]
      walk_at "dd"
      by_cases c2 : g.length ≤ 12
      · rw [show decide ((g.length : Int) ≤ 12) = true from decide_eq_true (by omega)]
        walk_at "dd"
        refine DR.lc_mapM (fun c => D.bl (decide (c ∈ (Str.ofString "abcdefghijklmnopqrstuvwxyz").cps.toList))) (fun ch acc N hc hl kN => ?_) ?_
        · walk_at "dd"
          refine ⟨Nat.lt_of_lt_of_le hl (Nat.le_trans (show g.cps.toList.length ≤ 1000 by rw [Array.length_toList]; exact hz) (by decide)), ?_⟩
          rw [if_neg Bool.false_ne_true]
          exact kN
        · walk_at "dd"
          refine ⟨g.cps.toList.map fun c => decide (c ∈ (Str.ofString "abcdefghijklmnopqrstuvwxyz").cps.toList), .inl (by rw [List.map_map]; rfl), ?_⟩
          walk_at "dd"
          rw [show nmD (.str g) = low g by show nmB g = _; unfold nmB; rw [decide_eq_true c1, decide_eq_true c2]; rfl] at k
          dsimp only
          rw [List.all_map]
          exact k
      · rw [show decide ((g.length : Int) ≤ 12) = false from decide_eq_false (by omega)]
        walk_at "dd"
        rw [show nmD (.str g) = false by show nmB g = _; unfold nmB; rw [decide_eq_false c2, Bool.and_false]; rfl] at k
        exact k
    · rw [show decide (1 ≤ (g.length : Int)) = false from decide_eq_false (by omega)]
      walk_at "dd"
      rw [show nmD (.str g) = false by show nmB g = _; unfold nmB; rw [decide_eq_false c1]; rfl] at k
      exact k
  | non =>
    refine ⟨_, _, _, _, false, rfl, .ty _, .non, by rfl, ?_⟩
    walk_at "dd"
    exact k
  | bl b =>
    refine ⟨_, _, _, _, false, rfl, .ty _, .bl _, by rfl, ?_⟩
    walk_at "dd"
    exact k
  | int i =>
    refine ⟨_, _, _, _, false, rfl, .ty _, .int _, by rfl, ?_⟩
    walk_at "dd"
    exact k
  | lst l =>
    refine ⟨_, _, _, _, false, rfl, .ty _, .lst _, by rfl, ?_⟩
    walk_at "dd"
    exact k
  | tup l =>
    refine ⟨_, _, _, _, false, rfl, .ty _, .tup _, by rfl, ?_⟩
    walk_at "dd"
    exact k
/-! ### goods -/
theorem any_str {s : Str} : ∀ {ns : List Str}, ((pyL (ns.map D.str)).any fun z => PyData.eqv z (D.str s).py) = decide (s ∈ ns)
  | [] => by simp [pyL]
  | a :: ns => by
    rw [List.map_cons]
    simp only [pyL, List.any_cons]
    rw [any_str, eqv_str]
    by_cases e : a = s
    · simp [e]
    · simp [e, Ne.symm e]
def txs (ds : List D) : List Str := ds.filterMap fun d => match d with
  | .str z => some z
  | _ => none
theorem txs_map {ds : List D} (h : ds.all nmD = true) : ds = (txs ds).map .str := by
  induction ds with
  | nil => rfl
  | cons d ds ih =>
    rw [List.all_cons, Bool.and_eq_true] at h
    cases d with
    | str z =>
      show _ = D.str z :: (txs ds).map .str
      rw [← ih h.2]
    | _ => exact absurd h.1 (by simp [nmD])
/-- what is wrong with goods, by the words in their order -/
def goodsW (x : D) : Option Str :=
  if isS x = false ∨ (seqOf x).length < 1 ∨ 5 < (seqOf x).length then some "goods"
  else if (seqOf x).all nmD = false then some "name"
  else if cash ∈ txs (seqOf x) then some "cash"
  else if (txs (seqOf x)).Nodup then none else some "double"
def FewT (x : D) : Prop := ∀ d ∈ seqOf x, ∀ z, d = .str z → z.length ≤ 1000
theorem low_ok {z : Str} (h : low z = true) : ∀ c ∈ z.cps.toList, 97 ≤ c ∧ c ≤ 122 := fun c hc => by
  have q := of_decide_eq_true (List.all_eq_true.mp h c hc)
  have e : ∀ c ∈ (Str.ofString "abcdefghijklmnopqrstuvwxyz").cps.toList, 97 ≤ c ∧ c ≤ 122 := by decide +kernel
  exact e c q
theorem nmB_nm {z : Str} (h : nmB z = true) (hc : z ≠ cash) : Nm z := by
  unfold nmB at h
  rw [Bool.and_eq_true, Bool.and_eq_true] at h
  exact ⟨hc, of_decide_eq_true h.1.1, of_decide_eq_true h.1.2, low_ok h.2⟩
theorem nm_nmB {z : Str} (h : Nm z) : nmB z = true := by
  obtain ⟨_, h1, h2, h3⟩ := h
  unfold nmB low
  rw [decide_eq_true h1, decide_eq_true h2, Bool.true_and, Bool.true_and]
  exact List.all_eq_true.mpr fun c hc => decide_eq_true (in_abz (h3 c hc))
theorem txs_str {gs : List Str} : txs (gs.map .str) = gs := by
  induction gs with
  | nil => rfl
  | cons g gs ih => exact congrArg (g :: ·) ih
/-- right goods -/
theorem goodsW_none {x : D} (h : goodsW x = none) : ∃ gs, RowOf x (gs.map .str) ∧ Goods gs := by
  unfold goodsW at h
  split at h
  · cases h
  · rename_i h1
    split at h
    · cases h
    · rename_i h2
      split at h
      · cases h
      · rename_i h3
        split at h
        · rename_i h4
          have ha : (seqOf x).all nmD = true := by simpa using h2
          refine ⟨txs (seqOf x), ?_, h4, ?_, ?_, fun g hg => ?_⟩
          · rw [← txs_map ha]
            cases x <;> first | exact .inl rfl | exact .inr rfl | (exact absurd (.inl rfl) h1)
          · have := congrArg List.length (txs_map ha); rw [List.length_map] at this; omega
          · have := congrArg List.length (txs_map ha); rw [List.length_map] at this; omega
          · have hm : D.str g ∈ seqOf x := by rw [txs_map ha]; exact List.mem_map_of_mem hg
            exact nmB_nm (List.all_eq_true.mp ha _ hm) fun e => h3 (e ▸ hg)
        · cases h
theorem goodsW_ok {x : D} {gs : List Str} (hx : RowOf x (gs.map .str)) (hg : Goods gs) : goodsW x = none := by
  have e : seqOf x = gs.map .str := by rcases hx with rfl | rfl <;> rfl
  have s : isS x = true := by rcases hx with rfl | rfl <;> rfl
  unfold goodsW
  rw [e, txs_str, s, List.length_map]
  have h1 := hg.2.1
  have h2 := hg.2.2.1
  have n1 : ¬ (true = false ∨ gs.length < 1 ∨ 5 < gs.length) := by rintro (h | h | h); cases h; omega; omega
  have n2 : ¬ ((gs.map D.str).all nmD = false) := by
    simp only [Bool.not_eq_false]
    exact List.all_eq_true.mpr fun d hd => by obtain ⟨g, h, rfl⟩ := List.mem_map.mp hd; exact nm_nmB (hg.2.2.2 g h)
  have n3 : ¬ cash ∈ gs := fun h => (hg.2.2.2 _ h).1 rfl
  rw [if_neg n1, if_neg n2, if_neg n3, if_pos hg.1]
def sdGoodsX (BG : Addr) : SpD := fun as Q E => ∃ (x : D) (n : String), as = [.d x] ∧ Pl x n ∧ AllPl x ∧ FewT x ∧ (seqOf x).length ≤ 1000 ∧ (∀ gs, RowOf x (gs.map .str) → Goods gs → Q (.d (.tup (gs.map .str))) []) ∧ (∀ v, goodsW x = some v → E ⟨BG, some [("what", .str v)]⟩ [])
theorem ok_goodsX (X_BadGoods : DefX P w K mg base "BadGoods" BG ["what"]) (D_is_sequence : DefD P w K mg base "is_sequence" 1 ["thing"] sdSeqX) (D_is_name : DefD P w K mg base "is_name" 1 ["thing"] sdNameX) {f : Addr} {fd : FuncData} (G : Fun K "checked_goods" "checked_goods" s_checked_goods f fd) (T : TxtN mg) : FnOk P w K mg base (L2.CX P w) 3 f fd ["goods"] (spOf K (sdGoodsX BG)) := by
  obtain ⟨_, k__CASH⟩ := T.k__CASH
  obtain ⟨_, k__MOST_GOODS⟩ := T.k__MOST_GOODS
  refine okD G sc_checked_goods [] (fun as Q E ⟨xs, y, e, _⟩ => by subst e; exact ⟨rfl, rfl⟩) ⟨_, fun cdv A outer s H E ad F0 H0 hr => (pds_cons (psd_if (PW.pt (pwd_or (ptd_not (ptd_val (pd_call D_is_sequence.ok (hr.mono (by decide)) (by rfl) D_is_sequence.mg D_is_sequence.kp D_is_sequence.b (takes_of rfl rfl rfl rfl) (pda_cons (pd_var (pv 0)) pda_nil)) (fun h => pt_val h))) (pwd_or1 (ptd_not (ptd_chain op_le (op2_I0 fun _ _ _ => .bl _) op_le (op2_I0 fun _ _ _ => .bl _) (pd_const pe_int (fun _ => .int _)) (pd_builtB (fun h => pe_callB call_len_seq (by rfl) T.b_len (by decide +kernel) h) cn_len.op (pda_cons (pd_var (pv 0)) pda_nil)) (pd_const (pe_glob (v := (.int 5)) rfl k__MOST_GOODS ⟨_, rfl⟩) (fun _ => .int _)) (by with_unfolding_all rfl)))))) (pds_one (psd_raiseR rfl (takes_of rfl rfl rfl rfl) (fun h => pmk_oex X_BadGoods.ox X_BadGoods.ini X_BadGoods.ty X_BadGoods.ok (hr.mono (by decide)) X_BadGoods.b .nil pass0 (by rfl) X_BadGoods.mg h) (pda_cons (pd_const pe_str (fun _ => .str (by decide +kernel))) pda_nil))) pds_nil)
      (pds_cons (psd_set (i := 1) (pd_builtB (fun h => pe_callTy call_tuple_of (by rfl) T.b_tuple (by decide +kernel) h) cn_tuple (pda_cons (pd_var (pv 0)) pda_nil)) (by show ¬ (1 ∈ ([] : List Nat)); decide) sc_checked_goods.nd rfl (.inl rfl))
      (pds_cons (psd_if (ptd_not (ptd_val (pd_builtB (fun h => pe_callB (cr_all rfl) (by rfl) T.b_all (by decide +kernel) h) cn_all.op (pda_cons (pd_lc (own := [("good", 2)]) (by rfl) sc_checked_goods.nd (pid_tup (pd_var (pv 1))) (blkOk_by (own := [("good", 2)]) (N := ["goods", "told", "good"]) (sc := defScope s_checked_goods) (by decide +kernel)) (fun _ _ _ _ _ => (pgd_name (i := 2) (vs := [2]) (pg_name (i := 2) sc_checked_goods.nd rfl (.inl rfl)) (by show ¬ (2 ∈ ([] : List Nat)); decide) (by decide))) (fun _ _ _ _ _ => ptsd_nil) (fun _ _ _ _ _ => (pd_call D_is_name.ok (hr.mono (by decide)) (by rfl) D_is_name.mg D_is_name.kp D_is_name.b takes0 (pda_cons (pd_var (pv 2)) pda_nil))) (by show ∀ i ∈ ([2] : List Nat), ¬ (i ∈ ([] : List Nat)); decide)) pda_nil)) (fun h => pt_val h))) (pds_one (psd_raiseR rfl (takes_of rfl rfl rfl rfl) (fun h => pmk_oex X_BadGoods.ox X_BadGoods.ini X_BadGoods.ty X_BadGoods.ok (hr.mono (by decide)) X_BadGoods.b .nil pass0 (by rfl) X_BadGoods.mg h) (pda_cons (pd_const pe_str (fun _ => .str (by decide +kernel))) pda_nil))) pds_nil)
      (pds_cons (psd_if (ptd_cmp (op_inT (units65 hr)) (op2_inT false).op (pd_const (pe_glob (v := (.str "cash")) rfl k__CASH ⟨_, rfl⟩) (fun _ => .str (by decide +kernel))) (pd_var (pv 1)) rfl) (pds_one (psd_raiseR rfl (takes_of rfl rfl rfl rfl) (fun h => pmk_oex X_BadGoods.ox X_BadGoods.ini X_BadGoods.ty X_BadGoods.ok (hr.mono (by decide)) X_BadGoods.b .nil pass0 (by rfl) X_BadGoods.mg h) (pda_cons (pd_const pe_str (fun _ => .str (by decide +kernel))) pda_nil))) pds_nil)
      (pds_cons (psd_if (ptd_cmp op_lt (op2_I0 fun _ _ _ => .bl _) (pd_lenSet (fun h => RS.pe_lenSetT rfl (by rfl) T.b_len (by rfl) T.b_set h) (pd_var (pv 1))) (pd_builtB (fun h => pe_callB call_len_seq (by rfl) T.b_len (by decide +kernel) h) cn_len.op (pda_cons (pd_var (pv 1)) pda_nil)) (nomark _)) (pds_one (psd_raiseR rfl (takes_of rfl rfl rfl rfl) (fun h => pmk_oex X_BadGoods.ox X_BadGoods.ini X_BadGoods.ty X_BadGoods.ok (hr.mono (by decide)) X_BadGoods.b .nil pass0 (by rfl) X_BadGoods.mg h) (pda_cons (pd_const pe_str (fun _ => .str (by decide +kernel))) pda_nil))) pds_nil)
      (pds_one (psd_ret (pd_var (pv 1))))))))), ?_⟩
  rintro as Qd Ed ⟨x, n, rfl, hx, ha, hf, hl, k1, k2⟩
  refine DR.start (δ' := [some (.d x), none, none]) rfl ?_
  with_reducible refine DR.cut (fun δ => δ = [some (.d x), none, none] ∧ isS x = true ∧ 1 ≤ (seqOf x).length ∧ (seqOf x).length ≤ 5) (fun N kN => ?_) ?_
  · walk_at "dd"
    refine ⟨x, n, rfl, hx, ?_⟩
    cases q : isS x with
    | false =>
      walk_at "dd"
      exact ⟨rfl, by show 1 ≤ 1000; decide, _, rfl, k2 "goods" (by unfold goodsW; rw [if_pos (.inl q)])⟩
    | true =>
      have step : ∀ y : D, y = x → (y = .lst (seqOf x) ∨ y = .tup (seqOf x)) → True := fun _ _ _ => trivial
      have hz : (seqOf x).length ≤ sizeLine := Nat.le_trans hl (by decide)
      cases hx with
      | lst l =>
        walk_at "dd"
        by_cases c1 : 1 ≤ l.length
        · rw [show decide (1 ≤ (l.length : Int)) = true from decide_eq_true (by omega)]
          walk_at "dd"
          by_cases c2 : l.length ≤ 5
          · rw [show decide ((l.length : Int) ≤ 5) = true from decide_eq_true (by omega)]
            walk_at "dd"
            exact kN _ ⟨rfl, q, c1, c2⟩
          · rw [show decide ((l.length : Int) ≤ 5) = false from decide_eq_false (by omega)]
            walk_at "dd"
            exact ⟨rfl, by show 1 ≤ 1000; decide, _, rfl, k2 "goods" (by unfold goodsW; rw [if_pos (.inr (.inr (by show 5 < l.length; omega)))])⟩
        · rw [show decide (1 ≤ (l.length : Int)) = false from decide_eq_false (by omega)]
          walk_at "dd"
          exact ⟨rfl, by show 1 ≤ 1000; decide, _, rfl, k2 "goods" (by unfold goodsW; rw [if_pos (.inr (.inl (by show l.length < 1; omega)))])⟩
      | tup l =>
        walk_at "dd"
        by_cases c1 : 1 ≤ l.length
        · rw [show decide (1 ≤ (l.length : Int)) = true from decide_eq_true (by omega)]
          walk_at "dd"
          by_cases c2 : l.length ≤ 5
          · rw [show decide ((l.length : Int) ≤ 5) = true from decide_eq_true (by omega)]
            walk_at "dd"
            exact kN _ ⟨rfl, q, c1, c2⟩
          · rw [show decide ((l.length : Int) ≤ 5) = false from decide_eq_false (by omega)]
            walk_at "dd"
            exact ⟨rfl, by show 1 ≤ 1000; decide, _, rfl, k2 "goods" (by unfold goodsW; rw [if_pos (.inr (.inr (by show 5 < l.length; omega)))])⟩
        · rw [show decide (1 ≤ (l.length : Int)) = false from decide_eq_false (by omega)]
          walk_at "dd"
          exact ⟨rfl, by show 1 ≤ 1000; decide, _, rfl, k2 "goods" (by unfold goodsW; rw [if_pos (.inr (.inl (by show l.length < 1; omega)))])⟩
      | _ => cases q
  rintro δ ⟨rfl, q, c1, c2⟩
  with_reducible refine DR.cut (fun δ => δ = [some (.d x), some (.d (.tup (seqOf x))), none]) (fun N kN => ?_) ?_
  · walk_at "dd"
    cases hx with
    | lst l => exact ⟨_, _, rfl, .inl rfl, by walk_at "dd"; exact kN _ rfl⟩
    | tup l => exact ⟨_, _, rfl, .inr (.inr rfl), by walk_at "dd"; exact kN _ rfl⟩
    | _ => cases q
  rintro δ rfl
  walk_at "dd"
  refine DR.lc_map (fun d => D.bl (nmD d)) (fun d acc N hd hl kN => ?_) ?_
  · obtain ⟨m, hm⟩ := ha d hd
    walk_at "dd"
    refine ⟨d, m, rfl, hm, hf d hd, ?_⟩
    exact ⟨Nat.lt_of_lt_of_le hl (Nat.le_trans c2 (by decide)), kN⟩
  walk_at "dd"
  refine ⟨(seqOf x).map nmD, .inl (by rw [List.map_map]; rfl), ?_⟩
  dsimp only
  rw [List.all_map]
  have n1 : ¬ (isS x = false ∨ (seqOf x).length < 1 ∨ 5 < (seqOf x).length) := by rintro (h | h | h); (rw [q] at h; cases h); omega; omega
  cases hn : (seqOf x).all nmD with
  | false =>
    rw [show (seqOf x).all (id ∘ nmD) = false from hn]
    walk_at "dd"
    exact ⟨rfl, by show 1 ≤ 1000; decide, _, rfl, k2 "name" (by unfold goodsW; rw [if_neg n1, if_pos hn])⟩
  | true =>
    rw [show (seqOf x).all (id ∘ nmD) = true from hn]
    have n2 : ¬ ((seqOf x).all nmD = false) := by rw [hn]; exact Bool.noConfusion
    have em := txs_map hn
    have hlen : (txs (seqOf x)).length = (seqOf x).length := by have := congrArg List.length em; rw [List.length_map] at this; omega
    rw [em]
    walk_at "dd"
    refine ⟨_, .inr rfl, dp_str.cmp, (dp_strs _).cmp, ?_⟩
    rw [if_neg Bool.false_ne_true, show ((pyL ((txs (seqOf x)).map D.str)).any fun z => PyData.eqv z (DV.d (D.str "cash")).toD.py) = decide (cash ∈ txs (seqOf x)) from any_str]
    refine ⟨DR.nost_b, _, rfl, ?_⟩
    refine DR.split (fun c => ?_) (fun c => ?_)
    · walk_at "dd"
      exact ⟨rfl, by show 1 ≤ 1000; decide, _, rfl, k2 "cash" (by unfold goodsW; rw [if_neg n1, if_neg n2, if_pos c])⟩
    · walk_at "dd"
      refine ⟨by omega, ?_⟩
      walk_at "dd"
      refine DR.split (fun c2 => ?_) (fun c2 => ?_)
      · rw [List.length_map] at c2
        have nd := (RS.uniq_lt (txs (seqOf x))).mp (by omega)
        walk_at "dd"
        exact ⟨rfl, by show 1 ≤ 1000; decide, _, rfl, k2 "double" (by unfold goodsW; rw [if_neg n1, if_neg n2, if_neg c, if_neg nd])⟩
      · rw [List.length_map] at c2
        have nd : (txs (seqOf x)).Nodup := Decidable.byContradiction fun h => c2 (by have := (RS.uniq_lt (txs (seqOf x))).mpr h; omega)
        walk_at "dd"
        obtain ⟨gs, hr, hg⟩ := goodsW_none (x := x) (by unfold goodsW; rw [if_neg n1, if_neg n2, if_neg c, if_pos nd])
        have e2 : txs (seqOf x) = gs := by rcases hr with rfl | rfl <;> exact txs_str
        rw [e2]
        exact k1 gs hr hg
end
end KT

set_option Elab.async false
set_option linter.all false
set_option maxRecDepth 100000
set_option maxHeartbeats 0
set_option pp.deepTerms false
set_option pp.deepTerms.threshold 8


namespace KT
open PySem PySem.Spec PyProof.Rows L2 DL
/-- what may be asked for as an asset -/
inductive Ask : D → Prop
  | str (s : Str) : Ask (.str s)
  | non : Ask .non
  | int (i : Int) : Ask (.int i)
  | lst (l : List Str) : Ask (.lst (l.map .str))
theorem Ask.cmp {x : D} (h : Ask x) : Cmp x := by
  cases h with
  | str s => exact (dp_str).cmp
  | non => exact dp_non.cmp
  | int i => exact dp_int.cmp
  | lst l => exact (dp_lst (dp_map fun r _ => dp_str)).cmp
/-- is it one of these names -/
def known (ns : List Str) (x : D) : Bool := match x with
  | .str s => decide (s ∈ ns)
  | _ => false
theorem any_known {x : D} (h : Ask x) : ∀ {ns : List Str}, ((pyL (ns.map D.str)).any fun z => PyData.eqv z x.py) = known ns x
  | [] => by cases h <;> simp [pyL, known]
  | a :: ns => by
    rw [List.map_cons]
    simp only [pyL, List.any_cons]
    rw [any_known h]
    cases h with
    | str s =>
      rw [eqv_str]
      unfold known
      by_cases e : a = s
      · simp [e]
      · simp [e, Ne.symm e]
    | non => simp [known, D.py, PyData.eqv]
    | int i => simp [known, D.py, PyData.eqv]
    | lst l => simp [known, D.py, PyData.eqv]
theorem known_ex {ns : List Str} {x : D} (h : known ns x = true) : ∃ a, x = .str a ∧ a ∈ ns := by
  cases x <;> first | exact ⟨_, rfl, of_decide_eq_true h⟩ | (cases h)
section
variable {P : Program} {w : World} {K : PySem.W.Frag} {mg : Str → Option Value} {base : Heap} {NA : Addr}
def sdCheckX (NA : Addr) : SpD := fun as Q E => ∃ (ns : List Str) (x : D), as = [.d (.tup (ns.map .str)), .d x] ∧ Ask x ∧ (known ns x = true → Q (.d .non) []) ∧ (known ns x = false → E ⟨NA, some [("name", x)]⟩ [])
theorem ok_checkX (X_NoAsset : DefX P w K mg base "NoAsset" NA ["name"]) {f : Addr} {fd : FuncData} (G : Fun K "check_asset" "check_asset" s_check_asset f fd) (T : TxtN mg) : FnOk P w K mg base (L2.CX P w) 3 f fd ["known", "thing"] (spOf K (sdCheckX NA)) := by
  refine okD G sc_check_asset [] (fun as Q E ⟨ns, a, e, _⟩ => by subst e; exact ⟨rfl, rfl⟩) ⟨_, fun cdv A outer s H E ad F0 H0 hr => (pds_one (psd_if (ptd_cmp (op_notInT (units65 hr)) (op2_inT true).op (pd_var (pv 1)) (pd_var (pv 0)) rfl) (pds_one (psd_raiseR rfl (takes_of rfl rfl rfl rfl) (fun h => pmk_oex X_NoAsset.ox X_NoAsset.ini X_NoAsset.ty X_NoAsset.ok (hr.mono (by decide)) X_NoAsset.b .nil pass0 (by rfl) X_NoAsset.mg h) (pda_cons (pd_var (pv 1)) pda_nil))) pds_nil)), ?_⟩
  rintro as Qd Ed ⟨ns, x, rfl, ax, k1, k2⟩
  refine DR.start (δ' := [some (.d (.tup (ns.map .str))), some (.d x)]) rfl ?_
  walk_at "dd"
  refine ⟨_, .inr rfl, ax.cmp, (dp_strs ns).cmp, ?_⟩
  rw [if_pos rfl, show ((pyL (ns.map D.str)).any fun z => PyData.eqv z (DV.d x).toD.py) = known ns x from any_known ax]
  walk_at "dd"
  cases c : known ns x with
  | true =>
    walk_at "dd"
    exact k1 c
  | false =>
    walk_at "dd"
    exact ⟨rfl, by show 1 ≤ 1000; decide, _, rfl, k2 c⟩
end
end KT

set_option Elab.async false
set_option linter.all false
set_option maxRecDepth 100000
set_option maxHeartbeats 0
set_option pp.deepTerms false
set_option pp.deepTerms.threshold 8

namespace KT
open PySem PySem.Spec PyProof.Rows L2 DL
open Dst (IsDist Walk)
theorem at_0 {α : Type} {x : α} {l : List α} : atI (x :: l) 0 = some x := by
  unfold atI ixN
  rw [if_pos (Int.le_refl 0), if_pos (by rw [List.length_cons]; omega)]
  rfl
theorem at_of {l : List D} {r : Int} {Pp : D → Prop} (h0 : 0 ≤ r) (h1 : r < l.length) (h : ∀ d ∈ l, Pp d) : ∃ d, atI l r = some d ∧ Pp d := by
  have hl : r.toNat < l.length := by omega
  refine ⟨l[r.toNat], ?_, h _ (List.getElem_mem hl)⟩
  have := atI_map (f := fun x : D => x) (List.getElem?_eq_getElem hl)
  rwa [Int.toNat_of_nonneg h0, List.map_id'] at this
section
variable {δ : DSt} {Q : DK} {E : XD}
theorem slg {rd : RDS} {t : TD} {tl th : TDO} (h : t δ (fun x δ1 => tl δ1 (fun l δ2 => th δ2 (fun h δ3 => rd x.toD l h fun z => Q z δ3) E) E) E) : sliceD rd t tl th δ Q E := h
theorem nO {Q : Option Int → DSt → Prop} (h : Q none δ) : noneO δ Q E := h
theorem sO {t : TD} {Q : Option Int → DSt → Prop} (h : t δ (fun x δ1 => ∃ i, x.toD = .int i ∧ Q (some i) δ1) E) : someO t δ Q E := h
end
theorem scut {t : TDS} {D : EndsD} {δ : DSt} (I : DSt → Prop) (h1 : ∀ N : DSt → Prop, (∀ δ, I δ → N δ) → t { D with nx := N } δ) (h2 : ∀ δ, I δ → D.nx δ) : t D δ := h1 D.nx h2
theorem gr_len {gs : List Str} {rs : List Row} (hg : Goods gs) (hr : GoodRows (cash :: gs) rs) : rs.length ≤ 100 := by
  have h : (rs.map ends).length ≤ (prs (cash :: gs)).length := by
    refine List.Nodup.length_le_of_subset hr.nd fun p hp => ?_
    obtain ⟨r, h, rfl⟩ := List.mem_map.mp hp
    have q := hr.row r h
    exact prs_mem.mpr ⟨q.1, q.2.1, q.2.2.1⟩
  rw [List.length_map] at h
  exact Nat.le_trans h (prs_len (goods_len hg))
/-- a table of these rows -/
theorem new_tabX {C : Addr} {gs : List Str} {rs : List Row} {x y : D} {cap : Int} {Q : DV → List OC → Prop} {E : Ex → List OC → Prop} (hx : RowOf x (gs.map .str)) (hy : RowOf y (rs.map rowD)) (hg : Goods gs) (hl : rs.length ≤ 200) (hr : FineRows (cash :: gs) rs) (hc : ∀ r ∈ rs, r.2.2 ≤ cap) (k : ∀ fs e, Tb C gs rs e (.obj C fs) → List.lookup ("rows" : Str) fs = some (D.tup (rs.map rowD)) → Q (.d .non) [.ins C fs]) : sdInit C [.own (.ins C []), .d x, .d y, .d (.int cap)] Q E :=
  ⟨gs, rs, _, _, _, rfl, hx, hy, hg, hl, hr, hc, fun kvs f hd hi => by
    obtain ⟨e, he, hfe⟩ := IsDist.ent hr hi
    exact k _ e ⟨kvs, f, rfl, hg, hr, hl, hd, hi, he, hfe⟩ rfl⟩
/-- entries of rows of at most m -/
theorem walk_max {rs : List Row} {m : Int} (hm : 0 ≤ m) (h : ∀ r ∈ rs, r.2.2 ≤ m) {n : Nat} {a b : Str} {s : Int} (w : Walk rs n a b s) : s ≤ n * m := by
  induction w with
  | nil => exact Int.mul_nonneg (by omega) hm
  | @cons n a c b x s hr w ih =>
    have := h _ hr
    simp only at this
    rw [show ((n + 1 : Nat) : Int) * m = n * m + m by rw [Int.natCast_add, Int.add_mul]; simp]
    omega
theorem ent_max {ns : List Str} {rs : List Row} {e : En} {m : Int} (hm : 0 ≤ m) (h : FineRows ns rs) (t : Ent ns rs e) (hr : ∀ r ∈ rs, r.2.2 ≤ m) {a b : Str} (ha : a ∈ ns) (hb : b ∈ ns) : e a b ≤ ns.length * m := by
  obtain ⟨n, s, w⟩ := h.all a b ha hb
  obtain ⟨s', hs, w'⟩ := w.short (fun r hr => ⟨(h.row r hr).1, (h.row r hr).2.1⟩) (fun r hr => (h.row r hr).2.2.2) ha
  exact Int.le_trans (t.low a b _ _ ha hb w') (walk_max hm hr w')
theorem at_in {ns : List Str} {r : Int} (h0 : 0 ≤ r) (h1 : r < ns.length) : ∃ a, a ∈ ns ∧ atI (ns.map D.str) r = some (.str a) := by
  have hl : r.toNat < ns.length := by omega
  refine ⟨ns[r.toNat], List.getElem_mem hl, ?_⟩
  have := atI_map (f := D.str) (List.getElem?_eq_getElem hl)
  rwa [Int.toNat_of_nonneg h0] at this
theorem last_at {ns : List Str} (h : ns ≠ []) : atI (ns.map D.str) (-1) = some (.str (ns.getLast h)) := by
  have hl : 0 < ns.length := List.length_pos_iff.mpr h
  unfold atI
  have e : ixN (ns.map D.str).length (-1) = some (ns.length - 1) := by
    unfold ixN
    rw [List.length_map]
    simp
    omega
  rw [e]
  show (ns.map D.str)[ns.length - 1]? = _
  rw [List.getElem?_map, List.getElem?_eq_getElem (by omega), List.getLast_eq_getElem]
  rfl
/-! ### a name that is none of these -/
theorem str_app_len {x y : Str} : (x ++ y).length = x.length + y.length := Array.size_append
theorem join_len {ys : List Str} : (Str.join (Str.ofString "") ys).length = (ys.map (·.length)).sum := by
  match ys with
  | [] => rfl
  | [x] => simp [Str.join]
  | x :: z :: r =>
    have ih := join_len (ys := z :: r)
    show (x ++ Str.ofString "" ++ Str.join (Str.ofString "") (z :: r)).length = _
    rw [str_app_len, str_app_len, ih]
    simp
    rfl
theorem sum_ge {ys : List Str} {y : Str} (h : y ∈ ys) : y.length ≤ (ys.map (·.length)).sum := by
  induction ys with
  | nil => cases h
  | cons x ys ih =>
    rw [List.map_cons, List.sum_cons]
    rcases List.mem_cons.mp h with rfl | h
    · omega
    · have := ih h
      omega
theorem odd_out {ns : List Str} : (Str.join (Str.ofString "") ns ++ Str.ofString "x") ∉ ns := fun h => by
  have := sum_ge h
  rw [str_app_len, join_len] at this
  have : (Str.ofString "x").length = 1 := by decide +kernel
  omega
end KT

set_option Elab.async false
set_option linter.all false
set_option maxRecDepth 100000
set_option maxHeartbeats 0
set_option pp.deepTerms false
set_option pp.deepTerms.threshold 8


namespace KT
open PySem PySem.Spec PyProof.Rows L2 DL
structure TxtM (K : PySem.W.Frag) (mg : Str → Option Value) (C : Addr) : Prop extends TxtT K mg C where
  b_dict : mg "dict" = none
def ch : List Str → List Int → Str → Int
  | g :: gs, i :: is, a => if g = a then i else ch gs is a
  | _, _, _ => 0
theorem val_ch {a : Str} : ∀ {ns : List Str} {is : List Int}, a ∈ ns → is.length = ns.length → valK ((ns.map Sum.inr : List Key).zip (is.map .int)) (.inr a) = some (.int (ch ns is a))
  | [], _, h, _ => nomatch h
  | _ :: _, [], _, hl => nomatch hl
  | g :: gs, i :: is, h, hl => by
    by_cases e : g = a
    · subst e
      simp [valK, ch]
    · have ih := val_ch (ns := gs) (is := is) ((List.mem_cons.mp h).resolve_left fun q => e q.symm) (Nat.succ.inj hl)
      unfold valK at ih ⊢
      simp only [List.map_cons, List.zip_cons_cons, List.find?_cons]
      rw [decide_eq_false (fun q => e (Sum.inr.inj q))]
      rw [ih]
      show some (D.int (ch gs is a)) = some (D.int (if g = a then i else ch gs is a))
      rw [if_neg e]
def moveW (n : Nat) (m : D) : Option Str := if isR n m = false then some "move" else if isN n m = false then some "number" else none
def GA (g : D) : Prop := ∃ n, Pl g n ∧ AllPl g ∧ FewT g ∧ (seqOf g).length ≤ 1000
def MA (m : D) : Prop := ∃ n, Pl m n ∧ AllPl m
theorem ga_goods {gs : List Str} {x : D} (hx : RowOf x (gs.map .str)) (hg : Goods gs) : GA x := by
  have e : seqOf x = gs.map .str := by rcases hx with rfl | rfl <;> rfl
  have hp : ∃ n, Pl x n := by rcases hx with rfl | rfl; exact ⟨_, .lst _⟩; exact ⟨_, .tup _⟩
  obtain ⟨n, hp⟩ := hp
  refine ⟨n, hp, fun d hd => ?_, fun d hd z hz => ?_, ?_⟩
  · rw [e] at hd; obtain ⟨g, _, rfl⟩ := List.mem_map.mp hd; exact ⟨_, .str _⟩
  · rw [e] at hd; obtain ⟨g, h, rfl⟩ := List.mem_map.mp hd; cases hz; exact Nat.le_trans (hg.2.2.2 _ h).2.2.1 (by decide)
  · rw [e, List.length_map]; exact Nat.le_trans hg.2.2.1 (by decide)
theorem ma_ints {is : List Int} {x : D} (hx : RowOf x (is.map .int)) : MA x := by
  have e : seqOf x = is.map .int := by rcases hx with rfl | rfl <;> rfl
  have hp : ∃ n, Pl x n := by rcases hx with rfl | rfl; exact ⟨_, .lst _⟩; exact ⟨_, .tup _⟩
  obtain ⟨n, hp⟩ := hp
  exact ⟨n, hp, fun d hd => by rw [e] at hd; obtain ⟨g, _, rfl⟩ := List.mem_map.mp hd; exact ⟨_, .int _⟩⟩
theorem all_int {l : List D} (h : l.all isI = true) : ∃ is : List Int, l = is.map .int := by
  induction l with
  | nil => exact ⟨[], rfl⟩
  | cons d l ih =>
    rw [List.all_cons, Bool.and_eq_true] at h
    obtain ⟨is, e⟩ := ih h.2
    cases d with
    | int i => exact ⟨i :: is, congrArg (D.int i :: ·) e⟩
    | _ => exact absurd h.1 (by simp [isI])
theorem moveW_none {n : Nat} {m : D} (h : moveW n m = none) : ∃ is : List Int, RowOf m (is.map .int) ∧ is.length = n := by
  unfold moveW at h
  split at h
  · cases h
  · rename_i h1
    split at h
    · cases h
    · rename_i h2
      simp only [Bool.not_eq_false] at h1 h2
      unfold isN at h2
      rw [Bool.and_eq_true] at h2
      unfold isR at h1
      rw [Bool.and_eq_true] at h1
      obtain ⟨is, e⟩ := all_int h2.2
      have hl := of_decide_eq_true h1.2
      refine ⟨is, ?_, by rw [e, List.length_map] at hl; exact hl⟩
      rw [← e]
      cases m <;> first | exact .inl rfl | exact .inr rfl | (exact absurd h1.1 (by simp [isS]))
theorem moveW_ok {n : Nat} {m : D} {is : List Int} (hm : RowOf m (is.map .int)) (hl : is.length = n) : moveW n m = none := by
  have e : seqOf m = is.map .int := by rcases hm with rfl | rfl <;> rfl
  have s : isS m = true := by rcases hm with rfl | rfl <;> rfl
  have r : isR n m = true := by unfold isR; rw [s, e, List.length_map, decide_eq_true hl]; rfl
  have a : isN n m = true := by
    unfold isN
    rw [r, e, Bool.true_and]
    exact List.all_eq_true.mpr fun d hd => by obtain ⟨i, _, rfl⟩ := List.mem_map.mp hd; rfl
  unfold moveW
  rw [r, a]
  rfl
theorem rep0 : ∀ {gs : List Str}, (List.replicate gs.length [D.int 0]).flatten = (gs.map fun _ => (0 : Int)).map .int
  | [] => rfl
  | _ :: gs => congrArg (D.int 0 :: ·) (rep0 (gs := gs))
/-- what is told of goods and a move: faults, or R of both -/
def Mv (BG BM : Addr) (g m : D) (R : List Str → List Int → Prop) (E : Ex → List OC → Prop) : Prop := GA g ∧ MA m ∧ (∀ v, goodsW g = some v → E ⟨BG, some [("what", .str v)]⟩ []) ∧
  ∀ gs, RowOf g (gs.map .str) → Goods gs → (∀ v, moveW gs.length m = some v → E ⟨BM, some [("what", .str v)]⟩ []) ∧ ∀ is : List Int, RowOf m (is.map .int) → is.length = gs.length → R gs is
section
variable {P : Program} {w : World} {K : PySem.W.Frag} {mg : Str → Option Value} {base : Heap} {C OG NA BG BM : Addr}
def sdCheckMove (BG BM : Addr) : SpD := fun as Q E => ∃ g m : D, as = [.d g, .d m] ∧ Mv BG BM g m (fun _ is => Q (.d (.tup (is.map .int))) []) E
abbrev s_check_move : Stmt := top 27
theorem sc_check_move : FnScope ["goods", "move", "told"] ["goods", "move"] (defScope s_check_move) := ⟨rfl, rfl, rfl, by decide +kernel, rfl, by decide +kernel, by decide +kernel⟩
theorem ok_checkMove (X_BadMove : DefX P w K mg base "BadMove" BM ["what"]) (D_checked_goods : DefD P w K mg base "checked_goods" 3 ["goods"] (sdGoodsX BG)) (D_is_row : DefD P w K mg base "is_row" 3 ["thing", "length"] sdRowX) (D_is_number_row : DefD P w K mg base "is_number_row" 5 ["thing", "length"] sdNumX) {f : Addr} {fd : FuncData} (G : Fun K "check_move" "check_move" s_check_move f fd) (T : TxtM K mg C) : FnOk P w K mg base (L2.CX P w) 7 f fd ["goods", "move"] (spOf K (sdCheckMove BG BM)) := by
  refine okD G sc_check_move [] (fun as Q E ⟨g, m, e, _⟩ => by subst e; exact ⟨rfl, rfl⟩) ⟨_, fun cdv A outer s H E ad F0 H0 hr => (pds_cons (psd_set (i := 2) (pd_call D_checked_goods.ok (hr.mono (by decide)) (by rfl) D_checked_goods.mg D_checked_goods.kp D_checked_goods.b (takes_of rfl rfl rfl rfl) (pda_cons (pd_var (pv 0)) pda_nil)) (by show ¬ (2 ∈ ([] : List Nat)); decide) sc_check_move.nd rfl (.inl rfl))
      (pds_cons (psd_if (ptd_not (ptd_val (pd_call D_is_row.ok (hr.mono (by decide)) (by rfl) D_is_row.mg D_is_row.kp D_is_row.b (takes_of rfl rfl rfl rfl) (pda_cons (pd_var (pv 1)) (pda_cons (pd_builtB (fun h => pe_callB call_len_seq (by rfl) T.b_len (by decide +kernel) h) cn_len.op (pda_cons (pd_var (pv 2)) pda_nil)) pda_nil))) (fun h => pt_val h))) (pds_one (psd_raiseR rfl (takes_of rfl rfl rfl rfl) (fun h => pmk_oex X_BadMove.ox X_BadMove.ini X_BadMove.ty X_BadMove.ok (hr.mono (by decide)) X_BadMove.b .nil pass0 (by rfl) X_BadMove.mg h) (pda_cons (pd_const pe_str (fun _ => .str (by decide +kernel))) pda_nil))) pds_nil)
      (pds_cons (psd_if (ptd_not (ptd_val (pd_call D_is_number_row.ok (hr.mono (by decide)) (by rfl) D_is_number_row.mg D_is_number_row.kp D_is_number_row.b (takes_of rfl rfl rfl rfl) (pda_cons (pd_var (pv 1)) (pda_cons (pd_builtB (fun h => pe_callB call_len_seq (by rfl) T.b_len (by decide +kernel) h) cn_len.op (pda_cons (pd_var (pv 2)) pda_nil)) pda_nil))) (fun h => pt_val h))) (pds_one (psd_raiseR rfl (takes_of rfl rfl rfl rfl) (fun h => pmk_oex X_BadMove.ox X_BadMove.ini X_BadMove.ty X_BadMove.ok (hr.mono (by decide)) X_BadMove.b .nil pass0 (by rfl) X_BadMove.mg h) (pda_cons (pd_const pe_str (fun _ => .str (by decide +kernel))) pda_nil))) pds_nil)
      (pds_one (psd_ret (pd_builtB (fun h => pe_callTy call_tuple_of (by rfl) T.b_tuple (by decide +kernel) h) cn_tuple (pda_cons (pd_var (pv 1)) pda_nil))))))), ?_⟩
  rintro as Qd Ed ⟨g, m, rfl, ⟨n, g1, g2, g3, g4⟩, ⟨n2, m1, m2⟩, k1, k2⟩
  refine DR.start (δ' := [some (.d g), some (.d m), none]) rfl ?_
  walk_at "dd"
  refine ⟨g, n, rfl, g1, g2, g3, g4, fun gs hx hg => ?_, fun v hv => ⟨_, rfl, k1 v hv⟩⟩
  obtain ⟨k3, k4⟩ := k2 gs hx hg
  walk_at "dd"
  refine ⟨m, n2, gs.length, by rw [List.length_map]; rfl, m1, Nat.le_trans hg.2.2.1 (by decide), ?_⟩
  cases q1 : isR gs.length m with
  | false =>
    walk_at "dd"
    exact ⟨rfl, by show 1 ≤ 1000; decide, _, rfl, k3 "move" (by unfold moveW; rw [if_pos q1])⟩
  | true =>
    walk_at "dd"
    refine ⟨m, n2, gs.length, by rw [List.length_map]; rfl, m1, m2, Nat.le_trans hg.2.2.1 (by decide), ?_⟩
    have e1 : ¬ (isR gs.length m = false) := by rw [q1]; exact Bool.noConfusion
    cases q2 : isN gs.length m with
    | false =>
      walk_at "dd"
      exact ⟨rfl, by show 1 ≤ 1000; decide, _, rfl, k3 "number" (by unfold moveW; rw [if_neg e1, if_pos q2])⟩
    | true =>
      obtain ⟨is, hr, hl⟩ := moveW_none (n := gs.length) (m := m) (by unfold moveW; rw [if_neg e1, q2]; rfl)
      walk_at "dd"
      rcases hr with rfl | rfl
      · refine ⟨_, _, rfl, .inl rfl, ?_⟩
        walk_at "dd"
        exact k4 is (.inl rfl) hl
      · refine ⟨_, _, rfl, .inr (.inr rfl), ?_⟩
        walk_at "dd"
        exact k4 is (.inr rfl) hl
def chsD (ns : List Str) (is : List Int) : List (Key × D) := (ns.map Sum.inr : List Key).zip (is.map .int)
def sdChanges (BG BM : Addr) : SpD := fun as Q E => ∃ g m : D, as = [.d g, .d m] ∧ Mv BG BM g m (fun gs is => Q (.own (.dK (chsD (cash :: gs) (0 :: is)))) []) E
abbrev s_changes : Stmt := top 28
theorem sc_changes : FnScope ["goods", "move", "numbers"] ["goods", "move"] (defScope s_changes) := ⟨rfl, rfl, rfl, by decide +kernel, rfl, by decide +kernel, by decide +kernel⟩
theorem ok_changes (D_check_move : DefD P w K mg base "check_move" 7 ["goods", "move"] (sdCheckMove BG BM)) (D_assets : DefD P w K mg base "assets" 5 ["goods"] sdAssets) {f : Addr} {fd : FuncData} (G : Fun K "_changes" "_changes" s_changes f fd) (T : TxtM K mg C) : FnOk P w K mg base (L2.CX P w) 9 f fd ["goods", "move"] (spOf K (sdChanges BG BM)) := by
  refine okD G sc_changes [] (fun as Q E ⟨g, m, e, _⟩ => by subst e; exact ⟨rfl, rfl⟩) ⟨_, fun cdv A outer s H E ad F0 H0 hr => (pds_cons (psd_set (i := 2) (pd_op op_catA op2_catT (pd_tup (fun h => pe_tup h) (pda_cons (pd_const pe_int (fun _ => .int _)) pda_nil)) (pd_call D_check_move.ok (hr.mono (by decide)) (by rfl) D_check_move.mg D_check_move.kp D_check_move.b (takes_of rfl rfl rfl rfl) (pda_cons (pd_var (pv 0)) (pda_cons (pd_var (pv 1)) pda_nil)))) (by show ¬ (2 ∈ ([] : List Nat)); decide) sc_changes.nd rfl (.inl rfl))
      (pds_one (psd_ret (pd_dzip rfl (by rfl) T.b_dict (by rfl) T.b_zip (pda_cons (pd_call D_assets.ok (hr.mono (by decide)) (by rfl) D_assets.mg D_assets.kp D_assets.b (takes_of rfl rfl rfl rfl) (pda_cons (pd_var (pv 0)) pda_nil)) (pda_cons (pd_var (pv 2)) pda_nil)))))), ?_⟩
  rintro as Qd Ed ⟨g, m, rfl, ga, ma, k1, k2⟩
  refine DR.start (δ' := [some (.d g), some (.d m), none]) rfl ?_
  walk_at "dd"
  refine ⟨g, m, rfl, ga, ma, fun v hv => ⟨_, rfl, k1 v hv⟩, fun gs hx hg => ⟨fun v hv => ⟨_, rfl, (k2 gs hx hg).1 v hv⟩, fun is hm hl => ?_⟩⟩
  have k4 := (k2 gs hx hg).2 is hm hl
  walk_at "dd"
  have h5 := hg.2.2.1
  refine ⟨by show 1 + (is.map D.int).length ≤ sizeLine; rw [List.length_map]; exact Nat.le_trans (show _ ≤ 6 by omega) (by decide), ?_⟩
  walk_at "dd"
  refine ⟨gs, g, rfl, hx, hg, ?_⟩
  walk_at "dd"
  refine ⟨by simp [hl], by rw [List.length_cons]; omega, goods_nd hg, ?_⟩
  walk_at "dd"
  exact k4
theorem ch_ok {gs : List Str} {is : List Int} {a : Str} (ha : a ∈ cash :: gs) (hl : is.length = gs.length) : valK (chsD (cash :: gs) (0 :: is)) (.inr a) = some (.int (ch (cash :: gs) (0 :: is) a)) := val_ch ha (by rw [List.length_cons, List.length_cons, hl])
/-! ### broken rows -/
def brk (rs : List Row) (c : Str → Int) : Option Row := rs.find? fun r => decide (c r.1 - c r.2.1 > r.2.2)
def sdBroken : SpD := fun as Q _ => ∃ (rs : List Row) (ns : List Str) (is : List Int), as = [.d (.tup (rs.map rowD)), .d (.dK (chsD ns is))] ∧ (∀ r ∈ rs, r.1 ∈ ns ∧ r.2.1 ∈ ns) ∧ is.length = ns.length ∧ Q (.d (upD (brk rs (ch ns is)))) []
abbrev s_broken : Stmt := top 29
theorem sc_broken : FnScope ["rows", "changes", "up", "down", "most"] ["rows", "changes"] (defScope s_broken) := ⟨rfl, rfl, rfl, by decide +kernel, rfl, by decide +kernel, by decide +kernel⟩
theorem ok_broken {f : Addr} {fd : FuncData} (G : Fun K "_broken" "_broken" s_broken f fd) (T : TxtM K mg C) : FnOk P w K mg base (L2.CX P w) 1 f fd ["rows", "changes"] (spOf K sdBroken) := by
  refine okD G sc_broken [] (fun as Q E ⟨rs, ns, is, e, _⟩ => by subst e; exact ⟨rfl, rfl⟩) ⟨_, fun cdv A outer s H E ad F0 H0 hr => (pds_cons (psd_for (passes_of rfl) rfl (pid_tup (pd_var (pv 0))) (pgd_tup (is := [2, 3, 4]) (vs := [2, 3, 4]) (pg_tup rfl (pgs_cons (pg_name (i := 2) sc_broken.nd rfl (.inl rfl)) (pgs_cons (pg_name (i := 3) sc_broken.nd rfl (.inl rfl)) (pgs_cons (pg_name (i := 4) sc_broken.nd rfl (.inl rfl)) pgs_nil)))) rfl (by show ∀ i ∈ ([2, 3, 4] : List Nat), ¬ (i ∈ ([] : List Nat)) ∧ i ∈ ([2, 3, 4] : List Nat); decide))
      (pds_one (psd_if (ptd_cmp op_gt (op2_I0 fun _ _ _ => .bl _) (pd_op op_sub (op2_I0 fun _ _ _ => .int _) (pd_getK (fun ho hi => pe_dget (hu_of hr) ho hi (fun _ _ => rfl)) (pd_var (pv 1)) (pd_var (pv 2))) (pd_getK (fun ho hi => pe_dget (hu_of hr) ho hi (fun _ _ => rfl)) (pd_var (pv 1)) (pd_var (pv 3)))) (pd_var (pv 4)) (nomark _)) (pds_one (psd_ret (pd_tup (fun h => pe_tup h) (pda_cons (pd_var (pv 2)) (pda_cons (pd_var (pv 3)) pda_nil))))) pds_nil)))
      (pds_one (psd_ret (pd_const pe_non (fun _ => .non))))), ?_⟩
  rintro as Qd Ed ⟨rs, ns, is, rfl, hr, hl, k⟩
  refine DR.start (δ' := [some (.d (.tup (rs.map rowD))), some (.d (.dK (chsD ns is))), none, none, none]) rfl ?_
  walk_at "dd"
  refine DR.for_inv (fun i δ => ∃ p2 p3 p4, δ = [some (.d (.tup (rs.map rowD))), some (.d (.dK (chsD ns is))), p2, p3, p4] ∧ (rs.take i).find? (fun r => decide (ch ns is r.1 - ch ns is r.2.1 > r.2.2)) = none) ⟨_, _, _, rfl, rfl⟩ ?_ ?_
  · rintro i x δ N hx ⟨p2, p3, p4, rfl, hn⟩ kN
    obtain ⟨⟨a, b, m⟩, hri, rfl⟩ := DR.map_at hx
    obtain ⟨ha, hb⟩ := hr _ (List.mem_of_getElem? hri)
    obtain ⟨y, n⟩ := find_at hn hri
    walk_at "dd"
    refine ⟨_, .inr a, _, rfl, rfl, val_ch ha hl, ?_⟩
    walk_at "dd"
    refine ⟨_, .inr b, _, rfl, rfl, val_ch hb hl, ?_⟩
    walk_at "dd"
    refine DR.split (fun c => ?_) (fun c => ?_)
    · walk_at "dd"
      have q := y (decide_eq_true (by omega))
      unfold brk at k
      rw [q] at k
      exact k
    · walk_at "dd"
      exact kN _ ⟨_, _, _, rfl, n (decide_eq_false (by omega))⟩
  · rintro δ ⟨p2, p3, p4, rfl, hn⟩
    rw [List.length_map, List.take_length] at hn
    unfold brk at k
    rw [hn] at k
    walk_at "dd"
    exact k
/-- the faults of a move over right goods, or R -/
def MvT (BM : Addr) (gs : List Str) (m : D) (R : List Int → Prop) (E : Ex → List OC → Prop) : Prop := MA m ∧ (∀ v, moveW gs.length m = some v → E ⟨BM, some [("what", .str v)]⟩ []) ∧ ∀ is : List Int, RowOf m (is.map .int) → is.length = gs.length → R is
def sdFits (C BM : Addr) : SpD := fun as Q E => ∃ (gs : List Str) (rs : List Row) (e : En) (m d : D), as = [.d m, .d d] ∧ Tb C gs rs e d ∧ MvT BM gs m (fun is => Q (.d (.bl (brk rs (ch (cash :: gs) (0 :: is))).isNone)) []) E
theorem row_inj {gs hs : List Str} (h : RowOf (.tup (gs.map .str)) (hs.map .str)) : gs = hs := by
  rcases h with h | h
  · cases h
  · injection h with h
    rw [← txs_str (gs := hs), ← h, txs_str]
abbrev s_fits : Stmt := top 30
theorem sc_fits : FnScope ["move", "table"] ["move", "table"] (defScope s_fits) := ⟨rfl, rfl, rfl, by decide +kernel, rfl, by decide +kernel, by decide +kernel⟩
theorem ok_fits (D_changes : DefD P w K mg base "_changes" 9 ["goods", "move"] (sdChanges BG BM)) (D_broken : DefD P w K mg base "_broken" 1 ["rows", "changes"] sdBroken) {f : Addr} {fd : FuncData} (G : Fun K "fits" "fits" s_fits f fd) (T : TxtM K mg C) : FnOk P w K mg base (L2.CX P w) 11 f fd ["move", "table"] (spOf K (sdFits C BM)) := by
  refine okD G sc_fits [] (fun as Q E ⟨gs, rs, e, m, d, q, _⟩ => by subst q; exact ⟨rfl, rfl⟩) ⟨_, fun cdv A outer s H E ad F0 H0 hr => (pds_one (psd_ret (pd_cmp op_isN op2_isN.op (pd_call D_broken.ok (hr.mono (by decide)) (by rfl) D_broken.mg D_broken.kp D_broken.b (takes_of rfl rfl rfl rfl) (pda_cons (pd_fld (pd_var (pv 1)) T.cl_Table (T.na_Table _ (by decide)) rfl) (pda_cons (pd_call D_changes.ok (hr.mono (by decide)) (by rfl) D_changes.mg D_changes.kp D_changes.b (takes_of rfl rfl rfl rfl) (pda_cons (pd_fld (pd_var (pv 1)) T.cl_Table (T.na_Table _ (by decide)) rfl) (pda_cons (pd_var (pv 0)) pda_nil))) pda_nil))) (pd_const pe_non (fun _ => .non)) (nomark _)))), ?_⟩
  rintro as Qd Ed ⟨gs, rs, e, m, d, rfl, t1, ma, k1, k2⟩
  obtain ⟨kvs, f, rfl, h1, h2, h3, h4, h5, h6, h7⟩ := id t1
  refine DR.start (δ' := [some (.d m), some (.d (.obj C (tabFs gs rs kvs f)))]) rfl ?_
  walk_at "dd"
  refine ⟨.tup (gs.map .str), m, rfl, ga_goods (.inr rfl) h1, ma, fun v hv => absurd (goodsW_ok (.inr rfl) h1) (by rw [hv]; exact nofun), fun hs hx hg => ?_⟩
  obtain rfl := row_inj hx
  refine ⟨fun v hv => ⟨_, rfl, k1 v hv⟩, fun is hm hl => ?_⟩
  walk_at "dd"
  refine ⟨rs, cash :: gs, 0 :: is, rfl, fun r hr => ⟨(h2.row r hr).1, (h2.row r hr).2.1⟩, by rw [List.length_cons, List.length_cons, hl], ?_⟩
  walk_at "dd"
  refine ⟨(brk rs (ch (cash :: gs) (0 :: is))).isNone, rfl, ?_, DR.nost_b, ?_⟩
  · cases brk rs (ch (cash :: gs) (0 :: is)) with
    | none => exact ⟨fun _ => rfl, fun _ => rfl⟩
    | some r => exact ⟨fun z => (nomatch z), fun z => (nomatch z)⟩
  · exact ⟨_, rfl, k2 is hm hl⟩
def sdFirst (C BM : Addr) : SpD := fun as Q E => ∃ (gs : List Str) (rs : List Row) (e : En) (m d : D), as = [.d m, .d d] ∧ Tb C gs rs e d ∧ MvT BM gs m (fun is => Q (.d (upD (brk (entRows (cash :: gs) e) (ch (cash :: gs) (0 :: is))))) []) E
abbrev s_first_broken : Stmt := top 31
theorem sc_first_broken : FnScope ["move", "table"] ["move", "table"] (defScope s_first_broken) := ⟨rfl, rfl, rfl, by decide +kernel, rfl, by decide +kernel, by decide +kernel⟩
theorem ok_first (D_changes : DefD P w K mg base "_changes" 9 ["goods", "move"] (sdChanges BG BM)) (D_broken : DefD P w K mg base "_broken" 1 ["rows", "changes"] sdBroken) (D_Table_entries : DefP P w K mg base C "entries" 1 ["self"] (sdEntries C)) {f : Addr} {fd : FuncData} (G : Fun K "first_broken" "first_broken" s_first_broken f fd) (T : TxtM K mg C) : FnOk P w K mg base (L2.CX P w) 11 f fd ["move", "table"] (spOf K (sdFirst C BM)) := by
  refine okD G sc_first_broken [] (fun as Q E ⟨gs, rs, e, m, d, q, _⟩ => by subst q; exact ⟨rfl, rfl⟩) ⟨_, fun cdv A outer s H E ad F0 H0 hr => (pds_one (psd_ret (pd_call D_broken.ok (hr.mono (by decide)) (by rfl) D_broken.mg D_broken.kp D_broken.b (takes_of rfl rfl rfl rfl) (pda_cons (pd_prop (pd_var (pv 1)) T.cl_Table D_Table_entries.po D_Table_entries.ok (hr.mono (by decide)) D_Table_entries.b rfl) (pda_cons (pd_call D_changes.ok (hr.mono (by decide)) (by rfl) D_changes.mg D_changes.kp D_changes.b (takes_of rfl rfl rfl rfl) (pda_cons (pd_fld (pd_var (pv 1)) T.cl_Table (T.na_Table _ (by decide)) rfl) (pda_cons (pd_var (pv 0)) pda_nil))) pda_nil))))), ?_⟩
  rintro as Qd Ed ⟨gs, rs, e, m, d, rfl, t1, ma, k1, k2⟩
  obtain ⟨kvs, f, rfl, h1, h2, h3, h4, h5, h6, h7⟩ := id t1
  refine DR.start (δ' := [some (.d m), some (.d (.obj C (tabFs gs rs kvs f)))]) rfl ?_
  walk_at "dd"
  refine ⟨gs, rs, e, _, rfl, t1, ?_⟩
  walk_at "dd"
  refine ⟨.tup (gs.map .str), m, rfl, ga_goods (.inr rfl) h1, ma, fun v hv => absurd (goodsW_ok (.inr rfl) h1) (by rw [hv]; exact nofun), fun hs hx hg => ?_⟩
  obtain rfl := row_inj hx
  refine ⟨fun v hv => ⟨_, rfl, k1 v hv⟩, fun is hm hl => ?_⟩
  walk_at "dd"
  refine ⟨entRows (cash :: gs) e, cash :: gs, 0 :: is, rfl, fun r hr => ⟨(entRows_mem.mp hr).1, (entRows_mem.mp hr).2.1⟩, by rw [List.length_cons, List.length_cons, hl], ?_⟩
  exact ⟨_, rfl, k2 is hm hl⟩
def sdExtreme (C NA : Addr) : SpD := fun as Q E => ∃ (gs : List Str) (rs : List Row) (e : En) (d x y : D), as = [.d d, .d x, .d y] ∧ Tb C gs rs e d ∧ Ask x ∧ (known (cash :: gs) x = true → Ask y) ∧ (known (cash :: gs) x = false → E ⟨NA, some [("name", x)]⟩ []) ∧ (known (cash :: gs) x = true → known (cash :: gs) y = false → E ⟨NA, some [("name", y)]⟩ []) ∧
  (∀ a b, x = .str a → y = .str b → a ∈ cash :: gs → b ∈ cash :: gs → Q (.d (.tup ((gs.map fun g => e g b - e cash b).map .int))) [])
abbrev s_extreme_move : Stmt := top 32
theorem sc_extreme_move : FnScope ["table", "up", "down", "known", "good"] ["table", "up", "down"] (defScope s_extreme_move) := ⟨rfl, rfl, rfl, by decide +kernel, rfl, by decide +kernel, by decide +kernel⟩
theorem ok_extreme (D_assets : DefD P w K mg base "assets" 5 ["goods"] sdAssets) (D_check_asset : DefD P w K mg base "check_asset" 3 ["known", "thing"] (sdCheckX NA)) (D_Table___getitem : DefG P w K mg base C 5 ["self", "at"] (sdGet C)) {f : Addr} {fd : FuncData} (G : Fun K "extreme_move" "extreme_move" s_extreme_move f fd) (T : TxtM K mg C) : FnOk P w K mg base (L2.CX P w) 9 f fd ["table", "up", "down"] (spOf K (sdExtreme C NA)) := by
  refine okD G sc_extreme_move [] (fun as Q E ⟨gs, rs, e, d, x, y, q, _⟩ => by subst q; exact ⟨rfl, rfl⟩) ⟨_, fun cdv A outer s H E ad F0 H0 hr => (pds_cons (psd_set (i := 3) (pd_call D_assets.ok (hr.mono (by decide)) (by rfl) D_assets.mg D_assets.kp D_assets.b (takes_of rfl rfl rfl rfl) (pda_cons (pd_fld (pd_var (pv 0)) T.cl_Table (T.na_Table _ (by decide)) rfl) pda_nil)) (by show ¬ (3 ∈ ([] : List Nat)); decide) sc_extreme_move.nd rfl (.inl rfl))
      (pds_cons (psd_expr (pd_call D_check_asset.ok (hr.mono (by decide)) (by rfl) D_check_asset.mg D_check_asset.kp D_check_asset.b (takes_of rfl rfl rfl rfl) (pda_cons (pd_var (pv 3)) (pda_cons (pd_var (pv 1)) pda_nil))))
      (pds_cons (psd_expr (pd_call D_check_asset.ok (hr.mono (by decide)) (by rfl) D_check_asset.mg D_check_asset.kp D_check_asset.b (takes_of rfl rfl rfl rfl) (pda_cons (pd_var (pv 3)) (pda_cons (pd_var (pv 2)) pda_nil))))
      (pds_one (psd_ret (pd_builtB (fun h => pe_callTy call_tuple_of (by rfl) T.b_tuple (by decide +kernel) h) cn_tuple (pda_cons (pd_lc (own := [("good", 4)]) (by rfl) sc_extreme_move.nd (pid_tup (pd_fld (pd_var (pv 0)) T.cl_Table (T.na_Table _ (by decide)) rfl)) (blkOk_by (own := [("good", 4)]) (N := ["table", "up", "down", "known", "good"]) (sc := defScope s_extreme_move) (by decide +kernel)) (fun _ _ _ _ _ => (pgd_name (i := 4) (vs := [4]) (pg_name (i := 4) sc_extreme_move.nd rfl (.inl rfl)) (by show ¬ (4 ∈ ([] : List Nat)); decide) (by decide))) (fun _ _ _ _ _ => ptsd_nil) (fun _ _ _ _ _ => (pd_op op_sub (op2_I0 fun _ _ _ => .int _) (pd_sub D_Table___getitem.gi D_Table___getitem.ok (hr.mono (by decide)) D_Table___getitem.b takes0 (pd_var (pv 0)) (pd_tup (fun h => pe_tup h) (pda_cons (pd_var (pv 4)) (pda_cons (pd_var (pv 2)) pda_nil))) (fun _ _ => rfl)) (pd_sub D_Table___getitem.gi D_Table___getitem.ok (hr.mono (by decide)) D_Table___getitem.b takes0 (pd_var (pv 0)) (pd_tup (fun h => pe_tup h) (pda_cons (pd_const pe_str (fun _ => .str (by decide +kernel))) (pda_cons (pd_var (pv 2)) pda_nil))) (fun _ _ => rfl)))) (by show ∀ i ∈ ([4] : List Nat), ¬ (i ∈ ([] : List Nat)); decide)) pda_nil))))))), ?_⟩
  rintro as Qd Ed ⟨gs, rs, e, d, x, y, rfl, t1, ax, ay, k1, k2, k3⟩
  obtain ⟨kvs, f, rfl, h1, h2, h3, h4, h5, h6, h7⟩ := id t1
  refine DR.start (δ' := [some (.d (.obj C (tabFs gs rs kvs f))), some (.d x), some (.d y), none, none]) rfl ?_
  walk_at "dd"
  refine ⟨gs, _, rfl, .inr rfl, h1, ?_⟩
  walk_at "dd"
  refine ⟨cash :: gs, x, rfl, ax, fun c => ?_, fun c => ⟨_, rfl, k1 c⟩⟩
  walk_at "dd"
  refine ⟨cash :: gs, y, rfl, ay c, fun c2 => ?_, fun c2 => ⟨_, rfl, k2 c c2⟩⟩
  obtain ⟨a, rfl, ha⟩ := known_ex c
  obtain ⟨b, rfl, hb⟩ := known_ex c2
  walk_at "dd"
  refine DR.lc_mapM (fun g => D.int (e g b - e cash b)) (fun g acc N hgm hl kN => ?_) ?_
  · walk_at "dd"
    refine ⟨gs, rs, e, _, g, b, rfl, t1, List.mem_cons_of_mem _ hgm, hb, ?_⟩
    walk_at "dd"
    refine ⟨gs, rs, e, _, cash, b, rfl, t1, List.mem_cons_self, hb, ?_⟩
    walk_at "dd"
    exact ⟨Nat.lt_of_lt_of_le hl (Nat.le_trans h1.2.2.1 (by decide)), kN⟩
  · walk_at "dd"
    refine ⟨_, _, rfl, .inl rfl, ?_⟩
    walk_at "dd"
    have z := k3 a b rfl rfl ha hb
    rw [List.map_map] at z
    exact z
end
end KT

set_option linter.all false
namespace KT
open PySem PySem.Spec PyProof.Rows L2 DL
def cutS (xs : List Str) (lo hi : Option Int) : List Str := (xs.drop (HT.sIx xs.length 0 lo)).take (HT.sIx xs.length xs.length hi - HT.sIx xs.length 0 lo)
theorem cut_map {xs : List Str} {lo hi : Option Int} : DL.cutD (xs.map D.str) lo hi = (cutS xs lo hi).map D.str := by
  unfold DL.cutD cutS
  rw [List.length_map, List.map_take, List.map_drop]
theorem cut1 {gs : List Str} (h : 1 ≤ gs.length) : cutS gs (some 1) none = gs.drop 1 := by
  have e : HT.sIx gs.length 0 (some 1) = 1 := by unfold HT.sIx; simp; omega
  have e2 : HT.sIx gs.length gs.length none = gs.length := rfl
  unfold cutS
  rw [e, e2, List.take_of_length_le (by rw [List.length_drop]; omega)]
theorem cut2 {gs : List Str} (h : 1 ≤ gs.length) : cutS gs none (some 1) = gs.take 1 := by
  have e : HT.sIx gs.length gs.length (some 1) = 1 := by unfold HT.sIx; simp; omega
  have e2 : HT.sIx gs.length 0 none = 0 := rfl
  unfold cutS
  rw [e, e2]
  rfl
theorem cut3 {gs : List Str} (h : 1 ≤ gs.length) : cutS gs none (some (-1)) = gs.take (gs.length - 1) := by
  have e : HT.sIx gs.length gs.length (some (-1)) = gs.length - 1 := by unfold HT.sIx; simp; omega
  have e2 : HT.sIx gs.length 0 none = 0 := rfl
  unfold cutS
  rw [e, e2]
  rfl
theorem cut4 {gs : List Str} : ∃ k, cutS gs (some (-5)) none = gs.drop k ∧ gs.length ≤ k + 5 ∧ (k = 0 ∨ k + 5 = gs.length) := by
  have e2 : HT.sIx gs.length gs.length none = gs.length := rfl
  refine ⟨HT.sIx gs.length 0 (some (-5)), ?_, ?_⟩
  · unfold cutS
    rw [e2, List.take_of_length_le (by rw [List.length_drop]; omega)]
  · unfold HT.sIx
    simp
    omega
theorem cut_len {xs : List Str} {lo hi : Option Int} : ((cutS xs lo hi).map D.str).length ≤ xs.length := by
  unfold cutS
  rw [List.length_map, List.length_take, List.length_drop]
  omega
theorem dp_lstrs (l : List Str) : Dp_ 2 (.lst (l.map .str)) := dp_lst (dp_map fun r _ => dp_str)
theorem eqv_lnames {l k : List Str} : PyData.eqv (D.lst (l.map .str)).py (D.lst (k.map .str)).py = decide (l = k) := eqv_lsts eqv_strs
theorem goods_of {gs hs : List Str} (h : ∀ g ∈ hs, Nm g) (nd : hs.Nodup) (l1 : 1 ≤ hs.length) (l5 : hs.length ≤ 5) : Goods hs := ⟨nd, l1, l5, h⟩
theorem others_ok {gs : List Str} {z : Str} (hg : Goods gs) (hz : Nm z) (hn : z ∉ gs) : ∀ hs ∈ [cutS gs (some 1) none ++ cutS gs none (some 1), cutS gs none (some (-1)) ++ [z], cutS (gs ++ [z]) (some (-5)) none, cutS gs none (some 1)], Goods hs := by
  obtain ⟨nd, l1, l5, nm⟩ := id hg
  intro hs hh
  simp only [List.mem_cons, List.not_mem_nil, or_false] at hh
  rw [cut1 l1, cut2 l1, cut3 l1] at hh
  have nd2 : (gs ++ [z]).Nodup := List.nodup_append.mpr ⟨nd, by simp, fun a ha b hb => by rw [List.mem_singleton.mp hb]; exact fun e => hn (e ▸ ha)⟩
  have nm2 : ∀ g ∈ gs ++ [z], Nm g := fun g h => (List.mem_append.mp h).elim (nm g) fun h => by rw [List.mem_singleton.mp h]; exact hz
  rcases hh with rfl | rfl | rfl | rfl
  · have p : (gs.drop 1 ++ gs.take 1).Perm gs := List.perm_append_comm.trans (by rw [List.take_append_drop])
    exact ⟨p.nodup_iff.mpr nd, by rw [p.length_eq]; exact l1, by rw [p.length_eq]; exact l5, fun g h => nm g (p.mem_iff.mp h)⟩
  · have sub : (gs.take (gs.length - 1) ++ [z]).Sublist (gs ++ [z]) := (List.take_sublist _ _).append_right [z]
    exact ⟨nd2.sublist sub, by simp, by simp [List.length_take]; omega, fun g h => nm2 g (sub.mem h)⟩
  · obtain ⟨k, e, h1, h2⟩ := cut4 (gs := gs ++ [z])
    rw [e]
    have sub : ((gs ++ [z]).drop k).Sublist (gs ++ [z]) := List.drop_sublist _ _
    refine ⟨nd2.sublist sub, ?_, ?_, fun g h => nm2 g (sub.mem h)⟩ <;> rw [List.length_drop] <;> rw [List.length_append] at h1 h2 ⊢ <;> simp at h1 h2 ⊢ <;> omega
  · have sub : (gs.take 1).Sublist gs := List.take_sublist _ _
    exact ⟨nd.sublist sub, by rw [List.length_take]; omega, by rw [List.length_take]; omega, fun g h => nm g (sub.mem h)⟩
end KT
namespace KT
open PySem PySem.Spec PyProof.Rows L2 DL
theorem rot_ok {gs : List Str} (hg : Goods gs) : Goods (cutS gs (some 1) none ++ cutS gs none (some 1)) := by
  obtain ⟨nd, l1, l5, nm⟩ := id hg
  rw [cut1 l1, cut2 l1]
  have p : (gs.drop 1 ++ gs.take 1).Perm gs := List.perm_append_comm.trans (by rw [List.take_append_drop])
  exact ⟨p.nodup_iff.mpr nd, by rw [p.length_eq]; exact l1, by rw [p.length_eq]; exact l5, fun g h => nm g (p.mem_iff.mp h)⟩
theorem app_ok {gs : List Str} {z : Str} (hg : Goods gs) (hz : Nm z) (hn : z ∉ gs) : Goods (cutS (gs ++ [z]) (some (-5)) none) := others_ok hg hz hn _ (by simp)
end KT

set_option Elab.async false
set_option linter.all false
set_option maxRecDepth 100000
set_option maxHeartbeats 0
set_option pp.deepTerms false
set_option pp.deepTerms.threshold 8


namespace KS
open PySem PySem.Spec PyProof.Rows L2 DL KT
def sdSourceR : SpD := fun as Q _ => ∃ (zs : List Int) (p : Nat), as = [.d (.ro (zs.map .int)), .d (.int p)] ∧ p < 64 ∧ ∀ xs, Src 0 xs → Q (.own (.lst xs)) []
section
variable {P : Program} {w : World} {K : PySem.W.Frag} {mg : Str → Option Value} {base : Heap}
abbrev s_law_source : Stmt := top 42
theorem sc_law_source : FnScope ["_law_script", "_law_place", "_law_cell"] ["_law_script", "_law_place"] (defScope s_law_source) := ⟨rfl, rfl, rfl, by decide +kernel, rfl, by decide +kernel, by decide +kernel⟩
theorem ok_sourceR {f : Addr} {fd : FuncData} (G : Fun K "_law_source" "_law_source" s_law_source f fd) (T : TxtB mg) : FnOk P w K mg base (L2.CX P w) 1 f fd ["_law_script", "_law_place"] (spOf K sdSourceR) := by
  refine okD G sc_law_source [] (fun as Q E ⟨xs, m, e, _⟩ => by subst e; exact ⟨rfl, rfl⟩) ⟨_, fun cdv A outer s H E ad F0 H0 hr => (pds_cons (psd_set (i := 2) (pd_ifExp (ptd_cmp op_lt (op2_I0 fun _ _ _ => .bl _) (pd_var (pv 1)) (pd_builtB (fun h => pe_callB call_len_seq (by rfl) T.b_len (by decide +kernel) h) cn_len.op (pda_cons (pd_var (pv 0)) pda_nil)) (nomark _)) (pd_ix ix_list op2_ixL (pd_var (pv 0)) (pd_var (pv 1)) (fun _ _ => rfl)) (pd_const pe_int (fun _ => .int _))) (by show ¬ (2 ∈ ([] : List Nat)); decide) sc_law_source.nd rfl (.inl rfl))
      (pds_one (psd_ret (pd_lst (fun h => pe_lst h) (pda_cons (pd_ifExp (ptd_cmp op_ge (op2_I0 fun _ _ _ => .bl _) (pd_builtB (fun h => pe_callB call_abs (by rfl) T.b_abs (by decide +kernel) h) cn_abs.op (pda_cons (pd_var (pv 2)) pda_nil)) (pd_op op_pow (op2_I fun _ _ _ => .int _) (pd_const pe_int (fun _ => .int _)) (pd_const pe_int (fun _ => .int _))) (nomark _)) (pd_builtB (fun h => pe_callB call_abs (by rfl) T.b_abs (by decide +kernel) h) cn_abs.op (pda_cons (pd_var (pv 2)) pda_nil)) (pd_const pe_int (fun _ => .int _))) (pda_cons (pd_op op_add (op2_I0 fun _ _ _ => .int _) (pd_op op_add (op2_I0 fun _ _ _ => .int _) (pd_op op_mul (op2_I fun _ _ _ => .int _) (pd_op op_mod (op2_I fun _ _ _ => .int _) (pd_builtB (fun h => pe_callTy call_int1 (by rfl) T.b_int (by decide +kernel) h) cn_int.op (pda_cons (pd_var (pv 2)) pda_nil)) (pd_const pe_int (fun _ => .int _))) (pd_const pe_int (fun _ => .int _))) (pd_op op_mul (op2_I fun _ _ _ => .int _) (pd_const pe_int (fun _ => .int _)) (pd_var (pv 1)))) (pd_const pe_int (fun _ => .int _))) (pda_cons (pd_const pe_int (fun _ => .int _)) pda_nil))))))), ?_⟩
  rintro as Qd Ed ⟨zs, p, rfl, hp, k⟩
  refine DR.start (δ' := [some (.d (.ro (zs.map .int))), some (.d (.int p)), none]) rfl ?_
  have fin : ∀ a c : Int, Qd (.own (.lst [.int a, .int (c % 1000000000000000003 * 11 + 104729 * p + 15485863), .int 0])) [] := fun a c => by
    have h1 : 0 ≤ c % 1000000000000000003 := Int.emod_nonneg _ (by decide)
    have h2 : c % 1000000000000000003 < 1000000000000000003 := Int.emod_lt_of_pos _ (by decide)
    exact k _ ⟨_, _, _, rfl, by omega, by omega, by omega, by omega⟩
  walk_at "dd"
  refine DR.split (fun c => ?_) (fun c => ?_)
  · walk_at "dd"
    have hl : p < zs.length := by rw [List.length_map] at c; omega
    refine ⟨_, _, .inr rfl, atI_map (List.getElem?_eq_getElem hl), ?_⟩
    generalize zs[p] = cell
    walk_at "dd"
    refine DR.split (fun c => ?_) (fun c => ?_)
    · walk_at "dd"
      exact fin _ _
    · walk_at "dd"
      exact fin _ _
  · walk_at "dd"
    refine DR.split (fun c => ?_) (fun c => ?_)
    · walk_at "dd"
      exact fin _ _
    · walk_at "dd"
      exact fin _ _
end
end KS

set_option Elab.async false
set_option linter.all false
set_option maxRecDepth 100000
set_option maxHeartbeats 0
set_option pp.deepTerms false
set_option pp.deepTerms.threshold 8


namespace KT
open PySem PySem.Spec PyProof.Rows L2 DL
open Dst (IsDist Walk)
theorem itT {c : Bool} {a b : Prop} (e : c = true) (h : a) : if c = true then a else b := by rw [if_pos e]; exact h
theorem itF {c : Bool} {a b : Prop} (e : c = false) (h : b) : if c = true then a else b := by rw [e, if_neg Bool.false_ne_true]; exact h
theorem ch_at {g : Str} : ∀ {gs : List Str} {is : List Int} {i : Nat}, gs.Nodup → gs[i]? = some g → is.length = gs.length → is[i]? = some (ch gs is g)
  | [], _, _, _, h, _ => by cases h
  | _ :: _, [], _, _, _, hl => nomatch hl
  | x :: gs, k :: is, 0, _, h, _ => by
    rw [List.getElem?_cons_zero] at h ⊢
    injection h with h
    subst h
    simp [ch]
  | x :: gs, k :: is, i + 1, nd, h, hl => by
    rw [List.getElem?_cons_succ] at h ⊢
    have hg : g ∈ gs := List.mem_of_getElem? h
    rw [List.nodup_cons] at nd
    rw [ch_at nd.2 h (Nat.succ.inj hl)]
    show _ = some (if x = g then k else ch gs is g)
    rw [if_neg (fun q : x = g => nd.1 (by rw [q]; exact hg))]
theorem ch_fun {f : Str → Int} : ∀ {ns : List Str} {a : Str}, a ∈ ns → ch ns (ns.map f) a = f a
  | x :: l, a, h => by
    show (if x = a then f x else ch l (l.map f) a) = f a
    by_cases e : x = a
    · rw [if_pos e, e]
    · rw [if_neg e, ch_fun ((List.mem_cons.mp h).resolve_left fun q => e q.symm)]
theorem ch_fun0 {f : Str → Int} {gs : List Str} {a : Str} (h0 : f cash = 0) (h : a ∈ cash :: gs) : ch (cash :: gs) (0 :: gs.map f) a = f a := by
  have := ch_fun (f := f) h
  rw [List.map_cons, h0] at this
  exact this
theorem ints_same {x : D} {hs gs : List Int} (a : RowOf x (hs.map .int)) (b : RowOf x (gs.map .int)) : hs = gs := by
  have inj : ∀ {l k : List Int}, l.map D.int = k.map .int → l = k := fun {l} => by
    induction l with
    | nil => intro k h; cases k with
      | nil => rfl
      | cons _ _ => cases h
    | cons x l ih => intro k h; cases k with
      | nil => cases h
      | cons y k =>
        rw [List.map_cons, List.map_cons] at h
        injection h with h1 h2
        injection h1 with h1
        rw [h1, ih h2]
  have e : hs.map D.int = gs.map .int := by
    rcases a with rfl | rfl <;> rcases b with b | b
    · injection b
    · cases b
    · cases b
    · injection b
  exact inj e
/-- the pairs that a move breaks -/
theorem Tb.fine {C : Addr} {gs : List Str} {rs : List Row} {e : En} {d : D} (h : Tb C gs rs e d) : FineRows (cash :: gs) rs := by
  obtain ⟨kvs, g, rfl, h1, h2, h3, h4, h5, h6, h7⟩ := h
  exact h2
theorem dp_ints (l : List Int) : Dp_ 2 (.tup (l.map .int)) := dp_tup (dp_map fun r _ => dp_int)
theorem walk_le {rs : List Row} {c : Str → Int} (h : ∀ r ∈ rs, c r.1 - c r.2.1 ≤ r.2.2) {n : Nat} {a b : Str} {s : Int} (w : Walk rs n a b s) : c a - c b ≤ s := by
  induction w with
  | nil => omega
  | @cons n a x b m s hr w ih =>
    have := h _ hr
    simp only at this
    omega
/-- the rows are kept where the entries are -/
theorem first_ix {ns : List Str} {z : Str} (nd : ns.Nodup) (h : z ∈ ns) : ∃ j : Nat, ns[j]? = some z ∧ ∀ m : Nat, m < j → ns[m]? ≠ some z := by
  obtain ⟨j, hj⟩ := List.mem_iff_getElem?.mp h
  have hjl := DR.at_lt hj
  exact ⟨j, hj, fun m hm e2 => by
    have := (List.getElem?_inj (Nat.lt_trans hm hjl) nd).mp (e2.trans hj.symm)
    omega⟩
/-- rows with other numbers -/
theorem good_map {ns : List Str} {rs : List Row} (f : Int → Int) (h : GoodRows ns rs) (hf : ∀ m, 0 ≤ m → 0 ≤ f m ∧ f m ≤ 1000000000000) : GoodRows ns (rs.map fun r => (r.1, r.2.1, f r.2.2)) := by
  refine ⟨fun r hr => ?_, ?_, fun a b ha hb => ?_⟩
  · obtain ⟨q, hq, rfl⟩ := List.mem_map.mp hr
    have := h.row q hq
    exact ⟨this.1, this.2.1, this.2.2.1, (hf _ this.2.2.2.1).1, (hf _ this.2.2.2.1).2⟩
  · rw [List.map_map]
    exact h.nd
  · obtain ⟨n, s, w⟩ := h.all a b ha hb
    have : ∀ {n : Nat} {a b : Str} {s : Int}, Walk rs n a b s → ∃ s', Walk (rs.map fun r => (r.1, r.2.1, f r.2.2)) n a b s' := fun w => by
      induction w with
      | nil => exact ⟨_, .nil⟩
      | cons hr _ ih => obtain ⟨s', w'⟩ := ih; exact ⟨_, .cons (List.mem_map_of_mem (f := fun r : Row => (r.1, r.2.1, f r.2.2)) hr) w'⟩
    obtain ⟨s', w'⟩ := this w
    exact ⟨n, s', w'⟩
abbrev mvD (js : List Int) : D := .tup (js.map .int)
section
variable {P : Program} {w : World} {K : PySem.W.Frag} {mg : Str → Option Value} {base : Heap} {C OG ME BG BM NA LT : Addr}
def sdBox : SpD := fun as Q _ => ∃ (ys : List D) (n many : Nat), as = [.own (.lst ys), .d (.int many)] ∧ Src n ys ∧ n < 999990000 ∧ 1 ≤ many ∧ many ≤ 3 ∧ ∀ (ms : List (List Int)) ys m, m ≤ n + 1 → Src m ys → (∀ js ∈ ms, js.length = many) → ms.length ≤ 343 → Q (.d (.lst (ms.map mvD))) [.lst ys]
abbrev s_law_box : Stmt := top 49
theorem sc_law_box : FnScope ["_law_source_here", "_law_many", "_law_low", "_law_wide", "_law_found", "_law_turn", "_law_longer", "_law_one", "_law_change"] ["_law_source_here", "_law_many"] (defScope s_law_box) := ⟨rfl, rfl, rfl, by decide +kernel, rfl, by decide +kernel, by decide +kernel⟩
theorem ok_box (D_law_draw : DefD P w K mg base "_law_draw" 1 ["_law_source_here", "_law_many"] sdDraw) {f : Addr} {fd : FuncData} (G : Fun K "_law_box" "_law_box" s_law_box f fd) (T : TxtM K mg C) : FnOk P w K mg base (L2.CX P w) 3 f fd ["_law_source_here", "_law_many"] (spOf K sdBox) := by
  refine okD G sc_law_box [0] (fun as Q E ⟨ys, n, many, q, _⟩ => by subst q; exact ⟨rfl, rfl⟩) ⟨_, fun cdv A outer s H E ad F0 H0 hr => (pds_cons (psd_unpack (pd_tup (fun h => pe_tup h) (pda_cons (pd_call D_law_draw.ok (hr.mono (by decide)) (by rfl) D_law_draw.mg D_law_draw.kp D_law_draw.b (takes_of rfl rfl rfl rfl) (pda_own (i := 0) (pv 0) (pda_cons (pd_const pe_int (fun _ => .int _)) pda_nil))) (pda_cons (pd_ix ix_list op2_ixL (pd_lst (fun h => pe_lst h) (pda_cons (pd_const pe_int (fun _ => .int _)) (pda_cons (pd_const pe_int (fun _ => .int _)) (pda_cons (pd_const pe_int (fun _ => .int _)) (pda_cons (pd_const pe_int (fun _ => .int _)) pda_nil))))) (pd_var (pv 1)) (fun _ _ => rfl)) pda_nil))) (pgd_tup (is := [2, 3]) (vs := [2, 3]) (pg_tup rfl (pgs_cons (pg_name (i := 2) sc_law_box.nd rfl (.inr rfl)) (pgs_cons (pg_name (i := 3) sc_law_box.nd rfl (.inl rfl)) pgs_nil))) rfl (by show ∀ i ∈ ([2, 3] : List Nat), ¬ (i ∈ ([0] : List Nat)) ∧ i ∈ ([2, 3] : List Nat); decide)) (fun h g => ps_asg h g))
      (pds_cons (psd_set (i := 4) (pd_lst (fun h => pe_lst h) (pda_cons (pd_tup (fun h => pe_tup h) pda_nil) pda_nil)) (by show ¬ (4 ∈ ([0] : List Nat)); decide) sc_law_box.nd rfl (.inl rfl))
      (pds_cons (psd_for (passes_of rfl) rfl (pid_range1 (by rfl) T.b_range (pda_cons (pd_var (pv 1)) pda_nil)) (pgd_name (i := 5) (vs := [5]) (pg_name (i := 5) sc_law_box.nd rfl (.inl rfl)) (by show ¬ (5 ∈ ([0] : List Nat)); decide) (by decide))
      (pds_cons (psd_set (i := 6) (pd_lst (fun h => pe_lst h) pda_nil) (by show ¬ (6 ∈ ([0] : List Nat)); decide) sc_law_box.nd rfl (.inl rfl))
      (pds_cons (psd_for (passes_of rfl) rfl (pid_list (pd_var (pv 4))) (pgd_name (i := 7) (vs := [7]) (pg_name (i := 7) sc_law_box.nd rfl (.inr rfl)) (by show ¬ (7 ∈ ([0] : List Nat)); decide) (by decide))
      (pds_one (psd_set (i := 6) (pd_op op_cat op2_cat (pd_var (pv 6)) (pd_lc (own := [("_law_change", 8)]) (by rfl) sc_law_box.nd (pid_range1 (by rfl) T.b_range (pda_cons (pd_var (pv 3)) pda_nil)) (blkOk_by (own := [("_law_change", 8)]) (N := ["_law_source_here", "_law_many", "_law_low", "_law_wide", "_law_found", "_law_turn", "_law_longer", "_law_one", "_law_change"]) (sc := defScope s_law_box) (by decide +kernel)) (fun _ _ _ _ _ => (pgd_name (i := 8) (vs := [8]) (pg_name (i := 8) sc_law_box.nd rfl (.inl rfl)) (by show ¬ (8 ∈ ([0] : List Nat)); decide) (by decide))) (fun _ _ _ _ _ => ptsd_nil) (fun _ _ _ _ _ => (pd_op op_catA op2_catT (pd_var (pv 7)) (pd_tup (fun h => pe_tup h) (pda_cons (pd_op op_sub (op2_I0 fun _ _ _ => .int _) (pd_var (pv 8)) (pd_var (pv 2))) pda_nil)))) (by show ∀ i ∈ ([8] : List Nat), ¬ (i ∈ ([0] : List Nat)); decide))) (by show ¬ (6 ∈ ([0] : List Nat)); decide) sc_law_box.nd rfl (.inl rfl))))
      (pds_one (psd_set (i := 4) (pd_var (pv 6)) (by show ¬ (4 ∈ ([0] : List Nat)); decide) sc_law_box.nd rfl (.inl rfl))))))
      (pds_one (psd_ret (pd_var (pv 4))))))), ?_⟩
  rintro as Qd Ed ⟨ys, n, many, rfl, hs, hn, h1, h3, k⟩
  refine DR.start (δ' := [some (.own (.lst ys)), some (.d (.int many)), none, none, none, none, none, none, none]) rfl ?_
  walk_at "dd"
  refine draw hs (by omega) (by decide) (by decide) fun r ys1 r0 r1 hs1 => ?_
  walk_at "dd"
  obtain ⟨wd, hw, w0, w7⟩ : ∃ wd : Int, atI [D.int 0, D.int 7, D.int 7, D.int 6] (many : Int) = some (.int wd) ∧ 0 ≤ wd ∧ wd ≤ 7 := by
    rcases (show many = 1 ∨ many = 2 ∨ many = 3 by omega) with rfl | rfl | rfl
    · exact ⟨7, rfl, by decide, by decide⟩
    · exact ⟨7, rfl, by decide, by decide⟩
    · exact ⟨6, rfl, by decide, by decide⟩
  refine ⟨_, _, .inl rfl, hw, ?_⟩
  walk_at "dd"
  refine DR.tupg ?_
  walk_at "dd"
  refine ⟨by omega, by omega, DR.for_inv (fun i δ => ∃ ms : List (List Int), ∃ p5 p6 p7, δ = [some (.own (.lst ys1)), some (.d (.int many)), some (.d (.int r)), some (.d (.int wd)), some (.d (.lst (ms.map mvD))), p5, p6, p7, none] ∧ (∀ js ∈ ms, js.length = i) ∧ ms.length ≤ 7 ^ i) ⟨[[]], _, _, _, rfl, fun js h => by rw [List.mem_singleton.mp h]; rfl, by decide⟩ ?_ ?_⟩
  · rintro i x δ N hx ⟨ms, p5, p6, p7, rfl, hms, hml⟩ kN
    have hi : i < 3 := by
      have := DR.at_lt hx
      simp [upto] at this
      omega
    have p3 : 7 ^ i ≤ 49 := by
      rcases (show i = 0 ∨ i = 1 ∨ i = 2 by omega) with rfl | rfl | rfl <;> decide
    walk_at "dd"
    refine DR.for_inv (fun j δ => ∃ ls : List (List Int), ∃ p7, δ = [some (.own (.lst ys1)), some (.d (.int many)), some (.d (.int r)), some (.d (.int wd)), some (.d (.lst (ms.map mvD))), some (.d x), some (.d (.lst (ls.map mvD))), p7, none] ∧ (∀ js ∈ ls, js.length = i + 1) ∧ ls.length ≤ 7 * j) ⟨[], _, rfl, fun js h => absurd h List.not_mem_nil, Nat.le_refl _⟩ ?_ ?_
    · rintro j y δ N2 hy ⟨ls, p7, rfl, hls, hll⟩ kN2
      obtain ⟨js, hjx, rfl⟩ := DR.map_at hy
      have hj49 : j < 49 := Nat.lt_of_lt_of_le (DR.at_lt hjx) (Nat.le_trans hml p3)
      walk_at "dd"
      refine ⟨by omega, by omega, ?_⟩
      rw [show upto 0 wd.toNat = (List.range wd.toNat).map fun k => D.int (0 + (k : Nat)) from rfl]
      refine DR.lc_mapM (fun k : Nat => mvD (js ++ [0 + (k : Int) - r])) (fun k acc N3 hk hl2 kN3 => ?_) ?_
      · walk_at "dd"
        have jl := hms js (List.mem_of_getElem? hjx)
        refine ⟨Nat.le_trans (show _ ≤ 10 by rw [List.length_map]; show js.length + 1 ≤ 10; omega) (by decide), ?_⟩
        rw [List.length_range] at hl2
        refine ⟨Nat.lt_of_lt_of_le hl2 (Nat.le_trans (show wd.toNat ≤ 7 by omega) (by decide)), ?_⟩
        rw [show mvD (js ++ [0 + (k : Int) - r]) = D.tup (js.map D.int ++ [D.int (0 + (k : Int) - r)]) by unfold mvD; rw [List.map_append]; rfl] at kN3
        exact kN3
      walk_at "dd"
      have rl : ((List.range wd.toNat).map fun k : Nat => js ++ [0 + (k : Int) - r]).length ≤ 7 := by rw [List.length_map, List.length_range]; omega
      refine ⟨Nat.le_trans (show _ ≤ 343 + 7 by rw [List.length_map, List.length_map, List.length_range]; omega) (by decide), ?_⟩
      refine kN2 _ ⟨ls ++ (List.range wd.toNat).map fun k : Nat => js ++ [0 + (k : Int) - r], _, by rw [List.map_append, List.map_map]; rfl, fun l h => ?_, by rw [List.length_append]; omega⟩
      rcases List.mem_append.mp h with h | h
      · exact hls l h
      · obtain ⟨k, _, rfl⟩ := List.mem_map.mp h
        rw [List.length_append, hms js (List.mem_of_getElem? hjx)]
        rfl
    · rintro δ ⟨ls, p7, rfl, hls, hll⟩
      walk_at "dd"
      exact kN _ ⟨ls, _, _, _, rfl, hls, by rw [List.length_map] at hll; rw [Nat.pow_succ]; omega⟩
  · rintro δ ⟨ms, p5, p6, p7, rfl, hms, hml⟩
    have hu : (upto 0 (many : Int).toNat).length = many := by simp [upto]
    rw [hu] at hms hml
    walk_at "dd"
    refine k ms ys1 _ (by omega) hs1 hms (Nat.le_trans hml ?_)
    rcases (show many = 1 ∨ many = 2 ∨ many = 3 by omega) with rfl | rfl | rfl <;> decide
def sdHolds : SpD := fun as Q _ => ∃ (js : List Int) (gs : List Str) (rs : List Row), as = [.d (mvD js), .d (.lst (gs.map .str)), .d (.lst (rs.map rowD))] ∧ Goods gs ∧ js.length = gs.length ∧ (∀ r ∈ rs, r.1 ∈ cash :: gs ∧ r.2.1 ∈ cash :: gs) ∧ Q (.d (.bl (brk rs (ch (cash :: gs) (0 :: js))).isNone)) []
abbrev s_law_holds : Stmt := top 50
theorem sc_law_holds : FnScope ["_law_move", "_law_goods_here", "_law_rows_here", "_law_names", "_law_changes", "_law_up", "_law_down", "_law_most"] ["_law_move", "_law_goods_here", "_law_rows_here"] (defScope s_law_holds) := ⟨rfl, rfl, rfl, by decide +kernel, rfl, by decide +kernel, by decide +kernel⟩
theorem ok_holds {f : Addr} {fd : FuncData} (G : Fun K "_law_holds" "_law_holds" s_law_holds f fd) (T : TxtM K mg C) : FnOk P w K mg base (L2.CX P w) 1 f fd ["_law_move", "_law_goods_here", "_law_rows_here"] (spOf K sdHolds) := by
  refine okD G sc_law_holds [] (fun as Q E ⟨js, gs, rs, q, _⟩ => by subst q; exact ⟨rfl, rfl⟩) ⟨_, fun cdv A outer s H E ad F0 H0 hr => (pds_cons (psd_par (i := 3) (j := 4) (oi := false) (oj := false) (pka_cons (pd_op op_cat op2_cat (pd_lst (fun h => pe_lst h) (pda_cons (pd_const pe_str (fun _ => .str (by decide +kernel))) pda_nil)) (pd_var (pv 1))) (pka_cons (pd_op op_cat op2_cat (pd_lst (fun h => pe_lst h) (pda_cons (pd_const pe_int (fun _ => .int _)) pda_nil)) (pd_builtB (fun h => pe_callTy call_list_of (by rfl) T.b_list (by decide +kernel) h) cn_list (pda_cons (pd_var (pv 0)) pda_nil))) pka_nil)) (by show ¬ (3 ∈ ([] : List Nat)); decide) (by show ¬ (4 ∈ ([] : List Nat)); decide) (fun h => ps_par (i := 3) (j := 4) (by rfl) sc_law_holds.nd rfl rfl (by decide) rfl rfl h (by rfl)) (by decide))
      (pds_cons (psd_for (passes_of rfl) rfl (pid_list (pd_var (pv 2))) (pgd_tup (is := [5, 6, 7]) (vs := [5, 6, 7]) (pg_tup rfl (pgs_cons (pg_name (i := 5) sc_law_holds.nd rfl (.inl rfl)) (pgs_cons (pg_name (i := 6) sc_law_holds.nd rfl (.inl rfl)) (pgs_cons (pg_name (i := 7) sc_law_holds.nd rfl (.inl rfl)) pgs_nil)))) rfl (by show ∀ i ∈ ([5, 6, 7] : List Nat), ¬ (i ∈ ([] : List Nat)) ∧ i ∈ ([5, 6, 7] : List Nat); decide))
      (pds_one (psd_if (ptd_cmp op_gt (op2_I0 fun _ _ _ => .bl _) (pd_op op_sub (op2_I0 fun _ _ _ => .int _) (pd_ix ix_list op2_ixL (pd_var (pv 4)) (pd_index (pd_var (pv 3)) (pda_cons (pd_var (pv 5)) pda_nil)) (fun _ _ => rfl)) (pd_ix ix_list op2_ixL (pd_var (pv 4)) (pd_index (pd_var (pv 3)) (pda_cons (pd_var (pv 6)) pda_nil)) (fun _ _ => rfl))) (pd_var (pv 7)) (nomark _)) (pds_one (psd_ret (pd_const pe_bl (fun _ => .bl _)))) pds_nil)))
      (pds_one (psd_ret (pd_const pe_bl (fun _ => .bl _)))))), ?_⟩
  rintro as Qd Ed ⟨js, gs, rs, rfl, hg, hl, hr, k⟩
  refine DR.start (δ' := [some (.d (mvD js)), some (.d (.lst (gs.map .str))), some (.d (.lst (rs.map rowD))), none, none, none, none, none]) rfl ?_
  walk_at "dd"
  have hgl := hg.2.2.1
  refine ⟨Nat.le_trans (show _ ≤ 6 by show 1 + (gs.map D.str).length ≤ 6; rw [List.length_map]; omega) (by decide), ?_⟩
  walk_at "dd"
  refine ⟨Nat.le_trans (show _ ≤ 6 by show 1 + (js.map D.int).length ≤ 6; rw [List.length_map]; omega) (by decide), ?_⟩
  walk_at "dd"
  refine DR.for_inv (fun i δ => ∃ p5 p6 p7, δ = [some (.d (mvD js)), some (.d (.lst (gs.map .str))), some (.d (.lst (rs.map rowD))), some (.d (.lst ((cash :: gs).map .str))), some (.d (.lst ((0 :: js).map .int))), p5, p6, p7] ∧ (rs.take i).find? (fun r => decide (ch (cash :: gs) (0 :: js) r.1 - ch (cash :: gs) (0 :: js) r.2.1 > r.2.2)) = none) ⟨_, _, _, rfl, rfl⟩ ?_ ?_
  · rintro i x δ N hx ⟨p5, p6, p7, rfl, hn⟩ kN
    obtain ⟨⟨a, b, m⟩, hri, rfl⟩ := DR.map_at hx
    obtain ⟨ha, hb⟩ := hr _ (List.mem_of_getElem? hri)
    obtain ⟨y, n⟩ := find_at hn hri
    obtain ⟨j, hj, hj2⟩ := first_ix (goods_nd hg) ha
    obtain ⟨l, hl1, hl2⟩ := first_ix (goods_nd hg) hb
    have hlen : (0 :: js).length = (cash :: gs).length := by rw [List.length_cons, List.length_cons, hl]
    walk_at "dd"
    refine ⟨a, j, rfl, hj, hj2, ?_⟩
    walk_at "dd"
    refine ⟨_, _, .inl rfl, atI_map (ch_at (goods_nd hg) hj hlen), ?_⟩
    walk_at "dd"
    refine ⟨b, l, rfl, hl1, hl2, ?_⟩
    walk_at "dd"
    refine ⟨_, _, .inl rfl, atI_map (ch_at (goods_nd hg) hl1 hlen), ?_⟩
    walk_at "dd"
    refine DR.split (fun c => ?_) (fun c => ?_)
    · walk_at "dd"
      have q := y (decide_eq_true (by omega))
      unfold brk at k
      rw [q] at k
      exact k
    · walk_at "dd"
      exact kN _ ⟨_, _, _, rfl, n (decide_eq_false (by omega))⟩
  · rintro δ ⟨p5, p6, p7, rfl, hn⟩
    rw [List.length_map, List.take_length] at hn
    unfold brk at k
    rw [hn] at k
    walk_at "dd"
    exact k
def sdSmall : SpD := fun as Q _ => ∃ (ys : List D) (n : Nat) (gs : List Str) (rs : List Row), as = [.own (.lst ys), .d (.lst (rs.map rowD))] ∧ Src n ys ∧ n < 999990000 ∧ GoodRows (cash :: gs) rs ∧ rs.length ≤ 200 ∧ ∀ r2 ys m (v : DV), m ≤ n + 1 → Src m ys → GoodRows (cash :: gs) r2 → r2.length ≤ 200 → v.toD = .lst (r2.map rowD) → Q v [.lst ys]
abbrev s_law_small : Stmt := top 51
theorem sc_law_small : FnScope ["_law_source_here", "_law_rows_here", "_law_up", "_law_down", "_law_most"] ["_law_source_here", "_law_rows_here"] (defScope s_law_small) := ⟨rfl, rfl, rfl, by decide +kernel, rfl, by decide +kernel, by decide +kernel⟩
theorem ok_small (D_law_draw : DefD P w K mg base "_law_draw" 1 ["_law_source_here", "_law_many"] sdDraw) {f : Addr} {fd : FuncData} (G : Fun K "_law_small" "_law_small" s_law_small f fd) (T : TxtM K mg C) : FnOk P w K mg base (L2.CX P w) 3 f fd ["_law_source_here", "_law_rows_here"] (spOf K sdSmall) := by
  refine okD G sc_law_small [0] (fun as Q E ⟨ys, n, gs, rs, q, _⟩ => by subst q; exact ⟨rfl, rfl⟩) ⟨_, fun cdv A outer s H E ad F0 H0 hr => (pds_cons (psd_if (ptd_cmp op_eq op2_eq.op (pd_call D_law_draw.ok (hr.mono (by decide)) (by rfl) D_law_draw.mg D_law_draw.kp D_law_draw.b (takes_of rfl rfl rfl rfl) (pda_own (i := 0) (pv 0) (pda_cons (pd_const pe_int (fun _ => .int _)) pda_nil))) (pd_const pe_int (fun _ => .int _)) (nomark _)) (pds_one (psd_ret (pd_var (pv 1)))) pds_nil)
      (pds_one (psd_ret (pd_lc (own := [("_law_up", 2), ("_law_down", 3), ("_law_most", 4)]) (by rfl) sc_law_small.nd (pid_list (pd_var (pv 1))) (blkOk_by (own := [("_law_up", 2), ("_law_down", 3), ("_law_most", 4)]) (N := ["_law_source_here", "_law_rows_here", "_law_up", "_law_down", "_law_most"]) (sc := defScope s_law_small) (by decide +kernel)) (fun _ _ _ _ _ => (pgd_tup (is := [2, 3, 4]) (vs := [2, 3, 4]) (pg_tup rfl (pgs_cons (pg_name (i := 2) sc_law_small.nd rfl (.inl rfl)) (pgs_cons (pg_name (i := 3) sc_law_small.nd rfl (.inl rfl)) (pgs_cons (pg_name (i := 4) sc_law_small.nd rfl (.inl rfl)) pgs_nil)))) rfl (by show ∀ i ∈ ([2, 3, 4] : List Nat), ¬ (i ∈ ([0] : List Nat)) ∧ i ∈ ([2, 3, 4] : List Nat); decide))) (fun _ _ _ _ _ => ptsd_nil) (fun _ _ _ _ _ => (pd_tup (fun h => pe_tup h) (pda_cons (pd_var (pv 2)) (pda_cons (pd_var (pv 3)) (pda_cons (pd_op op_mod (op2_I fun _ _ _ => .int _) (pd_builtB (fun h => pe_callTy call_int1 (by rfl) T.b_int (by decide +kernel) h) cn_int.op (pda_cons (pd_var (pv 4)) pda_nil)) (pd_const pe_int (fun _ => .int _))) pda_nil))))) (by show ∀ i ∈ ([2, 3, 4] : List Nat), ¬ (i ∈ ([0] : List Nat)); decide))))), ?_⟩
  rintro as Qd Ed ⟨ys, n, gs, rs, rfl, hs, hn, hg, hl, k⟩
  refine DR.start (δ' := [some (.own (.lst ys)), some (.d (.lst (rs.map rowD))), none, none, none]) rfl ?_
  walk_at "dd"
  refine draw hs (by omega) (by decide) (by decide) fun r ys1 r0 r1 hs1 => ?_
  walk_at "dd"
  refine DR.split (fun c => ?_) (fun c => ?_)
  · walk_at "dd"
    exact k rs ys1 _ _ (by omega) hs1 hg hl rfl
  · walk_at "dd"
    refine DR.lc_mapM (fun q : Row => rowD (q.1, q.2.1, q.2.2 % 4)) (fun q acc N hq hl2 kN => ?_) ?_
    · obtain ⟨a, b, m⟩ := q
      walk_at "dd"
      exact ⟨Nat.lt_of_lt_of_le hl2 (Nat.le_trans hl (by decide)), kN⟩
    walk_at "dd"
    have := k (rs.map fun q => (q.1, q.2.1, q.2.2 % 4)) ys1 _ (.own (.lst (rs.map fun q : Row => rowD (q.1, q.2.1, q.2.2 % 4)))) (by omega) hs1 (good_map (fun m => m % 4) hg fun m hm => ⟨by omega, by omega⟩) (by rw [List.length_map]; exact hl) (by show D.lst _ = _; rw [List.map_map]; rfl)
    exact this
end
end KT

set_option Elab.async false
set_option linter.all false
set_option maxRecDepth 100000
set_option maxHeartbeats 0
set_option pp.deepTerms false
set_option pp.deepTerms.threshold 8

namespace KT
open PySem PySem.Spec PyProof.Rows L2 DL
open Dst (IsDist Walk)
/-- no entry forbids these changes -/
def All (ns : List Str) (e : En) (c : Str → Int) : Prop := ∀ a b, a ∈ ns → b ∈ ns → c a - c b ≤ e a b
theorem brk_iff {ns : List Str} {rs : List Row} {e : En} {c : Str → Int} (h : FineRows ns rs) (t : Ent ns rs e) : brk rs c = none ↔ All ns e c := by
  constructor
  · intro z a b ha hb
    obtain ⟨n, w⟩ := t.at_ a b ha hb
    refine walk_le (fun r hr => ?_) w
    have := List.find?_eq_none.mp z r hr
    simp only [decide_eq_true_eq] at this
    omega
  · intro z
    unfold brk
    rw [List.find?_eq_none]
    intro r hr q
    have q := of_decide_eq_true q
    obtain ⟨h1, h2, _⟩ := h.row r hr
    have w : Walk rs 1 r.1 r.2.1 (r.2.2 + 0) := .cons hr .nil
    have := t.low _ _ _ _ h1 h2 w
    have := z r.1 r.2.1 h1 h2
    omega
theorem brk_ent {ns : List Str} {e : En} {c : Str → Int} (nd : ns.Nodup) (m : Met ns e) : brk (entRows ns e) c = none ↔ All ns e c := brk_iff (fine_ent nd m.nn) m.ent
theorem isNone_eq {α : Type} {o : Option α} {p : Prop} [Decidable p] (h : o = none ↔ p) : o.isNone = decide p := by
  cases o with
  | none => exact (decide_eq_true (h.mp rfl)).symm
  | some x => exact (decide_eq_false fun q => nomatch h.mpr q).symm
theorem all_and {ns : List Str} {m e f : En} {c : Str → Int} (i : Inf ns m e f) (me : Met ns e) (mf : Met ns f) : All ns m c ↔ All ns e c ∧ All ns f c := by
  constructor
  · exact fun h => ⟨fun a b ha hb => Int.le_trans (h a b ha hb) (i.le1 a b ha hb), fun a b ha hb => Int.le_trans (h a b ha hb) (i.le2 a b ha hb)⟩
  · rintro ⟨h1, h2⟩ a b ha hb
    have g := i.gr (fun a b => Max.max (c a - c b) 0) ⟨fun a _ => by show Max.max (c a - c a) 0 = 0; omega, fun a b _ _ => by show 0 ≤ Max.max (c a - c b) 0; omega, fun a b d _ _ _ => by
      show Max.max (c a - c d) 0 ≤ Max.max (c a - c b) 0 + Max.max (c b - c d) 0
      omega⟩ (fun a b ha hb => by have := h1 a b ha hb; have := me.nn a b ha hb; show Max.max (c a - c b) 0 ≤ _; omega) (fun a b ha hb => by have := h2 a b ha hb; have := mf.nn a b ha hb; show Max.max (c a - c b) 0 ≤ _; omega) a b ha hb
    have g : Max.max (c a - c b) 0 ≤ m a b := g
    omega
theorem all_or {ns : List Str} {e f : En} {c : Str → Int} (h : All ns e c ∨ All ns f c) : All ns (fun a b => max (e a b) (f a b)) c := fun a b ha hb => by
  show _ ≤ max (e a b) (f a b)
  rcases h with h | h
  · have := h a b ha hb; omega
  · have := h a b ha hb; omega
theorem ch_zip {a : Str} : ∀ {ns : List Str} {is ks : List Int}, is.length = ns.length → ks.length = ns.length → ch ns (is.zipWith (fun x y => x + y) ks) a = ch ns is a + ch ns ks a
  | [], [], [], _, _ => rfl
  | x :: ns, i :: is, k :: ks, h1, h2 => by
    show (if x = a then i + k else ch ns (is.zipWith (fun x y => x + y) ks) a) = (if x = a then i else ch ns is a) + (if x = a then k else ch ns ks a)
    by_cases hx : x = a
    · rw [if_pos hx, if_pos hx, if_pos hx]
    · rw [if_neg hx, if_neg hx, if_neg hx, ch_zip (Nat.succ.inj h1) (Nat.succ.inj h2)]
theorem all_add {gs : List Str} {e f : En} {is ks : List Int} (h1 : is.length = gs.length) (h2 : ks.length = gs.length) (a1 : All (cash :: gs) e (ch (cash :: gs) (0 :: is))) (a2 : All (cash :: gs) f (ch (cash :: gs) (0 :: ks))) :
    All (cash :: gs) (fun a b => e a b + f a b) (ch (cash :: gs) (0 :: is.zipWith (fun x y => x + y) ks)) := fun a b ha hb => by
  have q : ∀ x, ch (cash :: gs) (0 :: is.zipWith (fun x y => x + y) ks) x = ch (cash :: gs) (0 :: is) x + ch (cash :: gs) (0 :: ks) x := fun x => ch_zip (ns := cash :: gs) (is := 0 :: is) (ks := 0 :: ks) (by rw [List.length_cons, List.length_cons, h1]) (by rw [List.length_cons, List.length_cons, h2])
  have := a1 a b ha hb
  have := a2 a b ha hb
  show _ ≤ e a b + f a b
  rw [q, q]
  omega
/-- no entry of e is above f's -/
def LeE (ns : List Str) (e f : En) : Prop := ∀ a b, a ∈ ns → b ∈ ns → e a b ≤ f a b
def exl (gs : List Str) (e : En) (d : Str) : List Int := gs.map fun g => e g d - e cash d
theorem exl_ch {gs : List Str} {e : En} {a d : Str} (ha : a ∈ cash :: gs) : ch (cash :: gs) (0 :: exl gs e d) a = e a d - e cash d := ch_fun0 (f := fun a => e a d - e cash d) (Int.sub_self _) ha
theorem ends_iff {gs : List Str} {e f : En} (me : Met (cash :: gs) e) (mf : Met (cash :: gs) f) : (∀ d, d ∈ cash :: gs → All (cash :: gs) f (ch (cash :: gs) (0 :: exl gs e d))) ↔ LeE (cash :: gs) e f := by
  constructor
  · intro h a b ha hb
    have := h b hb a b ha hb
    rw [exl_ch ha, exl_ch hb, me.zero b hb] at this
    omega
  · intro h d hd a b ha hb
    rw [exl_ch ha, exl_ch hb]
    have := me.tri a b d ha hb hd
    have := h a b ha hb
    omega
theorem all_mono {ns : List Str} {e f : En} {c : Str → Int} (h : LeE ns e f) (k : All ns e c) : All ns f c := fun a b ha hb => Int.le_trans (k a b ha hb) (h a b ha hb)
theorem up_iff {ns : List Str} {e f : En} (me : Met ns e) (mf : Met ns f) : firstUp ns e f = none ↔ LeE ns e f := by
  unfold firstUp
  rw [List.find?_eq_none]
  constructor
  · intro h a b ha hb
    by_cases q : a = b
    · subst q; rw [me.zero a ha, mf.zero a ha]; exact Int.le_refl _
    · have := h (a, b, e a b) (entRows_mem.mpr ⟨ha, hb, q, rfl⟩)
      simp only [decide_eq_true_eq] at this
      omega
  · intro h r hr c
    obtain ⟨h1, h2, _, h4⟩ := entRows_mem.mp hr
    have := of_decide_eq_true c
    have := h _ _ h1 h2
    omega
theorem rows_eq {gs : List Str} {e f : En} (me : Met (cash :: gs) e) (mf : Met (cash :: gs) f) : Same2 gs gs e f ↔ ∀ a b, a ∈ cash :: gs → b ∈ cash :: gs → e a b = f a b := by
  constructor
  · rintro ⟨_, h⟩ a b ha hb
    by_cases q : a = b
    · subst q; rw [me.zero a ha, mf.zero a ha]
    · have : ((a, b, e a b) : Row) ∈ entRows (cash :: gs) f := h ▸ entRows_mem.mpr ⟨ha, hb, q, rfl⟩
      exact (entRows_mem.mp this).2.2.2
  · exact fun h => ⟨rfl, entRows_congr h⟩
theorem and_iff {gs : List Str} {m e f : En} (i : Inf (cash :: gs) m e f) (me : Met (cash :: gs) e) : Same2 gs gs m e ↔ LeE (cash :: gs) e f := by
  rw [rows_eq i.met me]
  constructor
  · exact fun h a b ha hb => by rw [← h a b ha hb]; exact i.le2 a b ha hb
  · exact fun h a b ha hb => Int.le_antisymm (i.le1 a b ha hb) (i.gr e me (fun a b _ _ => Int.le_refl _) h a b ha hb)
theorem or_iff {gs : List Str} {e f : En} (me : Met (cash :: gs) e) (mf : Met (cash :: gs) f) : Same2 gs gs (fun a b => max (e a b) (f a b)) f ↔ LeE (cash :: gs) e f := by
  rw [rows_eq (me.max mf) mf]
  constructor
  · exact fun h a b ha hb => by have := h a b ha hb; have : max (e a b) (f a b) = f a b := this; omega
  · exact fun h a b ha hb => by have := h a b ha hb; show max (e a b) (f a b) = f a b; omega
theorem fits_is {C BM : Addr} {gs : List Str} {rs : List Row} {e : En} {d m : D} {js : List Int} {Q : DV → List OC → Prop} {E : Ex → List OC → Prop} (t : Tb C gs rs e d) (hm : RowOf m (js.map .int)) (hl : js.length = gs.length) (k : Q (.d (.bl (brk rs (ch (cash :: gs) (0 :: js))).isNone)) []) : sdFits C BM [.d m, .d d] Q E := by
  refine ⟨gs, rs, e, _, d, rfl, t, ma_ints hm, fun v z => (by rw [moveW_ok hm hl] at z; cases z), fun is h1 h2 => ?_⟩
  obtain rfl := ints_same h1 hm
  exact k
theorem eqv_mvs {l k : List (List Int)} : PyData.eqv (D.lst (l.map mvD)).py (D.lst (k.map mvD)).py = decide (l = k) := eqv_lsts (r := mvD) fun a b => eqv_tups eqv_ints
theorem dp_mvs (l : List (List Int)) : Dp_ 3 (.lst (l.map mvD)) := dp_lst (dp_map fun r _ => dp_ints r)
theorem dp_nil : Dp_ 2 (.lst []) := dp_lst (n := 1) fun d h => absurd h List.not_mem_nil
theorem walk_ends {rs r2 : List Row} (h : ∀ r ∈ rs, ∃ m, ((r.1, r.2.1, m) : Row) ∈ r2) {n : Nat} {a b : Str} {s : Int} (w : Walk rs n a b s) : ∃ s', Walk r2 n a b s' := by
  induction w with
  | nil => exact ⟨_, .nil⟩
  | cons hr _ ih =>
    obtain ⟨m, hm⟩ := h _ hr
    obtain ⟨s', w'⟩ := ih
    exact ⟨_, .cons hm w'⟩
theorem fine_up {ns : List Str} {rs r2 : List Row} (h : FineRows ns rs) (e : r2.map ends = rs.map ends) (nn : ∀ r ∈ r2, 0 ≤ r.2.2) : FineRows ns r2 := by
  refine ⟨fun r hr => ?_, by rw [e]; exact h.nd, fun a b ha hb => ?_⟩
  · have m : ends r ∈ rs.map ends := by rw [← e]; exact List.mem_map_of_mem hr
    obtain ⟨q, hq, eq⟩ := List.mem_map.mp m
    have := h.row q hq
    obtain ⟨q1, q2, q3⟩ := q
    obtain ⟨r1, r2', r3⟩ := r
    have eq : (q1, q2) = (r1, r2') := eq
    cases eq
    exact ⟨this.1, this.2.1, this.2.2.1, nn _ hr⟩
  · obtain ⟨n, s, w⟩ := h.all a b ha hb
    obtain ⟨s', w'⟩ := walk_ends (r2 := r2) (fun q hq => by
      have m : ends q ∈ r2.map ends := by rw [e]; exact List.mem_map_of_mem hq
      obtain ⟨r, hr, er⟩ := List.mem_map.mp m
      obtain ⟨q1, q2, q3⟩ := q
      obtain ⟨r1, r2', r3⟩ := r
      have er : (r1, r2') = (q1, q2) := er
      cases er
      exact ⟨_, hr⟩) w
    exact ⟨n, s', w'⟩
/-- right rows of a table with a great cap -/
def Ok2 (gs : List Str) (rs : List Row) : Prop := FineRows (cash :: gs) rs ∧ rs.length ≤ 200 ∧ ∀ r ∈ rs, r.2.2 ≤ 10000000000000
/-- what a move breaks -/
def frees (gs : List Str) (rs : List Row) (js : List Int) : Bool := (brk rs (ch (cash :: gs) (0 :: js))).isNone
theorem frees_iff {gs : List Str} {rs : List Row} {e : En} {js : List Int} (h : FineRows (cash :: gs) rs) (t : Ent (cash :: gs) rs e) : frees gs rs js = true ↔ All (cash :: gs) e (ch (cash :: gs) (0 :: js)) := by
  unfold frees
  rw [← brk_iff h t]
  exact Option.isNone_iff_eq_none
theorem dv_lst {v : DV} {l : List D} (e : v.toD = .lst l) : v = .d (.lst l) ∨ v = .own (.lst l) := by
  match v, e with
  | .d x, e => exact .inl (congrArg DV.d e)
  | .own (.lst ds), e => injection e with e; exact .inr (by rw [e])
  | .own (.ins _ _), e => cases e
  | .own (.dT _), e => cases e
  | .own (.dK _), e => cases e
theorem neS_same {b : Bool} : (if true = true then !decide (V.bl b = V.bl b) else decide (V.bl b = V.bl b)) = false := by
  rw [if_pos rfl, decide_eq_true rfl]
  rfl
theorem bool_iff {a b : Bool} {p : Prop} (h : a = true ↔ p) (k : b = true ↔ p) : a = b := by
  cases a <;> cases b
  · rfl
  · exact absurd (h.mpr (k.mp rfl)) Bool.false_ne_true
  · exact absurd (k.mpr (h.mp rfl)) Bool.false_ne_true
  · rfl
theorem frees_and {gs : List Str} {r1 r2 : List Row} {ea eb mm : En} {js : List Int} (nd : (cash :: gs).Nodup) (h1 : FineRows (cash :: gs) r1) (t1 : Ent (cash :: gs) r1 ea) (h2 : FineRows (cash :: gs) r2) (t2 : Ent (cash :: gs) r2 eb) (i : Inf (cash :: gs) mm ea eb) : frees gs (entRows (cash :: gs) mm) js = (frees gs r1 js && frees gs r2 js) := by
  refine bool_iff (p := All (cash :: gs) mm (ch (cash :: gs) (0 :: js))) (frees_iff (fine_ent nd i.met.nn) i.met.ent) ?_
  rw [Bool.and_eq_true, frees_iff h1 t1, frees_iff h2 t2]
  exact (all_and i (Ent.met h1 t1) (Ent.met h2 t2)).symm
theorem frees_or {gs : List Str} {r1 r2 : List Row} {ea eb : En} {js : List Int} (nd : (cash :: gs).Nodup) (h1 : FineRows (cash :: gs) r1) (t1 : Ent (cash :: gs) r1 ea) (h2 : FineRows (cash :: gs) r2) (t2 : Ent (cash :: gs) r2 eb) (h : (frees gs r1 js || frees gs r2 js) = true) : frees gs (entRows (cash :: gs) fun a b => max (ea a b) (eb a b)) js = true := by
  have mt := (Ent.met h1 t1).max (Ent.met h2 t2)
  refine (frees_iff (fine_ent nd mt.nn) mt.ent).mpr (all_or ?_)
  rw [Bool.or_eq_true] at h
  exact h.imp (frees_iff h1 t1).mp (frees_iff h2 t2).mp
theorem frees_add {gs : List Str} {r1 r2 : List Row} {ea eb : En} {js ks : List Int} (nd : (cash :: gs).Nodup) (h1 : FineRows (cash :: gs) r1) (t1 : Ent (cash :: gs) r1 ea) (h2 : FineRows (cash :: gs) r2) (t2 : Ent (cash :: gs) r2 eb) (hj : js.length = gs.length) (hk : ks.length = gs.length) (f1 : frees gs r1 js = true) (f2 : frees gs r2 ks = true) :
    frees gs (entRows (cash :: gs) fun a b => ea a b + eb a b) (js.zipWith (fun x y => x + y) ks) = true := by
  have mt := (Ent.met h1 t1).add (Ent.met h2 t2)
  exact (frees_iff (fine_ent nd mt.nn) mt.ent).mpr (all_add hj hk ((frees_iff h1 t1).mp f1) ((frees_iff h2 t2).mp f2))
theorem frees_ent {gs : List Str} {r1 : List Row} {ea : En} {js : List Int} (nd : (cash :: gs).Nodup) (h1 : FineRows (cash :: gs) r1) (t1 : Ent (cash :: gs) r1 ea) : frees gs (entRows (cash :: gs) ea) js = frees gs r1 js :=
  bool_iff (frees_iff (fine_ent nd (Ent.met h1 t1).nn) (Ent.met h1 t1).ent) (frees_iff h1 t1)
theorem frees_ends {gs : List Str} {r2 : List Row} {ea eb : En} {ins : Bool} (hin : ins = true ↔ LeE (cash :: gs) ea eb) (ma : Met (cash :: gs) ea) (h2 : FineRows (cash :: gs) r2) (t2 : Ent (cash :: gs) r2 eb) : ((cash :: gs).map fun d => frees gs r2 (exl gs ea d)).all id = ins := by
  refine bool_iff (p := LeE (cash :: gs) ea eb) ?_ hin
  rw [← ends_iff ma (Ent.met h2 t2), List.all_map, List.all_eq_true]
  exact ⟨fun h d hd => (frees_iff h2 t2).mp (h d hd), fun h d hd => (frees_iff h2 t2).mpr (h d hd)⟩
theorem first_is {C BM : Addr} {gs : List Str} {rs : List Row} {e : En} {d m : D} {js : List Int} {Q : DV → List OC → Prop} {E : Ex → List OC → Prop} (t : Tb C gs rs e d) (hm : RowOf m (js.map .int)) (hl : js.length = gs.length) (k : Q (.d (upD (brk (entRows (cash :: gs) e) (ch (cash :: gs) (0 :: js))))) []) : sdFirst C BM [.d m, .d d] Q E := by
  refine ⟨gs, rs, e, _, d, rfl, t, ma_ints hm, fun v z => (by rw [moveW_ok hm hl] at z; cases z), fun is h1 h2 => ?_⟩
  obtain rfl := ints_same h1 hm
  exact k
theorem at_mv {α : Type} {f : α → D} {l : List α} {r : Int} (h0 : 0 ≤ r) (h1 : r < l.length) : ∃ a, a ∈ l ∧ atI (l.map f) r = some (f a) := by
  have hl : r.toNat < l.length := by omega
  refine ⟨l[r.toNat], List.getElem_mem hl, ?_⟩
  have := atI_map (f := f) (List.getElem?_eq_getElem hl)
  rwa [Int.toNat_of_nonneg h0] at this
theorem zip_ints : ∀ {js ks : List Int}, zipL (js.map .int) (ks.map .int) = (js.zip ks).map fun p => .tup [.int p.1, .int p.2]
  | [], _ => rfl
  | _ :: _, [] => rfl
  | j :: js, k :: ks => congrArg (D.tup [.int j, .int k] :: ·) (zip_ints (js := js) (ks := ks))
theorem zip_add : ∀ {js ks : List Int}, (js.zip ks).map (fun p => D.int (p.1 + p.2)) = (js.zipWith (fun x y => x + y) ks).map .int
  | [], _ => rfl
  | _ :: _, [] => rfl
  | j :: js, k :: ks => congrArg (D.int (j + k) :: ·) (zip_add (js := js) (ks := ks))
theorem isn {rs : List Row} {gs : List Str} {js : List Int} : frees gs rs js = true ↔ (upD (brk rs (ch (cash :: gs) (0 :: js)))) = D.non := by
  unfold frees
  cases brk rs (ch (cash :: gs) (0 :: js)) with
  | none => exact ⟨fun _ => rfl, fun _ => rfl⟩
  | some r => exact ⟨fun z => (nomatch z), fun z => (nomatch z)⟩
theorem mem_any {js : List Int} : ∀ {l : List (List Int)}, js ∈ l → (pyL (l.map mvD)).any (fun z => PyData.eqv z (D.py (mvD js))) = true
  | k :: l, h => by
    show (PyData.eqv (D.py (mvD k)) (D.py (mvD js)) || (pyL (l.map mvD)).any (fun z => PyData.eqv z (D.py (mvD js)))) = true
    rw [eqv_tups eqv_ints, Bool.or_eq_true]
    rcases List.mem_cons.mp h with h | h
    · exact .inl (decide_eq_true h.symm)
    · exact .inr (mem_any h)
theorem ite_ins {b : Bool} : (if b = true then b else false) = b := by cases b <;> rfl
end KT

set_option Elab.async false
set_option linter.all false
set_option maxRecDepth 100000
set_option maxHeartbeats 0
set_option pp.deepTerms false
set_option pp.deepTerms.threshold 8


namespace KT
open PySem PySem.Spec PyProof.Rows L2 DL
open Dst (IsDist)
structure TxtL (K : PySem.W.Frag) (mg : Str → Option Value) (C OG ME : Addr) : Prop extends TxtO K mg C OG ME where
  cr_Table : ClX.CRead K C (.type "type")
section
variable {P : Program} {w : World} {K : PySem.W.Frag} {mg : Str → Option Value} {base : Heap} {C OG ME BG BM NA LT : Addr}
theorem known_yes {ns : List Str} {a : Str} (h : a ∈ ns) : known ns (.str a) = true := decide_eq_true (p := a ∈ ns) h
theorem no {b : Bool} {p : Prop} (a : b = true) (c : b = false) : p := by rw [a] at c; cases c
theorem nfs {K : PySem.W.Frag} {C : Addr} : PySem.W.notFirst K C (.ref C) = true := by
  unfold PySem.W.notFirst
  simp
def sdLaw : SpD := fun as Q _ => ∃ zs : List Int, as = [.d (.ro (zs.map .int))] ∧ Q (.d (.bl true)) []
abbrev s_law : Stmt := top 52
theorem sc_law : FnScope ["_law_script", "_law_place", "_law_source_here", "_law_goods_here", "_law_names", "_law_first", "_law_second", "_law_way", "_law_up", "_law_down", "_law_most", "_law_a", "_law_b", "_law_both", "_law_either", "_law_after", "_law_mine", "_law_its", "_law_move", "_law_one", "_law_other", "_law_turn", "_law_ends", "_law_inside", "_law_x", "_law_y"] ["_law_script"] (defScope s_law) := ⟨rfl, rfl, rfl, by decide +kernel, rfl, by decide +kernel, by decide +kernel⟩
theorem ok_law (D_law_source : DefD P w K mg base "_law_source" 1 ["_law_script", "_law_place"] KS.sdSourceR) (D_law_goods : DefD P w K mg base "_law_goods" 3 ["_law_source_here", "_law_most"] sdGoods) (D_law_rows : DefD P w K mg base "_law_rows" 5 ["_law_source_here", "_law_goods_here"] sdRows) (D_law_draw : DefD P w K mg base "_law_draw" 1 ["_law_source_here", "_law_many"] sdDraw)
    (D_law_box : DefD P w K mg base "_law_box" 3 ["_law_source_here", "_law_many"] sdBox) (D_law_holds : DefD P w K mg base "_law_holds" 1 ["_law_move", "_law_goods_here", "_law_rows_here"] sdHolds) (D_law_small : DefD P w K mg base "_law_small" 3 ["_law_source_here", "_law_rows_here"] sdSmall)
    (K_Table : DefK P w K mg base C 9 3 ["self", "goods", "rows", "cap"] ["cap"] [.int 1000000000000] (sdInit C)) (D_extreme_move : DefD P w K mg base "extreme_move" 9 ["table", "up", "down"] (sdExtreme C NA)) (D_fits : DefD P w K mg base "fits" 11 ["move", "table"] (sdFits C BM)) (D_first_broken : DefD P w K mg base "first_broken" 11 ["move", "table"] (sdFirst C BM))
    (D_Table_within : DefM P w K mg base C "within" 9 ["self", "other"] (sdWithin C OG)) (D_Table___eq : DefE P w K mg base C 1 ["self", "other"] (sdEq C))
    (D_Table___add : DefB P w K mg base C .Add 13 ["self", "other"] (sdOp C OG (rAdd C))) (D_Table___or : DefB P w K mg base C .BitOr 13 ["self", "other"] (sdOp C OG (rOr C))) (D_Table___and : DefB P w K mg base C .BitAnd 15 ["self", "other"] (sdOp C OG (rAnd C)))
    {f : Addr} {fd : FuncData} (G : Fun K "law" "law" s_law f fd) (T : TxtL K mg C OG ME) : FnOk P w K mg base (L2.CX P w) 17 f fd ["_law_script"] (spOf K sdLaw) := by
  refine okD G sc_law [] (fun as Q E ⟨zs, q, _⟩ => by subst q; exact ⟨rfl, rfl⟩) ⟨_, fun cdv A outer s H E ad F0 H0 hr => (pds_cons (psd_for (passes_of rfl) rfl (pid_range1 (by rfl) T.b_range (pda_cons (pd_builtB (fun h => pe_callB (call_max2 rfl) (by rfl) T.b_max (by decide +kernel) h) cn_two.op (pda_cons (pd_const pe_int (fun _ => .int _)) (pda_cons (pd_builtB (fun h => pe_callB (call_min2 rfl) (by rfl) T.b_min (by decide +kernel) h) cn_two.op (pda_cons (pd_const pe_int (fun _ => .int _)) (pda_cons (pd_builtB (fun h => pe_callB call_len_seq (by rfl) T.b_len (by decide +kernel) h) cn_len.op (pda_cons (pd_var (pv 0)) pda_nil)) pda_nil))) pda_nil))) pda_nil)) (pgd_name (i := 1) (vs := [1]) (pg_name (i := 1) sc_law.nd rfl (.inl rfl)) (by show ¬ (1 ∈ ([] : List Nat)); decide) (by decide))
      (pds_cons (psd_setO (i := 2) (pd_call D_law_source.ok (hr.mono (by decide)) (by rfl) D_law_source.mg D_law_source.kp D_law_source.b (takes_of rfl rfl rfl rfl) (pda_cons (pd_var (pv 0)) (pda_cons (pd_var (pv 1)) pda_nil))) (by show ¬ (2 ∈ ([] : List Nat)); decide) sc_law.nd rfl (.inl rfl))
      (pds_cons (psd_set (i := 3) (pd_call D_law_goods.ok (hr.mono (by decide)) (by rfl) D_law_goods.mg D_law_goods.kp D_law_goods.b (takes_of rfl rfl rfl rfl) (pda_own (i := 2) (pv 2) (pda_cons (pd_const pe_int (fun _ => .int _)) pda_nil))) (by show ¬ (3 ∈ ([] : List Nat)); decide) sc_law.nd rfl (.inr rfl))
      (pds_cons (psd_set (i := 4) (pd_op op_cat op2_cat (pd_lst (fun h => pe_lst h) (pda_cons (pd_const pe_str (fun _ => .str (by decide +kernel))) pda_nil)) (pd_var (pv 3))) (by show ¬ (4 ∈ ([] : List Nat)); decide) sc_law.nd rfl (.inl rfl))
      (pds_cons (psd_set (i := 5) (pd_call D_law_small.ok (hr.mono (by decide)) (by rfl) D_law_small.mg D_law_small.kp D_law_small.b (takes_of rfl rfl rfl rfl) (pda_own (i := 2) (pv 2) (pda_cons (pd_call D_law_rows.ok (hr.mono (by decide)) (by rfl) D_law_rows.mg D_law_rows.kp D_law_rows.b (takes_of rfl rfl rfl rfl) (pda_own (i := 2) (pv 2) (pda_cons (pd_var (pv 3)) pda_nil))) pda_nil))) (by show ¬ (5 ∈ ([] : List Nat)); decide) sc_law.nd rfl (.inl rfl))
      (pds_cons (psd_parC (i := 6) (j := 7) (oi := true) (oj := false) (pka_cons (pd_var (pv 5)) (pka_cons (pd_call D_law_draw.ok (hr.mono (by decide)) (by rfl) D_law_draw.mg D_law_draw.kp D_law_draw.b (takes_of rfl rfl rfl rfl) (pda_own (i := 2) (pv 2) (pda_cons (pd_const pe_int (fun _ => .int _)) pda_nil))) pka_nil)) (by show ¬ (6 ∈ ([] : List Nat)); decide) (by show ¬ (7 ∈ ([] : List Nat)); decide) (fun h => ps_asg (pe_tup h) (pg_tup rfl (pgs_cons (pg_name (i := 6) sc_law.nd rfl (.inr rfl)) (pgs_cons (pg_name (i := 7) sc_law.nd rfl (.inl rfl)) pgs_nil)))) (by decide))
      (pds_cons (psd_if (ptd_cmp op_eq op2_eq.op (pd_var (pv 7)) (pd_const pe_int (fun _ => .int _)) (nomark _)) (pds_one (psd_setO (i := 6) (pd_call D_law_small.ok (hr.mono (by decide)) (by rfl) D_law_small.mg D_law_small.kp D_law_small.b (takes_of rfl rfl rfl rfl) (pda_own (i := 2) (pv 2) (pda_cons (pd_call D_law_rows.ok (hr.mono (by decide)) (by rfl) D_law_rows.mg D_law_rows.kp D_law_rows.b (takes_of rfl rfl rfl rfl) (pda_own (i := 2) (pv 2) (pda_cons (pd_var (pv 3)) pda_nil))) pda_nil))) (by show ¬ (6 ∈ ([] : List Nat)); decide) sc_law.nd rfl (.inr rfl))) (pds_one (psd_if (ptd_cmp op_eq op2_eq.op (pd_var (pv 7)) (pd_const pe_int (fun _ => .int _)) (nomark _)) (pds_cons (psd_setO (i := 6) (pd_lst (fun h => pe_lst h) pda_nil) (by show ¬ (6 ∈ ([] : List Nat)); decide) sc_law.nd rfl (.inr rfl))
      (pds_one (psd_for (passes_of rfl) rfl (pid_list (pd_var (pv 5))) (pgd_tup (is := [8, 9, 10]) (vs := [8, 9, 10]) (pg_tup rfl (pgs_cons (pg_name (i := 8) sc_law.nd rfl (.inl rfl)) (pgs_cons (pg_name (i := 9) sc_law.nd rfl (.inl rfl)) (pgs_cons (pg_name (i := 10) sc_law.nd rfl (.inl rfl)) pgs_nil)))) rfl (by show ∀ i ∈ ([8, 9, 10] : List Nat), ¬ (i ∈ ([] : List Nat)) ∧ i ∈ ([8, 9, 10] : List Nat); decide))
      (pds_one (psd_expr (pd_methO (j := 6) (fun ho h => pe_bm PySem.F.plainAttrs_list PySem.F.slot_list_append PySem.F.type_list_append mt_append ho h) mo_append (pv 6) (pda_cons (pd_tup (fun h => pe_tup h) (pda_cons (pd_var (pv 8)) (pda_cons (pd_var (pv 9)) (pda_cons (pd_op op_add (op2_I0 fun _ _ _ => .int _) (pd_var (pv 10)) (pd_call D_law_draw.ok (hr.mono (by decide)) (by rfl) D_law_draw.mg D_law_draw.kp D_law_draw.b (takes_of rfl rfl rfl rfl) (pda_own (i := 2) (pv 2) (pda_cons (pd_const pe_int (fun _ => .int _)) pda_nil)))) pda_nil)))) pda_nil))))))) pds_nil)))
      (pds_cons (psd_unpack (pd_tup (fun h => pe_tup h) (pda_cons (pd_newK (n := 2) K_Table.mkc K_Table.ok (hr.mono (by decide)) (by rfl) T.c_Table K_Table.kb0 (fun _ => .cons (.int _) .nil) (fun _ _ _ => rfl) (takes_of rfl rfl rfl rfl) (pda_cons (pd_var (pv 3)) (pda_cons (pd_var (pv 5)) pda_nil)) pkd_nil) (pda_cons (pd_newK (n := 2) K_Table.mkc K_Table.ok (hr.mono (by decide)) (by rfl) T.c_Table K_Table.kb1 (fun _ => .nil) (fun _ _ _ => rfl) (takes_of rfl rfl rfl rfl) (pda_cons (pd_var (pv 3)) (pda_cons (pd_fvar (i := 6) (pv 6) (by show ¬ (6 ∈ ([] : List Nat)); decide)) pda_nil)) (pkd_cons (pd_op op_pow (op2_I fun _ _ _ => .int _) (pd_const pe_int (fun _ => .int _)) (pd_const pe_int (fun _ => .int _))) pkd_nil)) pda_nil))) (pgd_tup (is := [11, 12]) (vs := [11, 12]) (pg_tup rfl (pgs_cons (pg_name (i := 11) sc_law.nd rfl (.inr rfl)) (pgs_cons (pg_name (i := 12) sc_law.nd rfl (.inl rfl)) pgs_nil))) rfl (by show ∀ i ∈ ([11, 12] : List Nat), ¬ (i ∈ ([] : List Nat)) ∧ i ∈ ([11, 12] : List Nat); decide)) (fun h g => ps_asg h g))
      (pds_cons (psd_par3 (i := 13) (j := 14) (l := 15) (oi := false) (oj := false) (ol := false) (pka_cons (pd_both D_Table___and.bo D_Table___and.ok (hr.mono (by decide)) D_Table___and.b (takes_of rfl rfl rfl rfl) (pd_var (pv 11)) (pd_var (pv 12))) (pka_cons (pd_both D_Table___or.bo D_Table___or.ok (hr.mono (by decide)) D_Table___or.b (takes_of rfl rfl rfl rfl) (pd_var (pv 11)) (pd_var (pv 12))) (pka_cons (pd_both D_Table___add.bo D_Table___add.ok (hr.mono (by decide)) D_Table___add.b (takes_of rfl rfl rfl rfl) (pd_var (pv 11)) (pd_var (pv 12))) pka_nil))) (by show ¬ (13 ∈ ([] : List Nat)); decide) (by show ¬ (14 ∈ ([] : List Nat)); decide) (by show ¬ (15 ∈ ([] : List Nat)); decide) (fun h => ps_par3 (i := 13) (j := 14) (l := 15) (by rfl) sc_law.nd rfl rfl rfl (by decide) (by decide) (by decide) rfl rfl rfl h (by rfl)) (by decide) (by decide) (by decide))
      (pds_cons (psd_parC (i := 16) (j := 17) (oi := true) (oj := true) (pka_cons (pd_lst (fun h => pe_lst h) pda_nil) (pka_cons (pd_lst (fun h => pe_lst h) pda_nil) pka_nil)) (by show ¬ (16 ∈ ([] : List Nat)); decide) (by show ¬ (17 ∈ ([] : List Nat)); decide) (fun h => ps_asg (pe_tup h) (pg_tup rfl (pgs_cons (pg_name (i := 16) sc_law.nd rfl (.inl rfl)) (pgs_cons (pg_name (i := 17) sc_law.nd rfl (.inr rfl)) pgs_nil)))) (by decide))
      (pds_cons (psd_for (passes_of rfl) rfl (pid_list (pd_call D_law_box.ok (hr.mono (by decide)) (by rfl) D_law_box.mg D_law_box.kp D_law_box.b (takes_of rfl rfl rfl rfl) (pda_own (i := 2) (pv 2) (pda_cons (pd_builtB (fun h => pe_callB call_len_seq (by rfl) T.b_len (by decide +kernel) h) cn_len.op (pda_cons (pd_var (pv 3)) pda_nil)) pda_nil)))) (pgd_name (i := 18) (vs := [18]) (pg_name (i := 18) sc_law.nd rfl (.inl rfl)) (by show ¬ (18 ∈ ([] : List Nat)); decide) (by decide))
      (pds_cons (psd_par (i := 19) (j := 20) (oi := false) (oj := false) (pka_cons (pd_call D_law_holds.ok (hr.mono (by decide)) (by rfl) D_law_holds.mg D_law_holds.kp D_law_holds.b (takes_of rfl rfl rfl rfl) (pda_cons (pd_var (pv 18)) (pda_cons (pd_var (pv 3)) (pda_cons (pd_var (pv 5)) pda_nil)))) (pka_cons (pd_call D_law_holds.ok (hr.mono (by decide)) (by rfl) D_law_holds.mg D_law_holds.kp D_law_holds.b (takes_of rfl rfl rfl rfl) (pda_cons (pd_var (pv 18)) (pda_cons (pd_var (pv 3)) (pda_cons (pd_fvar (i := 6) (pv 6) (by show ¬ (6 ∈ ([] : List Nat)); decide)) pda_nil)))) pka_nil)) (by show ¬ (19 ∈ ([] : List Nat)); decide) (by show ¬ (20 ∈ ([] : List Nat)); decide) (fun h => ps_par (i := 19) (j := 20) (by rfl) sc_law.nd rfl rfl (by decide) rfl rfl h (by rfl)) (by decide))
      (pds_cons (psd_if (PW.pt (pwd_or (ptd_cmp op_ne op2_ne.op (pd_call D_fits.ok (hr.mono (by decide)) (by rfl) D_fits.mg D_fits.kp D_fits.b (takes_of rfl rfl rfl rfl) (pda_cons (pd_var (pv 18)) (pda_cons (pd_var (pv 11)) pda_nil))) (pd_var (pv 19)) (nomark _)) (pwd_or (ptd_cmp op_ne op2_ne.op (pd_call D_fits.ok (hr.mono (by decide)) (by rfl) D_fits.mg D_fits.kp D_fits.b (takes_of rfl rfl rfl rfl) (pda_cons (pd_builtB (fun h => pe_callTy call_list_of (by rfl) T.b_list (by decide +kernel) h) cn_list (pda_cons (pd_var (pv 18)) pda_nil)) (pda_cons (pd_var (pv 12)) pda_nil))) (pd_var (pv 20)) (nomark _)) (pwd_or1 (ptd_cmp op_ne op2_ne.op (pd_call D_fits.ok (hr.mono (by decide)) (by rfl) D_fits.mg D_fits.kp D_fits.b (takes_of rfl rfl rfl rfl) (pda_cons (pd_var (pv 18)) (pda_cons (pd_var (pv 13)) pda_nil))) (pd_and (pd_var (pv 19)) (pd_one (pd_var (pv 20)))) (nomark _)))))) (pds_one (psd_ret (pd_const pe_bl (fun _ => .bl _)))) pds_nil)
      (pds_cons (psd_if (PW.pt (pwd_or (ptd_cmp op_ne op2_ne.op (pd_cmp op_isN op2_isN.op (pd_call D_first_broken.ok (hr.mono (by decide)) (by rfl) D_first_broken.mg D_first_broken.kp D_first_broken.b (takes_of rfl rfl rfl rfl) (pda_cons (pd_var (pv 18)) (pda_cons (pd_var (pv 11)) pda_nil))) (pd_const pe_non (fun _ => .non)) (nomark _)) (pd_var (pv 19)) (nomark _)) (pwd_or1 (PW.pt (pwd_and (PW.pt (pwd_or (ptd_val (pd_var (pv 19)) (fun h => pt_val h)) (pwd_or1 (ptd_val (pd_var (pv 20)) (fun h => pt_val h))))) (pwd_and1 (ptd_not (ptd_val (pd_call D_fits.ok (hr.mono (by decide)) (by rfl) D_fits.mg D_fits.kp D_fits.b (takes_of rfl rfl rfl rfl) (pda_cons (pd_var (pv 18)) (pda_cons (pd_var (pv 14)) pda_nil))) (fun h => pt_val h))))))))) (pds_one (psd_ret (pd_const pe_bl (fun _ => .bl _)))) pds_nil)
      (pds_cons (psd_if (ptd_val (pd_var (pv 19)) (fun h => pt_val h)) (pds_one (psd_expr (pd_methO (j := 16) (fun ho h => pe_bm PySem.F.plainAttrs_list PySem.F.slot_list_append PySem.F.type_list_append mt_append ho h) mo_append (pv 16) (pda_cons (pd_var (pv 18)) pda_nil)))) pds_nil)
      (pds_one (psd_if (ptd_val (pd_var (pv 20)) (fun h => pt_val h)) (pds_one (psd_expr (pd_methO (j := 17) (fun ho h => pe_bm PySem.F.plainAttrs_list PySem.F.slot_list_append PySem.F.type_list_append mt_append ho h) mo_append (pv 17) (pda_cons (pd_var (pv 18)) pda_nil)))) pds_nil)))))))
      (pds_cons (psd_for (passes_of rfl) rfl (pid_range1 (by rfl) T.b_range (pda_cons (pd_const pe_int (fun _ => .int _)) pda_nil)) (pgd_name (i := 21) (vs := [21]) (pg_name (i := 21) sc_law.nd rfl (.inl rfl)) (by show ¬ (21 ∈ ([] : List Nat)); decide) (by decide))
      (pds_one (psd_if (PW.pt (pwd_and (ptd_cmp (op_neX hr.units) op2_neX.op (pd_fvar (i := 16) (pv 16) (by show ¬ (16 ∈ ([] : List Nat)); decide)) (pd_lst (fun h => pe_lst h) pda_nil) (nomark _)) (pwd_and1 (ptd_cmp (op_neX hr.units) op2_neX.op (pd_fvar (i := 17) (pv 17) (by show ¬ (17 ∈ ([] : List Nat)); decide)) (pd_lst (fun h => pe_lst h) pda_nil) (nomark _))))) (pds_cons (psd_par (i := 19) (j := 20) (oi := false) (oj := false) (pka_cons (pd_ix ix_list op2_ixL (pd_fvar (i := 16) (pv 16) (by show ¬ (16 ∈ ([] : List Nat)); decide)) (pd_call D_law_draw.ok (hr.mono (by decide)) (by rfl) D_law_draw.mg D_law_draw.kp D_law_draw.b (takes_of rfl rfl rfl rfl) (pda_own (i := 2) (pv 2) (pda_cons (pd_builtB (fun h => pe_callB call_len_seq (by rfl) T.b_len (by decide +kernel) h) cn_len.op (pda_cons (pd_fvar (i := 16) (pv 16) (by show ¬ (16 ∈ ([] : List Nat)); decide)) pda_nil)) pda_nil))) (fun _ _ => rfl)) (pka_cons (pd_ix ix_list op2_ixL (pd_fvar (i := 17) (pv 17) (by show ¬ (17 ∈ ([] : List Nat)); decide)) (pd_call D_law_draw.ok (hr.mono (by decide)) (by rfl) D_law_draw.mg D_law_draw.kp D_law_draw.b (takes_of rfl rfl rfl rfl) (pda_own (i := 2) (pv 2) (pda_cons (pd_builtB (fun h => pe_callB call_len_seq (by rfl) T.b_len (by decide +kernel) h) cn_len.op (pda_cons (pd_fvar (i := 17) (pv 17) (by show ¬ (17 ∈ ([] : List Nat)); decide)) pda_nil)) pda_nil))) (fun _ _ => rfl)) pka_nil)) (by show ¬ (19 ∈ ([] : List Nat)); decide) (by show ¬ (20 ∈ ([] : List Nat)); decide) (fun h => ps_par (i := 19) (j := 20) (by rfl) sc_law.nd rfl rfl (by decide) rfl rfl h (by rfl)) (by decide))
      (pds_one (psd_if (ptd_not (ptd_val (pd_call D_fits.ok (hr.mono (by decide)) (by rfl) D_fits.mg D_fits.kp D_fits.b (takes_of rfl rfl rfl rfl) (pda_cons (pd_lc (own := [("_law_x", 24), ("_law_y", 25)]) (by rfl) sc_law.nd (pid_zip (by rfl) T.b_zip (pda_cons (pd_var (pv 19)) (pda_cons (pd_var (pv 20)) pda_nil))) (blkOk_by (own := [("_law_x", 24), ("_law_y", 25)]) (N := ["_law_script", "_law_place", "_law_source_here", "_law_goods_here", "_law_names", "_law_first", "_law_second", "_law_way", "_law_up", "_law_down", "_law_most", "_law_a", "_law_b", "_law_both", "_law_either", "_law_after", "_law_mine", "_law_its", "_law_move", "_law_one", "_law_other", "_law_turn", "_law_ends", "_law_inside", "_law_x", "_law_y"]) (sc := defScope s_law) (by decide +kernel)) (fun _ _ _ _ _ => (pgd_tup (is := [24, 25]) (vs := [24, 25]) (pg_tup rfl (pgs_cons (pg_name (i := 24) sc_law.nd rfl (.inl rfl)) (pgs_cons (pg_name (i := 25) sc_law.nd rfl (.inl rfl)) pgs_nil))) rfl (by show ∀ i ∈ ([24, 25] : List Nat), ¬ (i ∈ ([] : List Nat)) ∧ i ∈ ([24, 25] : List Nat); decide))) (fun _ _ _ _ _ => ptsd_nil) (fun _ _ _ _ _ => (pd_op op_add (op2_I0 fun _ _ _ => .int _) (pd_var (pv 24)) (pd_var (pv 25)))) (by show ∀ i ∈ ([24, 25] : List Nat), ¬ (i ∈ ([] : List Nat)); decide)) (pda_cons (pd_var (pv 15)) pda_nil))) (fun h => pt_val h))) (pds_one (psd_ret (pd_const pe_bl (fun _ => .bl _)))) pds_nil))) pds_nil)))
      (pds_cons (psd_setLc (i := 22) (o := false) (own := [("_law_down", 9)]) (by show ¬ (22 ∈ ([] : List Nat)); decide) (by rfl) sc_law.nd rfl rfl (sw_true rfl rfl rfl (by decide +kernel)) (pid_list (pd_var (pv 4))) (blkOk_by (own := [("_law_down", 9)]) (N := ["_law_script", "_law_place", "_law_source_here", "_law_goods_here", "_law_names", "_law_first", "_law_second", "_law_way", "_law_up", "_law_down", "_law_most", "_law_a", "_law_b", "_law_both", "_law_either", "_law_after", "_law_mine", "_law_its", "_law_move", "_law_one", "_law_other", "_law_turn", "_law_ends", "_law_inside", "_law_x", "_law_y"]) (sc := defScope s_law) (by decide +kernel)) (fun _ _ _ _ _ => (pgd_name (i := 9) (vs := [9]) (pg_name (i := 9) sc_law.nd rfl (.inl rfl)) (by show ¬ (9 ∈ ([] : List Nat)); decide) (by decide))) (fun _ _ _ _ _ => ptsd_nil) (fun _ _ _ _ _ => (pd_call D_extreme_move.ok (hr.mono (by decide)) (by rfl) D_extreme_move.mg D_extreme_move.kp D_extreme_move.b takes0 (pda_cons (pd_var (pv 11)) (pda_cons (pd_const pe_str (fun _ => .str (by decide +kernel))) (pda_cons (pd_var (pv 9)) pda_nil))))) (by show ∀ i ∈ ([9] : List Nat), ¬ (i ∈ ([] : List Nat)); decide))
      (pds_cons (psd_set (i := 23) (pd_builtB (fun h => pe_callB (cr_all rfl) (by rfl) T.b_all (by decide +kernel) h) cn_all.op (pda_cons (pd_lc (own := [("_law_move", 18)]) (by rfl) sc_law.nd (pid_list (pd_var (pv 22))) (blkOk_by (own := [("_law_move", 18)]) (N := ["_law_script", "_law_place", "_law_source_here", "_law_goods_here", "_law_names", "_law_first", "_law_second", "_law_way", "_law_up", "_law_down", "_law_most", "_law_a", "_law_b", "_law_both", "_law_either", "_law_after", "_law_mine", "_law_its", "_law_move", "_law_one", "_law_other", "_law_turn", "_law_ends", "_law_inside", "_law_x", "_law_y"]) (sc := defScope s_law) (by decide +kernel)) (fun _ _ _ _ _ => (pgd_name (i := 18) (vs := [18]) (pg_name (i := 18) sc_law.nd rfl (.inl rfl)) (by show ¬ (18 ∈ ([] : List Nat)); decide) (by decide))) (fun _ _ _ _ _ => ptsd_nil) (fun _ _ _ _ _ => (pd_call D_law_holds.ok (hr.mono (by decide)) (by rfl) D_law_holds.mg D_law_holds.kp D_law_holds.b takes0 (pda_cons (pd_var (pv 18)) (pda_cons (pd_var (pv 3)) (pda_cons (pd_fvar (i := 6) (pv 6) (by show ¬ (6 ∈ ([] : List Nat)); decide)) pda_nil))))) (by show ∀ i ∈ ([18] : List Nat), ¬ (i ∈ ([] : List Nat)); decide)) pda_nil)) (by show ¬ (23 ∈ ([] : List Nat)); decide) sc_law.nd rfl (.inl rfl))
      (pds_cons (psd_if (PW.pt (pwd_or (ptd_cmp op_ne op2_ne.op (pd_meth (pd_var (pv 11)) T.cl_Table D_Table_within.me D_Table_within.ok (hr.mono (by decide)) D_Table_within.b (takes_of rfl rfl rfl rfl) (pda_cons (pd_var (pv 12)) pda_nil)) (pd_var (pv 23)) (nomark _)) (pwd_or1 (PW.pt (pwd_and (ptd_val (pd_var (pv 23)) (fun h => pt_val h)) (pwd_and1 (ptd_not (ptd_val (pd_builtB (fun h => pe_callB (cr_all rfl) (by rfl) T.b_all (by decide +kernel) h) cn_all.op (pda_cons (pd_lc (own := [("_law_move", 18)]) (by rfl) sc_law.nd (pid_list (pd_fvar (i := 16) (pv 16) (by show ¬ (16 ∈ ([] : List Nat)); decide))) (blkOk_by (own := [("_law_move", 18)]) (N := ["_law_script", "_law_place", "_law_source_here", "_law_goods_here", "_law_names", "_law_first", "_law_second", "_law_way", "_law_up", "_law_down", "_law_most", "_law_a", "_law_b", "_law_both", "_law_either", "_law_after", "_law_mine", "_law_its", "_law_move", "_law_one", "_law_other", "_law_turn", "_law_ends", "_law_inside", "_law_x", "_law_y"]) (sc := defScope s_law) (by decide +kernel)) (fun _ _ _ _ _ => (pgd_name (i := 18) (vs := [18]) (pg_name (i := 18) sc_law.nd rfl (.inl rfl)) (by show ¬ (18 ∈ ([] : List Nat)); decide) (by decide))) (fun _ _ _ _ _ => ptsd_nil) (fun _ _ _ _ _ => (pd_cmp (op_inT (units65 hr)) (op2_inT false).op (pd_var (pv 18)) (pd_fvar (i := 17) (pv 17) (by show ¬ (17 ∈ ([] : List Nat)); decide)) rfl)) (by show ∀ i ∈ ([18] : List Nat), ¬ (i ∈ ([] : List Nat)); decide)) pda_nil)) (fun h => pt_val h))))))))) (pds_one (psd_ret (pd_const pe_bl (fun _ => .bl _)))) pds_nil)
      (pds_one (psd_if (PW.pt (pwd_or (ptd_cmp op_ne op2_ne.op (pd_var (pv 23)) (pd_cmp (op_eqC D_Table___eq.at_ D_Table___eq.fn D_Table___eq.ok (hr.mono (by decide)) D_Table___eq.b) (op2_eqC (K := K)) (pd_both D_Table___and.bo D_Table___and.ok (hr.mono (by decide)) D_Table___and.b (takes_of rfl rfl rfl rfl) (pd_var (pv 11)) (pd_var (pv 12))) (pd_var (pv 11)) (nomark _)) (nomark _)) (pwd_or1 (ptd_cmp op_ne op2_ne.op (pd_var (pv 23)) (pd_cmp (op_eqC D_Table___eq.at_ D_Table___eq.fn D_Table___eq.ok (hr.mono (by decide)) D_Table___eq.b) (op2_eqC (K := K)) (pd_both D_Table___or.bo D_Table___or.ok (hr.mono (by decide)) D_Table___or.b (takes_of rfl rfl rfl rfl) (pd_var (pv 11)) (pd_var (pv 12))) (pd_var (pv 12)) (nomark _)) (nomark _))))) (pds_one (psd_ret (pd_const pe_bl (fun _ => .bl _)))) pds_nil)))))))))))))))))
      (pds_one (psd_ret (pd_const pe_bl (fun _ => .bl _))))), ?_⟩
  rintro as Qd Ed ⟨zs, rfl, k⟩
  refine DR.start (δ' := [some (.d (.ro (zs.map .int))), none, none, none, none, none, none, none, none, none, none, none, none, none, none, none, none, none, none, none, none, none, none, none, none, none]) rfl ?_
  walk_at "dd"
  generalize hq : ((fun i j : Int => if j > i then j else i) 1 ((fun i j : Int => if j < i then j else i) 2 ((zs.map D.int).length : Int))) = r
  have hr6 : 0 ≤ r ∧ r ≤ 4 := by
    subst hq
    dsimp only
    split <;> (try split) <;> omega
  refine ⟨by omega, by omega, DR.for_inv (fun i δ => ∃  p1 p2 p3 p4 p5 p6 p7 p8 p9 p10 p11 p12 p13 p14 p15 p16 p17 p18 p19 p20 p21 p22 p23 p24 p25, δ = [some (.d (.ro (zs.map .int))), p1, p2, p3, p4, p5, p6, p7, p8, p9, p10, p11, p12, p13, p14, p15, p16, p17, p18, p19, p20, p21, p22, p23, p24, p25]) ⟨_, _, _, _, _, _, _, _, _, _, _, _, _, _, _, _, _, _, _, _, _, _, _, _, _, by with_unfolding_all rfl⟩ ?_ ?_⟩
  · rintro i x δ N hx ⟨p1, p2, p3, p4, p5, p6, p7, p8, p9, p10, p11, p12, p13, p14, p15, p16, p17, p18, p19, p20, p21, p22, p23, p24, p25, rfl⟩ kN
    obtain ⟨rfl, hi⟩ := upto_at hx
    walk_at "dd"
    refine ⟨zs, i, rfl, by omega, fun xs hs => ?_⟩
    walk_at "dd"
    refine ⟨xs, 0, 3, rfl, hs, by omega, by decide, by decide, fun gs ys m hg hgl hfro hm hs => ?_⟩
    walk_at "dd"
    have hg1 := hg.2.1
    have hgl3 : gs.length ≤ 3 := by omega
    refine ⟨by show 1 + (gs.map D.str).length ≤ sizeLine; rw [List.length_map]; exact Nat.le_trans (show _ ≤ 6 by omega) (by decide), ?_⟩
    rw [show ([(DV.d (D.str (Str.ofString "cash"))).toD] ++ gs.map D.str) = (cash :: gs).map D.str from rfl]
    repeat ((fail_if_success (with_reducible apply DR.cut)); walk_at "dd1")
    with_reducible refine DR.cut (fun δ => ∃ ys m r1 p6 p7 p8 p9 p10 p11 p12 p13 p14 p15 p16 p17 p18 p19 p20 p21 p22 p23 p24 p25, δ = [some (.d (.ro (zs.map .int))), some (.d (.int i)), some (.own (.lst ys)), some (.d (.lst (gs.map .str))), some (.d (.lst ((cash :: gs).map .str))), some (.d (.lst (r1.map rowD))), p6, p7, p8, p9, p10, p11, p12, p13, p14, p15, p16, p17, p18, p19, p20, p21, p22, p23, p24, p25] ∧ Src m ys ∧ m ≤ 1000 ∧ GoodRows (cash :: gs) r1 ∧ List.length r1 ≤ 200) (fun N kN => ?_) ?_
    · walk_at "dd"
      refine ⟨ys, m, gs, rfl, hs, by omega, hg, fun rs ys1 m1 hr1 hm1 hs1 => ?_⟩
      walk_at "dd"
      refine ⟨ys1, m1, gs, rs, rfl, hs1, by omega, hr1, Nat.le_trans (gr_len hg hr1) (by decide), fun r2 ys2 m2 v hm2 hs2 hr2 hl2 ev => ?_⟩
      rcases dv_lst ev with rfl | rfl
      · walk_at "dd"
        exact kN _ ⟨ys2, m2, r2, _, _, _, _, _, _, _, _, _, _, _, _, _, _, _, _, _, _, _, _, by with_unfolding_all rfl, hs2, by omega, hr2, hl2⟩
      · walk_at "dd"
        exact kN _ ⟨ys2, m2, r2, _, _, _, _, _, _, _, _, _, _, _, _, _, _, _, _, _, _, _, _, by with_unfolding_all rfl, hs2, by omega, hr2, hl2⟩
    rintro δ ⟨ys, m, r1, p6, p7, p8, p9, p10, p11, p12, p13, p14, p15, p16, p17, p18, p19, p20, p21, p22, p23, p24, p25, rfl, hs, hm, hr1, hl1⟩
    with_reducible refine DR.cut (fun δ => ∃ ys m wy p8 p9 p10 p11 p12 p13 p14 p15 p16 p17 p18 p19 p20 p21 p22 p23 p24 p25, δ = [some (.d (.ro (zs.map .int))), some (.d (.int i)), some (.own (.lst ys)), some (.d (.lst (gs.map .str))), some (.d (.lst ((cash :: gs).map .str))), some (.d (.lst (r1.map rowD))), some (.d (.lst (r1.map rowD))), some (.d (.int wy)), p8, p9, p10, p11, p12, p13, p14, p15, p16, p17, p18, p19, p20, p21, p22, p23, p24, p25] ∧ Src m ys ∧ m ≤ 1001) (fun N kN => ?_) ?_
    · walk_at "dd"
      refine draw hs (by omega) (by decide) (by decide) fun r ys r0 rr hs => ?_
      walk_at "dd"
      exact kN _ ⟨ys, _, r, _, _, _, _, _, _, _, _, _, _, _, _, _, _, _, _, _, _, by with_unfolding_all rfl, hs, by omega⟩
    rintro δ ⟨ys, m, wy, p8, p9, p10, p11, p12, p13, p14, p15, p16, p17, p18, p19, p20, p21, p22, p23, p24, p25, rfl, hs, hm⟩
    with_reducible refine DR.cut (fun δ => ∃ ys m, ∃ x2 : DV, ∃ r2 : List Row, ∃ p7 p8 p9 p10 p11 p12 p13 p14 p15 p16 p17 p18 p19 p20 p21 p22 p23 p24 p25, δ = [some (.d (.ro (zs.map .int))), some (.d (.int i)), some (.own (.lst ys)), some (.d (.lst (gs.map .str))), some (.d (.lst ((cash :: gs).map .str))), some (.d (.lst (r1.map rowD))), some x2, p7, p8, p9, p10, p11, p12, p13, p14, p15, p16, p17, p18, p19, p20, p21, p22, p23, p24, p25] ∧ Src m ys ∧ m ≤ 3000 ∧ x2.toD = .lst (r2.map rowD) ∧ Ok2 gs r2) (fun N kN => ?_) ?_
    · walk_at "dd"
      refine DR.split (fun c => ?_) (fun c => ?_)
      · walk_at "dd"
        refine ⟨ys, m, gs, rfl, hs, by omega, hg, fun rs ys1 m1 hr9 hm1 hs1 => ?_⟩
        walk_at "dd"
        refine ⟨ys1, m1, gs, rs, rfl, hs1, by omega, hr9, Nat.le_trans (gr_len hg hr9) (by decide), fun r2 ys2 m2 v hm2 hs2 hr2 hl2 ev => ?_⟩
        walk_at "dd"
        exact kN _ ⟨ys2, m2, _, r2, _, _, _, _, _, _, _, _, _, _, _, _, _, _, _, _, _, _, _, by with_unfolding_all rfl, hs2, by omega, ev, ⟨hr2.fine, hl2, fun r h => Int.le_trans (hr2.row r h).2.2.2.2 (by decide)⟩⟩
      · walk_at "dd"
        refine DR.split (fun c => ?_) (fun c => ?_)
        · walk_at "dd"
          refine DR.for_inv (fun i9 δ => ∃ ys m, ∃ r2 : List Row, ∃ p7 p8 p9 p10 p11 p12 p13 p14 p15 p16 p17 p18 p19 p20 p21 p22 p23 p24 p25, δ = [some (.d (.ro (zs.map .int))), some (.d (.int i)), some (.own (.lst ys)), some (.d (.lst (gs.map .str))), some (.d (.lst ((cash :: gs).map .str))), some (.d (.lst (r1.map rowD))), some (.own (.lst (r2.map rowD))), p7, p8, p9, p10, p11, p12, p13, p14, p15, p16, p17, p18, p19, p20, p21, p22, p23, p24, p25] ∧ Src m ys ∧ m ≤ 1001 + i9 ∧ r2.map ends = (r1.take i9).map ends ∧ (∀ r ∈ r2, 0 ≤ r.2.2 ∧ r.2.2 ≤ 10000000000000)) ⟨ys, _, [], _, _, _, _, _, _, _, _, _, _, _, _, _, _, _, _, _, _, _, by with_unfolding_all rfl, hs, by omega, rfl, fun _ h => nomatch h⟩ ?_ ?_
          · rintro i2 x δ N2 hx2 ⟨ys2, m2, r2, p7, p8, p9, p10, p11, p12, p13, p14, p15, p16, p17, p18, p19, p20, p21, p22, p23, p24, p25, rfl, hs2, hm2, he2, hb2⟩ kN2
            obtain ⟨⟨u, d, mo⟩, hrx, rfl⟩ := DR.map_at hx2
            have hrow := hr1.row _ (List.mem_of_getElem? hrx)
            have hi2 : i2 < 200 := Nat.lt_of_lt_of_le (DR.at_lt hrx) hl1
            have hmo0 : 0 ≤ mo := hrow.2.2.2.1
            have hmo1 : mo ≤ 1000000000000 := hrow.2.2.2.2
            walk_at "dd"
            refine draw hs2 (by omega) (by decide) (by decide) fun r ys3 r0 rr hs3 => ?_
            walk_at "dd"
            have hlen : r2.length = i2 := by
              have e := congrArg List.length he2
              rw [List.length_map, List.length_map, List.length_take] at e
              have := DR.at_lt hrx
              omega
            refine ⟨[_], _, rfl, rfl, _, rfl, by rw [List.length_map, hlen]; exact Nat.lt_trans hi2 (by decide), ?_⟩
            exact kN2 _ ⟨ys3, _, (r2++[(u,d,mo+r)]), _, _, _, _, _, _, _, _, _, _, _, _, _, _, _, _, _, _, _, by rw [List.map_append]; with_unfolding_all rfl, hs3, by omega, by rw [List.map_append, he2, List.take_succ, hrx, List.map_append]; rfl, fun z h => (List.mem_append.mp h).elim (hb2 z) fun h => by rw [List.mem_singleton.mp h]; exact ⟨by show 0 ≤ mo + r; omega, by show mo + r ≤ _; omega⟩⟩
          · rintro δ ⟨ys2, m2, r2, p7, p8, p9, p10, p11, p12, p13, p14, p15, p16, p17, p18, p19, p20, p21, p22, p23, p24, p25, rfl, hs2, hm2, he2, hb2⟩
            rw [List.length_map] at hm2 he2
            rw [List.take_length] at he2
            have hlen := congrArg List.length he2
            rw [List.length_map, List.length_map] at hlen
            exact kN _ ⟨ys2, m2, _, r2, _, _, _, _, _, _, _, _, _, _, _, _, _, _, _, _, _, _, _, by with_unfolding_all rfl, hs2, by omega, rfl, ⟨fine_up hr1.fine he2 fun r h => (hb2 r h).1, by omega, fun r h => (hb2 r h).2⟩⟩
        · walk_at "dd"
          exact kN _ ⟨ys, m, _, r1, _, _, _, _, _, _, _, _, _, _, _, _, _, _, _, _, _, _, _, by with_unfolding_all rfl, hs, by omega, rfl, ⟨hr1.fine, hl1, fun r h => Int.le_trans (hr1.row r h).2.2.2.2 (by decide)⟩⟩
    rintro δ ⟨ys, m, x2, r2, p7, p8, p9, p10, p11, p12, p13, p14, p15, p16, p17, p18, p19, p20, p21, p22, p23, p24, p25, rfl, hs, hm, ex2, ok2⟩
    with_reducible refine DR.cut (fun δ => ∃ ka fa kb fb ea eb p7 p8 p9 p10 p13 p14 p15 p16 p17 p18 p19 p20 p21 p22 p23 p24 p25, δ = [some (.d (.ro (zs.map .int))), some (.d (.int i)), some (.own (.lst ys)), some (.d (.lst (gs.map .str))), some (.d (.lst ((cash :: gs).map .str))), some (.d (.lst (r1.map rowD))), some (.d (.lst (r2.map rowD))), p7, p8, p9, p10, some (.d (.obj C (tabFs gs r1 ka fa))), some (.d (.obj C (tabFs gs r2 kb fb))), p13, p14, p15, p16, p17, p18, p19, p20, p21, p22, p23, p24, p25] ∧ Tb C gs r1 ea (.obj C (tabFs gs r1 ka fa)) ∧ Tb C gs r2 eb (.obj C (tabFs gs r2 kb fb))) (fun N kN => ?_) ?_
    · walk_at "dd"
      refine ⟨rfl, ?_⟩
      walk_at "dd"
      refine ⟨rfl, new_tabX (.inl rfl) (.inl rfl) hg hl1 hr1.fine (fun r h => (hr1.row r h).2.2.2.2) fun fa ea ta la => ⟨rfl, _, _, rfl, ?_⟩⟩
      obtain ⟨ka, ga, e1, _⟩ := id ta
      cases e1
      walk_at "dd"
      rw [ex2]
      refine ⟨rfl, ?_⟩
      walk_at "dd"
      refine ⟨⟨by decide, by decide, by decide⟩, ?_⟩
      walk_at "dd"
      refine ⟨rfl, new_tabX (.inl rfl) (.inl rfl) hg ok2.2.1 ok2.1 ok2.2.2 fun fb eb tb lb => ⟨rfl, _, _, rfl, ?_⟩⟩
      obtain ⟨kb, gb, e2, _⟩ := id tb
      cases e2
      walk_at "dd"
      refine DR.tupg ?_
      walk_at "dd"
      exact kN _ ⟨_, _, _, _, ea, eb, _, _, _, _, _, _, _, _, _, _, _, _, _, _, _, _, _, by with_unfolding_all rfl, ta, tb⟩
    rintro δ ⟨ka, fa, kb, fb, ea, eb, p7, p8, p9, p10, p13, p14, p15, p16, p17, p18, p19, p20, p21, p22, p23, p24, p25, rfl, ta, tb⟩
    with_reducible refine DR.cut (fun δ => ∃ k3 f3 k4 f4 k5 f5 mm p7 p8 p9 p10 p16 p17 p18 p19 p20 p21 p22 p23 p24 p25, δ = [some (.d (.ro (zs.map .int))), some (.d (.int i)), some (.own (.lst ys)), some (.d (.lst (gs.map .str))), some (.d (.lst ((cash :: gs).map .str))), some (.d (.lst (r1.map rowD))), some (.d (.lst (r2.map rowD))), p7, p8, p9, p10, some (.d (.obj C (tabFs gs r1 ka fa))), some (.d (.obj C (tabFs gs r2 kb fb))), some (.d (.obj C (tabFs gs (entRows (cash :: gs) mm) k3 f3))), some (.d (.obj C (tabFs gs (entRows (cash :: gs) fun a b => max (ea a b) (eb a b)) k4 f4))), some (.d (.obj C (tabFs gs (entRows (cash :: gs) fun a b => ea a b + eb a b) k5 f5))), p16, p17, p18, p19, p20, p21, p22, p23, p24, p25] ∧ Inf (cash :: gs) mm ea eb ∧ Tb C gs (entRows (cash :: gs) mm) mm (.obj C (tabFs gs (entRows (cash :: gs) mm) k3 f3)) ∧ Tb C gs (entRows (cash :: gs) fun a b => max (ea a b) (eb a b)) (fun a b => max (ea a b) (eb a b)) (.obj C (tabFs gs (entRows (cash :: gs) fun a b => max (ea a b) (eb a b)) k4 f4)) ∧ Tb C gs (entRows (cash :: gs) fun a b => ea a b + eb a b) (fun a b => ea a b + eb a b) (.obj C (tabFs gs (entRows (cash :: gs) fun a b => ea a b + eb a b) k5 f5))) (fun N kN => ?_) ?_
    · walk_at "dd"
      refine DR.par3 ?_
      walk_at "dd"
      refine ⟨gs, gs, r1, r2, ea, eb, _, _, rfl, ta, tb, .inl ⟨rfl, fun z ⟨mm, tz, iz⟩ => ?_⟩⟩
      obtain ⟨k3, f3, rfl, _⟩ := id tz
      walk_at "dd"
      refine ⟨gs, gs, r1, r2, ea, eb, _, _, rfl, ta, tb, .inl ⟨rfl, fun z t4 => ?_⟩⟩
      obtain ⟨k4, f4, rfl, _⟩ := id t4
      walk_at "dd"
      refine ⟨gs, gs, r1, r2, ea, eb, _, _, rfl, ta, tb, .inl ⟨rfl, fun z t5 => ?_⟩⟩
      obtain ⟨k5, f5, rfl, _⟩ := id t5
      walk_at "dd"
      refine ⟨_, _, _, rfl, ?_⟩
      walk_at "dd"
      exact kN _ ⟨_, _, _, _, _, _, mm, _, _, _, _, _, _, _, _, _, _, _, _, _, _, by with_unfolding_all rfl, iz, tz, t4, t5⟩
    rintro δ ⟨k3, f3, k4, f4, k5, f5, mm, p7, p8, p9, p10, p16, p17, p18, p19, p20, p21, p22, p23, p24, p25, rfl, inf, t3, t4, t5⟩
    with_reducible refine DR.cut (fun δ => ∃  p7 p8 p9 p10 p18 p19 p20 p21 p22 p23 p24 p25, δ = [some (.d (.ro (zs.map .int))), some (.d (.int i)), some (.own (.lst ys)), some (.d (.lst (gs.map .str))), some (.d (.lst ((cash :: gs).map .str))), some (.d (.lst (r1.map rowD))), some (.d (.lst (r2.map rowD))), p7, p8, p9, p10, some (.d (.obj C (tabFs gs r1 ka fa))), some (.d (.obj C (tabFs gs r2 kb fb))), some (.d (.obj C (tabFs gs (entRows (cash :: gs) mm) k3 f3))), some (.d (.obj C (tabFs gs (entRows (cash :: gs) fun a b => max (ea a b) (eb a b)) k4 f4))), some (.d (.obj C (tabFs gs (entRows (cash :: gs) fun a b => ea a b + eb a b) k5 f5))), some (.own (.lst [])), some (.own (.lst [])), p18, p19, p20, p21, p22, p23, p24, p25]) (fun N kN => ?_) ?_
    · walk_at "dd"
      exact kN _ ⟨_, _, _, _, _, _, _, _, _, _, _, _, by with_unfolding_all rfl⟩
    rintro δ ⟨p7, p8, p9, p10, p18, p19, p20, p21, p22, p23, p24, p25, rfl⟩
    with_reducible refine DR.cut (fun δ => ∃ ys m, ∃ ms : List (List Int), ∃ m1 m2,∃ p7 p8 p9 p10 p18 p19 p20 p21 p22 p23 p24 p25, δ = [some (.d (.ro (zs.map .int))), some (.d (.int i)), some (.own (.lst ys)), some (.d (.lst (gs.map .str))), some (.d (.lst ((cash :: gs).map .str))), some (.d (.lst (r1.map rowD))), some (.d (.lst (r2.map rowD))), p7, p8, p9, p10, some (.d (.obj C (tabFs gs r1 ka fa))), some (.d (.obj C (tabFs gs r2 kb fb))), some (.d (.obj C (tabFs gs (entRows (cash :: gs) mm) k3 f3))), some (.d (.obj C (tabFs gs (entRows (cash :: gs) fun a b => max (ea a b) (eb a b)) k4 f4))), some (.d (.obj C (tabFs gs (entRows (cash :: gs) fun a b => ea a b + eb a b) k5 f5))), some (.own (.lst (m1.map mvD))), some (.own (.lst (m2.map mvD))), p18, p19, p20, p21, p22, p23, p24, p25] ∧ Src m ys ∧ m ≤ 3001 ∧ ms.length ≤ 343 ∧ m1 = ms.filter (frees gs r1) ∧ m2 = ms.filter (frees gs r2) ∧ ∀ js ∈ ms, js.length = gs.length) (fun N kN => ?_) ?_
    · walk_at "dd"
      refine ⟨ys, m, gs.length, by rw [List.length_map]; rfl, hs, by omega, hg1, hgl3, fun ms ys2 n2 hm2 hs2 hms hml => ?_⟩
      walk_at "dd"
      refine DR.for_inv (fun i9 δ => ∃ m1 m2 p7 p8 p9 p10 p18 p19 p20 p21 p22 p23 p24 p25, δ = [some (.d (.ro (zs.map .int))), some (.d (.int i)), some (.own (.lst ys2)), some (.d (.lst (gs.map .str))), some (.d (.lst ((cash :: gs).map .str))), some (.d (.lst (r1.map rowD))), some (.d (.lst (r2.map rowD))), p7, p8, p9, p10, some (.d (.obj C (tabFs gs r1 ka fa))), some (.d (.obj C (tabFs gs r2 kb fb))), some (.d (.obj C (tabFs gs (entRows (cash :: gs) mm) k3 f3))), some (.d (.obj C (tabFs gs (entRows (cash :: gs) fun a b => max (ea a b) (eb a b)) k4 f4))), some (.d (.obj C (tabFs gs (entRows (cash :: gs) fun a b => ea a b + eb a b) k5 f5))), some (.own (.lst (m1.map mvD))), some (.own (.lst (m2.map mvD))), p18, p19, p20, p21, p22, p23, p24, p25] ∧ m1 = (ms.take i9).filter (frees gs r1) ∧ m2 = (ms.take i9).filter (frees gs r2)) ⟨[], [], _, _, _, _, _, _, _, _, _, _, _, _, by with_unfolding_all rfl, rfl, rfl⟩ ?_ ?_
      · rintro i2 x δ N2 hx2 ⟨m1, m2, p7, p8, p9, p10, p18, p19, p20, p21, p22, p23, p24, p25, rfl, e1, e2⟩ kN2
        obtain ⟨js, hjx, rfl⟩ := DR.map_at hx2
        have hjl := hms js (List.mem_of_getElem? hjx)
        have hi2 : i2 < 343 := Nat.lt_of_lt_of_le (DR.at_lt hjx) hml
        have l1 : m1.length ≤ i2 := by rw [e1]; exact Nat.le_trans (List.length_filter_le ..) (by rw [List.length_take]; omega)
        have l2 : m2.length ≤ i2 := by rw [e2]; exact Nat.le_trans (List.length_filter_le ..) (by rw [List.length_take]; omega)
        have fb1 := frees_and (js := js) (goods_nd hg) hr1.fine ta.ent ok2.1 tb.ent inf
        have fb2 := frees_or (js := js) (goods_nd hg) hr1.fine ta.ent ok2.1 tb.ent
        have fb3 := frees_ent (js := js) (goods_nd hg) hr1.fine ta.ent
        have hold : ∀ {rs : List Row} {Q : DV → List OC → Prop} {E : Ex → List OC → Prop}, (∀ r ∈ rs, r.1 ∈ cash :: gs ∧ r.2.1 ∈ cash :: gs) → Q (.d (.bl (frees gs rs js))) [] → sdHolds [.d (mvD js), .d (.lst (gs.map .str)), .d (.lst (rs.map rowD))] Q E := fun h q => ⟨js, gs, _, rfl, hg, hjl, h, q⟩
        have fa : ∀ {d : D} {e : En} {rs : List Row} {md : D} {Q : DV → List OC → Prop} {E : Ex → List OC → Prop}, Tb C gs rs e d → RowOf md (js.map .int) → Q (.d (.bl (frees gs rs js))) [] → sdFits C BM [.d md, .d d] Q E := fun h1 h2 h3 => fits_is h1 h2 hjl h3
        have ap1 : frees gs r1 js = true → (m1 ++ [js] : List (List Int)) = (ms.take (i2 + 1)).filter (frees gs r1) := fun h => by rw [e1, List.take_succ, hjx, List.filter_append]; show _ = _ ++ [js].filter _; rw [List.filter_cons, if_pos h]; rfl
        have ap2 : frees gs r2 js = true → (m2 ++ [js] : List (List Int)) = (ms.take (i2 + 1)).filter (frees gs r2) := fun h => by rw [e2, List.take_succ, hjx, List.filter_append]; show _ = _ ++ [js].filter _; rw [List.filter_cons, if_pos h]; rfl
        have an1 : frees gs r1 js = false → m1 = (ms.take (i2 + 1)).filter (frees gs r1) := fun h => by rw [e1, List.take_succ, hjx, List.filter_append]; show _ = _ ++ [js].filter _; rw [List.filter_cons, if_neg (by rw [h]; exact Bool.false_ne_true), List.filter_nil, List.append_nil]
        have an2 : frees gs r2 js = false → m2 = (ms.take (i2 + 1)).filter (frees gs r2) := fun h => by rw [e2, List.take_succ, hjx, List.filter_append]; show _ = _ ++ [js].filter _; rw [List.filter_cons, if_neg (by rw [h]; exact Bool.false_ne_true), List.filter_nil, List.append_nil]
        walk_at "dd"
        refine hold (fun r h => ⟨(hr1.row r h).1, (hr1.row r h).2.1⟩) ?_
        walk_at "dd"
        refine hold (fun r h => ⟨(ok2.1.row r h).1, (ok2.1.row r h).2.1⟩) ?_
        walk_at "dd"
        refine fa ta (.inr rfl) ?_
        walk_at "dd"
        refine ⟨rfl, ?_⟩
        walk_at "dd"
        refine itF neS_same ?_
        walk_at "dd"
        refine fa tb (.inl rfl) ?_
        walk_at "dd"
        refine ⟨rfl, ?_⟩
        walk_at "dd"
        refine itF neS_same ?_
        walk_at "dd"
        refine fa t3 (.inr rfl) ?_
        rw [fb1]
        cases hb1 : frees gs r1 js <;> cases hb2 : frees gs r2 js
        · walk_at "dd"
          refine ⟨rfl, ?_⟩
          walk_at "dd"
          refine itF (neS_same (b := false)) ?_
          walk_at "dd"
          refine first_is ta (.inr rfl) hjl ?_
          walk_at "dd"
          refine ⟨frees gs (entRows (cash :: gs) ea) js, rfl, isn, DR.nost_b, ?_⟩
          rw [fb3, hb1]
          walk_at "dd"
          refine ⟨rfl, ?_⟩
          walk_at "dd"
          refine itF (neS_same (b := false)) ?_
          walk_at "dd"
          exact kN2 _ ⟨m1, m2, _, _, _, _, _, _, _, _, _, _, _, _, by with_unfolding_all rfl, an1 hb1, an2 hb2⟩
        · walk_at "dd"
          refine ⟨rfl, ?_⟩
          walk_at "dd"
          refine itF (neS_same (b := false)) ?_
          walk_at "dd"
          refine first_is ta (.inr rfl) hjl ?_
          walk_at "dd"
          refine ⟨frees gs (entRows (cash :: gs) ea) js, rfl, isn, DR.nost_b, ?_⟩
          rw [fb3, hb1]
          walk_at "dd"
          refine ⟨rfl, ?_⟩
          walk_at "dd"
          refine itF (neS_same (b := false)) ?_
          walk_at "dd"
          refine fa t4 (.inr rfl) ?_
          rw [fb2 (by rw [hb1, hb2]; rfl)]
          walk_at "dd"
          refine ⟨[_], _, rfl, rfl, _, rfl, by rw [List.length_map]; exact Nat.lt_of_le_of_lt l2 (Nat.lt_trans hi2 (by decide)), ?_⟩
          walk_at "dd"
          exact kN2 _ ⟨m1, (m2++[js]), _, _, _, _, _, _, _, _, _, _, _, _, by simp only [List.map_append]; with_unfolding_all rfl, an1 hb1, ap2 hb2⟩
        · walk_at "dd"
          refine ⟨rfl, ?_⟩
          walk_at "dd"
          refine itF (neS_same (b := false)) ?_
          walk_at "dd"
          refine first_is ta (.inr rfl) hjl ?_
          walk_at "dd"
          refine ⟨frees gs (entRows (cash :: gs) ea) js, rfl, isn, DR.nost_b, ?_⟩
          rw [fb3, hb1]
          walk_at "dd"
          refine ⟨rfl, ?_⟩
          walk_at "dd"
          refine itF (neS_same (b := true)) ?_
          walk_at "dd"
          refine fa t4 (.inr rfl) ?_
          rw [fb2 (by rw [hb1, hb2]; rfl)]
          walk_at "dd"
          refine ⟨[_], _, rfl, rfl, _, rfl, by rw [List.length_map]; exact Nat.lt_of_le_of_lt l1 (Nat.lt_trans hi2 (by decide)), ?_⟩
          walk_at "dd"
          exact kN2 _ ⟨(m1++[js]), m2, _, _, _, _, _, _, _, _, _, _, _, _, by simp only [List.map_append]; with_unfolding_all rfl, ap1 hb1, an2 hb2⟩
        · walk_at "dd"
          refine ⟨rfl, ?_⟩
          walk_at "dd"
          refine itF (neS_same (b := true)) ?_
          walk_at "dd"
          refine first_is ta (.inr rfl) hjl ?_
          walk_at "dd"
          refine ⟨frees gs (entRows (cash :: gs) ea) js, rfl, isn, DR.nost_b, ?_⟩
          rw [fb3, hb1]
          walk_at "dd"
          refine ⟨rfl, ?_⟩
          walk_at "dd"
          refine itF (neS_same (b := true)) ?_
          walk_at "dd"
          refine fa t4 (.inr rfl) ?_
          rw [fb2 (by rw [hb1, hb2]; rfl)]
          walk_at "dd"
          refine ⟨[_], _, rfl, rfl, _, rfl, by rw [List.length_map]; exact Nat.lt_of_le_of_lt l1 (Nat.lt_trans hi2 (by decide)), ?_⟩
          walk_at "dd"
          refine ⟨[_], _, rfl, rfl, _, rfl, by rw [List.length_map]; exact Nat.lt_of_le_of_lt l2 (Nat.lt_trans hi2 (by decide)), ?_⟩
          walk_at "dd"
          exact kN2 _ ⟨(m1++[js]), (m2++[js]), _, _, _, _, _, _, _, _, _, _, _, _, by simp only [List.map_append]; with_unfolding_all rfl, ap1 hb1, ap2 hb2⟩
      · rintro δ ⟨m1, m2, p7, p8, p9, p10, p18, p19, p20, p21, p22, p23, p24, p25, rfl, e1, e2⟩
        rw [List.length_map, List.take_length] at e1 e2
        exact kN _ ⟨ys2, n2, ms, _, _, _, _, _, _, _, _, _, _, _, _, _, _, by with_unfolding_all rfl, hs2, by omega, hml, e1, e2, hms⟩
    rintro δ ⟨ys, m, ms, m1, m2, p7, p8, p9, p10, p18, p19, p20, p21, p22, p23, p24, p25, rfl, hs, hm, hml, em1, em2, hms⟩
    with_reducible refine DR.cut (fun δ => ∃ ys m, ∃ v1 v2 : DV, ∃ p7 p8 p9 p10 p18 p19 p20 p21 p22 p23 p24 p25, δ = [some (.d (.ro (zs.map .int))), some (.d (.int i)), some (.own (.lst ys)), some (.d (.lst (gs.map .str))), some (.d (.lst ((cash :: gs).map .str))), some (.d (.lst (r1.map rowD))), some (.d (.lst (r2.map rowD))), p7, p8, p9, p10, some (.d (.obj C (tabFs gs r1 ka fa))), some (.d (.obj C (tabFs gs r2 kb fb))), some (.d (.obj C (tabFs gs (entRows (cash :: gs) mm) k3 f3))), some (.d (.obj C (tabFs gs (entRows (cash :: gs) fun a b => max (ea a b) (eb a b)) k4 f4))), some (.d (.obj C (tabFs gs (entRows (cash :: gs) fun a b => ea a b + eb a b) k5 f5))), some v1, some v2, p18, p19, p20, p21, p22, p23, p24, p25] ∧ Src m ys ∧ m ≤ 3100 ∧ v1.toD = .lst (m1.map mvD) ∧ v2.toD = .lst (m2.map mvD)) (fun N kN => ?_) ?_
    · walk_at "dd"
      refine ⟨by decide, by decide, ?_⟩
      refine DR.for_inv (fun i9 δ => ∃ ys m, ∃ v1 v2 : DV, ∃ p7 p8 p9 p10 p18 p19 p20 p21 p22 p23 p24 p25, δ = [some (.d (.ro (zs.map .int))), some (.d (.int i)), some (.own (.lst ys)), some (.d (.lst (gs.map .str))), some (.d (.lst ((cash :: gs).map .str))), some (.d (.lst (r1.map rowD))), some (.d (.lst (r2.map rowD))), p7, p8, p9, p10, some (.d (.obj C (tabFs gs r1 ka fa))), some (.d (.obj C (tabFs gs r2 kb fb))), some (.d (.obj C (tabFs gs (entRows (cash :: gs) mm) k3 f3))), some (.d (.obj C (tabFs gs (entRows (cash :: gs) fun a b => max (ea a b) (eb a b)) k4 f4))), some (.d (.obj C (tabFs gs (entRows (cash :: gs) fun a b => ea a b + eb a b) k5 f5))), some v1, some v2, p18, p19, p20, p21, p22, p23, p24, p25] ∧ Src m ys ∧ m ≤ 3001 + 2 * i9 ∧ v1.toD = .lst (m1.map mvD) ∧ v2.toD = .lst (m2.map mvD)) ⟨ys, m, _, _, _, _, _, _, _, _, _, _, _, _, _, _, by with_unfolding_all rfl, hs, by omega, rfl, rfl⟩ ?_ ?_
      · rintro i2 x δ N2 hx2 ⟨ys, m, v1, v2, p7, p8, p9, p10, p18, p19, p20, p21, p22, p23, p24, p25, rfl, hs, hm, ev1, ev2⟩ kN2
        have hi2 : i2 < 12 := DR.at_lt hx2
        walk_at "dd"
        rw [ev1]
        by_cases z1 : m1 = []
        · refine .inl ?_
          refine eqd_f (dp_mvs _).cmp dp_nil.cmp (b := true) (by rw [z1]; rfl) ?_
          walk_at "dd"
          exact kN2 _ ⟨ys,  m,  .d (.lst (m1.map mvD)),  v2, _, _, _, _, _, _, _, _, _, _, _, _, by with_unfolding_all rfl, hs, by omega, rfl, ev2⟩
        · refine .inr ⟨_, _, .inl rfl, .inl rfl, by rw [List.length_map]; exact fun z => z1 (List.length_eq_zero_iff.mp z), ?_⟩
          walk_at "dd"
          rw [ev2]
          by_cases z2 : m2 = []
          · refine .inl ?_
            refine eqd_f (dp_mvs _).cmp dp_nil.cmp (b := true) (by rw [z2]; rfl) ?_
            walk_at "dd"
            exact kN2 _ ⟨ys,  m,  .d (.lst (m1.map mvD)),  .d (.lst (m2.map mvD)), _, _, _, _, _, _, _, _, _, _, _, _, by with_unfolding_all rfl, hs, by omega, rfl, rfl⟩
          · refine .inr ⟨_, _, .inl rfl, .inl rfl, by rw [List.length_map]; exact fun z => z2 (List.length_eq_zero_iff.mp z), ?_⟩
            have l1 : 0 < m1.length := List.length_pos_iff.mpr z1
            have l2 : 0 < m2.length := List.length_pos_iff.mpr z2
            have l3 : m1.length ≤ 343 := by rw [em1]; exact Nat.le_trans (List.length_filter_le ..) hml
            have l4 : m2.length ≤ 343 := by rw [em2]; exact Nat.le_trans (List.length_filter_le ..) hml
            walk_at "dd"
            refine draw hs (by omega) (by rw [List.length_map]; omega) (by rw [List.length_map]; omega) fun r ys r0 rr hs => ?_
            rw [List.length_map] at rr
            obtain ⟨js, hj, ej⟩ := at_mv (f := mvD) (l := m1) r0 rr
            walk_at "dd"
            refine ⟨_, _, .inl rfl, ej, ?_⟩
            walk_at "dd"
            refine draw hs (by omega) (by rw [List.length_map]; omega) (by rw [List.length_map]; omega) fun r ys r0 rr hs => ?_
            rw [List.length_map] at rr
            obtain ⟨ks, hk, ek⟩ := at_mv (f := mvD) (l := m2) r0 rr
            walk_at "dd"
            refine ⟨_, _, .inl rfl, ek, ?_⟩
            rw [em1] at hj
            rw [em2] at hk
            obtain ⟨hj1, hj2⟩ := List.mem_filter.mp hj
            obtain ⟨hk1, hk2⟩ := List.mem_filter.mp hk
            walk_at "dd"
            refine ⟨_, _, _, _, rfl, .inr ⟨rfl, rfl⟩, ?_⟩
            rw [zip_ints]
            walk_at "dd"
            refine DR.lc_mapM (l := js.zip ks) (r := fun p : Int × Int => D.tup [.int p.1, .int p.2]) (fun p => D.int (p.1 + p.2)) (fun p acc N3 hp hl3 kN3 => ?_) ?_
            · walk_at "dd"
              exact ⟨Nat.lt_of_lt_of_le hl3 (Nat.le_trans (by rw [List.length_zip, hms js hj1, hms ks hk1]; exact Nat.le_trans (Nat.min_le_left ..) hgl3) (show 3 ≤ sizeLine by decide)), kN3⟩
            rw [zip_add]
            walk_at "dd"
            refine fits_is t5 (.inl rfl) (by rw [List.length_zipWith, hms js hj1, hms ks hk1, Nat.min_self]) ?_
            have := frees_add (goods_nd hg) hr1.fine ta.ent ok2.1 tb.ent (hms js hj1) (hms ks hk1) hj2 hk2
            unfold frees at this
            rw [this]
            walk_at "dd"
            exact kN2 _ ⟨ys,  _,  .d (.lst (m1.map mvD)),  .d (.lst (m2.map mvD)), _, _, _, _, _, _, _, _, _, _, _, _, by with_unfolding_all rfl, hs, by omega, rfl, rfl⟩
      · rintro δ ⟨ys, m, v1, v2, p7, p8, p9, p10, p18, p19, p20, p21, p22, p23, p24, p25, rfl, hs, hm, ev1, ev2⟩
        exact kN _ ⟨ys, m, v1, v2, _, _, _, _, _, _, _, _, _, _, _, _, by with_unfolding_all rfl, hs, Nat.le_trans hm (by show 3001 + 2 * 12 ≤ 3100; decide), ev1, ev2⟩
    rintro δ ⟨ys, m, v1, v2, p7, p8, p9, p10, p18, p19, p20, p21, p22, p23, p24, p25, rfl, hs, hm, ev1, ev2⟩
    with_reducible refine DR.cut (fun δ => ∃  p7 p8 p9 p10 p18 p19 p20 p21 p23 p24 p25, δ = [some (.d (.ro (zs.map .int))), some (.d (.int i)), some (.own (.lst ys)), some (.d (.lst (gs.map .str))), some (.d (.lst ((cash :: gs).map .str))), some (.d (.lst (r1.map rowD))), some (.d (.lst (r2.map rowD))), p7, p8, p9, p10, some (.d (.obj C (tabFs gs r1 ka fa))), some (.d (.obj C (tabFs gs r2 kb fb))), some (.d (.obj C (tabFs gs (entRows (cash :: gs) mm) k3 f3))), some (.d (.obj C (tabFs gs (entRows (cash :: gs) fun a b => max (ea a b) (eb a b)) k4 f4))), some (.d (.obj C (tabFs gs (entRows (cash :: gs) fun a b => ea a b + eb a b) k5 f5))), some v1, some v2, p18, p19, p20, p21, some (.d (.lst ((cash :: gs).map fun d => mvD (exl gs ea d)))), p23, p24, p25]) (fun N kN => ?_) ?_
    · walk_at "dd"
      refine DR.lc_mapM (fun d => mvD (exl gs ea d)) (fun d acc N2 hd hl2 kN2 => ?_) ?_
      · walk_at "dd"
        refine ⟨gs, r1, ea, _, .str cash, .str d, rfl, ta, .str _, fun _ => .str _, fun z => no (known_yes List.mem_cons_self) z, fun _ z => no (known_yes hd) z, fun a b q1 q2 _ _ => ?_⟩
        cases q1
        cases q2
        walk_at "dd"
        exact ⟨Nat.lt_of_lt_of_le hl2 (Nat.le_trans (goods_len hg) (by decide)), kN2⟩
      exact kN _ ⟨_, _, _, _, _, _, _, _, _, _, _, by with_unfolding_all rfl⟩
    rintro δ ⟨p7, p8, p9, p10, p18, p19, p20, p21, p23, p24, p25, rfl⟩
    obtain ⟨ins, hin⟩ : ∃ ins : Bool, ins = true ↔ LeE (cash :: gs) ea eb := ⟨@decide (LeE (cash :: gs) ea eb) (Classical.propDecidable _), @decide_eq_true_iff _ (Classical.propDecidable _)⟩
    with_reducible refine DR.cut (fun δ => ∃  p7 p8 p9 p10 p18 p19 p20 p21 p24 p25, δ = [some (.d (.ro (zs.map .int))), some (.d (.int i)), some (.own (.lst ys)), some (.d (.lst (gs.map .str))), some (.d (.lst ((cash :: gs).map .str))), some (.d (.lst (r1.map rowD))), some (.d (.lst (r2.map rowD))), p7, p8, p9, p10, some (.d (.obj C (tabFs gs r1 ka fa))), some (.d (.obj C (tabFs gs r2 kb fb))), some (.d (.obj C (tabFs gs (entRows (cash :: gs) mm) k3 f3))), some (.d (.obj C (tabFs gs (entRows (cash :: gs) fun a b => max (ea a b) (eb a b)) k4 f4))), some (.d (.obj C (tabFs gs (entRows (cash :: gs) fun a b => ea a b + eb a b) k5 f5))), some v1, some v2, p18, p19, p20, p21, some (.d (.lst ((cash :: gs).map fun d => mvD (exl gs ea d)))), some (.d (.bl ins)), p24, p25]) (fun N kN => ?_) ?_
    · walk_at "dd"
      refine DR.lc_mapM (l := cash :: gs) (r := fun d => mvD (exl gs ea d)) (fun d => D.bl (frees gs r2 (exl gs ea d))) (fun d acc N2 hd hl2 kN2 => ?_) ?_
      · walk_at "dd"
        refine ⟨exl gs ea d, gs, r2, rfl, hg, by unfold exl; rw [List.length_map], fun r h => ⟨(ok2.1.row r h).1, (ok2.1.row r h).2.1⟩, ?_⟩
        walk_at "dd"
        exact ⟨Nat.lt_of_lt_of_le hl2 (Nat.le_trans (goods_len hg) (by decide)), kN2⟩
      walk_at "dd"
      refine ⟨(cash :: gs).map fun d => frees gs r2 (exl gs ea d), .inl (by rw [List.map_map]; rfl), ?_⟩
      walk_at "dd"
      have ee := frees_ends hin ta.met ok2.1 tb.ent
      have q := kN
      rw [← ee] at q
      exact q _ ⟨_, _, _, _, _, _, _, _, _, _, by with_unfolding_all rfl⟩
    rintro δ ⟨p7, p8, p9, p10, p18, p19, p20, p21, p24, p25, rfl⟩
    have eup : (firstUp (cash :: gs) ea eb).isNone = ins := bool_iff (p := LeE (cash :: gs) ea eb) (by rw [Option.isNone_iff_eq_none]; exact up_iff ta.met tb.met) hin
    with_reducible refine DR.cut (fun δ => ∃  p7 p8 p9 p10 p16 p17 p18 p19 p20 p21 p24 p25, δ = [some (.d (.ro (zs.map .int))), some (.d (.int i)), some (.own (.lst ys)), some (.d (.lst (gs.map .str))), some (.d (.lst ((cash :: gs).map .str))), some (.d (.lst (r1.map rowD))), some (.d (.lst (r2.map rowD))), p7, p8, p9, p10, some (.d (.obj C (tabFs gs r1 ka fa))), some (.d (.obj C (tabFs gs r2 kb fb))), some (.d (.obj C (tabFs gs (entRows (cash :: gs) mm) k3 f3))), some (.d (.obj C (tabFs gs (entRows (cash :: gs) fun a b => max (ea a b) (eb a b)) k4 f4))), some (.d (.obj C (tabFs gs (entRows (cash :: gs) fun a b => ea a b + eb a b) k5 f5))), p16, p17, p18, p19, p20, p21, some (.d (.lst ((cash :: gs).map fun d => mvD (exl gs ea d)))), some (.d (.bl ins)), p24, p25]) (fun N kN => ?_) ?_
    · walk_at "dd"
      refine ⟨gs, gs, r1, r2, ea, eb, _, _, rfl, ta, tb, .inl ⟨rfl, ?_⟩⟩
      rw [eup]
      walk_at "dd"
      refine ⟨rfl, ?_⟩
      walk_at "dd"
      refine itF neS_same ?_
      walk_at "dd"
      refine DR.splitB (fun hi => ?_) (fun hi => ?_)
      · walk_at "dd"
        rw [ev1]
        refine ⟨m1.map mvD, .inl rfl, ?_⟩
        refine DR.lc_inv (fun i9 acc δ => ∃ v2 : DV, ∃ p7 p8 p9 p10 p18 p19 p20 p21 p24 p25, δ = [some (.d (.ro (zs.map .int))), some (.d (.int i)), some (.own (.lst ys)), some (.d (.lst (gs.map .str))), some (.d (.lst ((cash :: gs).map .str))), some (.d (.lst (r1.map rowD))), some (.d (.lst (r2.map rowD))), p7, p8, p9, p10, some (.d (.obj C (tabFs gs r1 ka fa))), some (.d (.obj C (tabFs gs r2 kb fb))), some (.d (.obj C (tabFs gs (entRows (cash :: gs) mm) k3 f3))), some (.d (.obj C (tabFs gs (entRows (cash :: gs) fun a b => max (ea a b) (eb a b)) k4 f4))), some (.d (.obj C (tabFs gs (entRows (cash :: gs) fun a b => ea a b + eb a b) k5 f5))), some (.d (.lst (m1.map mvD))), some v2, p18, p19, p20, p21, some (.d (.lst ((cash :: gs).map fun d => mvD (exl gs ea d)))), some (.d (.bl ins)), p24, p25] ∧ acc = (m1.take i9).map (fun _ => D.bl true) ∧ v2.toD = .lst (m2.map mvD)) ⟨v2, _, _, _, _, _, _, _, _, _, _, by with_unfolding_all rfl, rfl, ev2⟩ ?_ ?_
        · rintro i2 x acc δ N2 hx2 ⟨v2, p7, p8, p9, p10, p18, p19, p20, p21, p24, p25, rfl, hacc, ev2⟩ kN2
          obtain ⟨js, hjx, rfl⟩ := DR.map_at hx2
          have hj := List.mem_of_getElem? hjx
          have hi2 : i2 < 343 := Nat.lt_of_lt_of_le (DR.at_lt hjx) (by rw [em1]; exact Nat.le_trans (List.length_filter_le ..) hml)
          rw [em1] at hj
          obtain ⟨hj1, hj2⟩ := List.mem_filter.mp hj
          have hj3 : js ∈ m2 := by
            rw [em2]
            exact List.mem_filter.mpr ⟨hj1, (frees_iff ok2.1 tb.ent).mpr (all_mono (hin.mp hi) ((frees_iff hr1.fine ta.ent).mp hj2))⟩
          walk_at "dd"
          rw [ev2]
          refine ⟨m2.map mvD, .inl rfl, (dp_ints js).cmp, (dp_mvs m2).cmp, ?_⟩
          rw [if_neg Bool.false_ne_true, show ((pyL (m2.map mvD)).any fun z => PyData.eqv z (DV.d (mvD js)).toD.py) = true from mem_any hj3]
          walk_at "dd"
          refine ⟨by rw [hacc, List.length_map, List.length_take]; exact Nat.lt_of_le_of_lt (Nat.min_le_left ..) (Nat.lt_trans hi2 (by decide)), ?_⟩
          exact kN2 _ _ ⟨.d (.lst (m2.map mvD)), _, _, _, _, _, _, _, _, _, _, by with_unfolding_all rfl, by rw [hacc, List.take_succ, hjx, List.map_append]; rfl, rfl⟩
        rintro acc δ ⟨v2, p7, p8, p9, p10, p18, p19, p20, p21, p24, p25, rfl, hacc, ev2⟩
        rw [List.length_map, List.take_length] at hacc
        subst hacc
        walk_at "dd"
        refine ⟨m1.map fun _ => true, .inl (by rw [List.map_map]; rfl), ?_⟩
        walk_at "dd"
        refine itF (by show (!(m1.map fun _ => true).all id) = false; simp) ?_
        walk_at "dd"
        exact kN _ ⟨_, _, _, _, _, _, _, _, _, _, _, _, by with_unfolding_all rfl⟩
      · walk_at "dd"
        exact kN _ ⟨_, _, _, _, _, _, _, _, _, _, _, _, by with_unfolding_all rfl⟩
    rintro δ ⟨p7, p8, p9, p10, p16, p17, p18, p19, p20, p21, p24, p25, rfl⟩
    walk_at "dd"
    refine ⟨gs, gs, r1, r2, ea, eb, _, _, rfl, ta, tb, .inl ⟨rfl, fun z ⟨mn, tz, iz⟩ => ?_⟩⟩
    obtain ⟨k6, f6, rfl, _⟩ := id tz
    walk_at "dd"
    refine ⟨.inl ⟨_, rfl, nfs⟩, gs, gs, _, r1, mn, ea, _, _, rfl, tz, ta, fun b6 h6 => ⟨b6, rfl, ?_⟩⟩
    obtain rfl := bool_iff (h6.trans (and_iff iz ta.met)) hin
    walk_at "dd"
    refine ⟨rfl, ?_⟩
    walk_at "dd"
    refine itF neS_same ?_
    walk_at "dd"
    refine ⟨gs, gs, r1, r2, ea, eb, _, _, rfl, ta, tb, .inl ⟨rfl, fun z t7 => ?_⟩⟩
    obtain ⟨k7, f7, rfl, _⟩ := id t7
    walk_at "dd"
    refine ⟨.inl ⟨_, rfl, nfs⟩, gs, gs, _, r2, _, eb, _, _, rfl, t7, tb, fun b7 h7 => ⟨b7, rfl, ?_⟩⟩
    obtain rfl := bool_iff (h7.trans (or_iff ta.met tb.met)) hin
    walk_at "dd"
    refine ⟨rfl, ?_⟩
    walk_at "dd"
    refine itF neS_same ?_
    walk_at "dd"
    exact kN _ ⟨_, _, _, _, _, _, _, _, _, _, _, _, _, _, _, _, _, _, _, _, _, _, _, _, _, by with_unfolding_all rfl⟩
  · rintro δ ⟨p1, p2, p3, p4, p5, p6, p7, p8, p9, p10, p11, p12, p13, p14, p15, p16, p17, p18, p19, p20, p21, p22, p23, p24, p25, rfl⟩
    walk_at "dd"
    exact k
end
end KT

set_option Elab.async false
set_option linter.all false
set_option maxRecDepth 100000
set_option maxHeartbeats 0
set_option pp.deepTerms false
set_option pp.deepTerms.threshold 8

namespace KT
open PySem PySem.Spec PyProof.Rows L2 DL
theorem vals_app {vs ws : List V} {us xs : List Value} (h : Vals vs us) (g : Vals ws xs) : Vals (vs ++ ws) (us ++ xs) := by
  induction h with
  | nil => exact g
  | cons r _ ih => exact .cons r ih
abbrev capV : List (Str × V) := [("cap", .int 1000000000000)]
theorem kbI0 {K : PySem.W.Frag} {f : Addr} {fd : FuncData} (F : FunD K "__init__" "Table.__init__" (defArgs s_Table___init) (defBody s_Table___init) (defScope s_Table___init) [] capV f fd) :
    ∃ mv : List Value, KBn K fd ["self", "goods", "rows", "cap"] 3 [] (fun us ws => us ++ ws ++ mv) (fun vs zs => vs ++ zs ++ [.int 1000000000000]) :=
  F.kbinds0 3 [] capV (fun a m z => a ++ z ++ m) (by simp) (fun q h => h) (fun r1 r2 r3 => vals_app (vals_app r1 r3) r2) (fun D doc pm an cdv ct us mv ws l1 l2 l3 => match us, mv, ws, l1, l2, l3 with
    | [_, _, _], [_], [], _, _, _ => ⟨_, _, _, _, _, _, rfl, rfl, rfl⟩)
theorem kbI1 {K : PySem.W.Frag} {f : Addr} {fd : FuncData} (F : FunD K "__init__" "Table.__init__" (defArgs s_Table___init) (defBody s_Table___init) (defScope s_Table___init) [] capV f fd) :
    ∃ mv : List Value, KBn K fd ["self", "goods", "rows", "cap"] 3 ["cap"] (fun us ws => us ++ ws ++ mv) (fun vs zs => vs ++ zs ++ []) :=
  F.kbinds0 3 ["cap"] [] (fun a m z => a ++ z ++ m) (by simp) (fun q h => nomatch h) (fun r1 r2 r3 => vals_app (vals_app r1 r3) r2) (fun D doc pm an cdv ct us mv ws l1 l2 l3 => match us, mv, ws, l1, l2, l3 with
    | [_, _, _], [], [_], _, _, _ => rfl)
theorem fund_mk {K : PySem.W.Frag} {x qual : Str} {st : Stmt} {f D : Addr} {oc : Value} {od an : Option Addr} {osl : Array (Option Value)} {doc pm cdv ct : Value} {t : Nat} (l : K.lookup f = some ⟨oc, od, .func (PySem.W.fnOf x qual (defArgs st) (defBody st) (defScope st) .none (.ref D) doc pm an cdv ct), osl⟩)
    (c : PySem.W.codeIn K cdv qual = true) (k : PySem.W.keepIn K (.ref f) = true) (d : PySem.W.nsIn K D "cap" = some (some (.int 1000000000000 t))) : FunD K x qual (defArgs st) (defBody st) (defScope st) [] capV f (PySem.W.fnOf x qual (defArgs st) (defBody st) (defScope st) .none (.ref D) doc pm an cdv ct) :=
  ⟨⟨oc, od, _, _, doc, pm, an, cdv, ct, osl, rfl, l, c, .inl ⟨rfl, rfl⟩, .inr ⟨D, rfl, fun q hq => by
    rw [List.mem_singleton.mp hq]
    exact ⟨_, d, ⟨_, rfl⟩⟩⟩⟩, k⟩
end KT

set_option Elab.async false
set_option linter.all false
set_option maxRecDepth 100000
set_option maxHeartbeats 0
set_option pp.deepTerms false
set_option pp.deepTerms.threshold 8

namespace KT
open PySem PySem.Spec PyProof.Rows L2 DL
theorem reps_ints {K : PySem.W.Frag} {F : Hp} : ∀ {ns : List Int}, RepL K F (ns.map V.int) (ns.map D.int)
  | [] => .nil
  | _ :: _ => .cons (.int _) reps_ints
theorem law_in {K : PySem.W.Frag} {H : Hp} {a : Addr} {ns : List Int} (h : SqL K H a (ns.map V.int)) : spOf K sdLaw [.ref a] H (fun v _ => v = .bl true) fun _ _ _ => False := by
  refine ⟨H, [.d (.ro (ns.map .int))], [], fun x _ => x = .d (.bl true), fun _ _ => False, fun p u e => e, .d (.ro h reps_ints) .nil, ⟨ns, rfl, rfl⟩, fun v x os F' H' q P r => ?_, fun _ _ _ _ _ _ z => z.elim⟩
  subst q
  replace r : Rep K F' v (.bl true) := r
  cases r
  rfl
theorem cx_none {P : Program} {w : World} {H : Hp} {s s' : Shared} {e : Value} (h : L2.CX P w [] H s (fun _ _ _ => False) e s') : False := by
  obtain ⟨_, _, _, _, _, _, _, _, _, _, _, _, z⟩ := h
  exact z
theorem kit_ref2 {K : PySem.W.Frag} {B M : Addr} {r : Bool} (ne : B ≠ M) (ic : PySem.W.isClsIn K M = true) (ty : PySem.W.typeIn K (.ref M) = some (.type "type")) (s : PySem.W.subIn K (.ref B) (.ref M) = some r) : PySem.W.kitOne K (.ref B) (.ref M) = some r := by
  have ic' : (PySem.W.clsIn K M).isSome = true := ic
  unfold PySem.W.kitOne
  rw [if_neg (by simp [ne])]
  show (if ((PySem.W.clsIn K M).isSome && PySem.W.typeIn K (.ref M) == some (.type "type")) = true then PySem.W.subIn K (.ref B) (.ref M) else none) = _
  rw [if_pos (by rw [ic', ty]; simp)]
  exact s
theorem kit_ref3 {K : PySem.W.Frag} {B M : Addr} (ic : PySem.W.isClsIn K M = true) (ty : PySem.W.typeIn K (.ref M) = some (.type "type")) (s : PySem.W.subIn K (.ref B) (.ref M) = some true) : PySem.W.kitOne K (.ref B) (.ref M) = some true := by
  by_cases ne : B = M
  · subst ne
    unfold PySem.W.kitOne
    simp
  · exact kit_ref2 ne ic ty s
theorem exm_ref {K : PySem.W.Frag} {B M : Addr} {r : Bool} (ex : PySem.W.subIn K (.ref M) (.type "BaseException") = some true) (ic : PySem.W.isClsIn K M = true) (ty : PySem.W.typeIn K (.ref M) = some (.type "type")) (s : PySem.W.subIn K (.ref B) (.ref M) = some r) : PySem.W.exmOne K (.ref B) (.ref M) = some r := by
  have ic' : (PySem.W.clsIn K M).isSome = true := ic
  unfold PySem.W.exmOne
  rw [if_pos (by rw [ex]; rfl)]
  show (if ((PySem.W.clsIn K M).isSome && PySem.W.typeIn K (.ref M) == some (.type "type")) = true then PySem.W.subIn K (.ref B) (.ref M) else none) = _
  rw [if_pos (by rw [ic', ty]; simp)]
  exact s
theorem nf_self {K : PySem.W.Frag} {C : Addr} : PySem.W.notFirst K C (.ref C) = true := by
  unfold PySem.W.notFirst
  simp
end KT

set_option Elab.async false
set_option linter.all false
set_option maxRecDepth 100000
set_option maxHeartbeats 0
set_option pp.deepTerms false
set_option pp.deepTerms.threshold 8

namespace KT
open PySem PySem.Spec PyProof.Rows L2 DL
theorem kit_ty {K : PySem.W.Frag} {B : Addr} {n : String} {r : Bool} (km : PySem.W.kitMeta n = true) (s : PySem.W.subIn K (.ref B) (.type n) = some r) : PySem.W.kitOne K (.ref B) (.type n) = some r := by
  unfold PySem.W.kitOne
  rw [if_neg (by simp)]
  show (if PySem.W.kitMeta n = true then PySem.W.subIn K (.ref B) (.type n) else none) = _
  rw [if_pos km]
  exact s
end KT

set_option Elab.async false
set_option linter.all false
set_option maxRecDepth 100000
set_option maxHeartbeats 0
set_option pp.deepTerms false
set_option pp.deepTerms.threshold 8

namespace KT
open PySem PySem.Spec PyProof.Rows L2 DL
theorem ns_ok {K : PySem.W.Frag} {N : Addr} {c : Value} {d : Option Addr} {es : Array DictEntry} {n : Nat} {sl : Array (Option Value)} (l : K.lookup N = some ⟨c, d, .dict es n, sl⟩) (q : (es.toList.all fun e => match e.key with | .str _ _ => true | _ => false) = true) : PySem.W.nsOkIn K N = true := by
  unfold PySem.W.nsOkIn
  rw [l]
  show (es.all fun e => match e.key with | .str _ _ => true | _ => false) = true
  rw [← Array.all_toList]
  exact q
theorem fn_of_ty {K : PySem.W.Frag} {f : Addr} (t : PySem.W.typeIn K (.ref f) = some (.type "function")) : ∃ of, K.lookup f = some of ∧ of.cls = .type "function" := by
  obtain ⟨o, ho, e⟩ := Option.map_eq_some_iff.mp (show (K.lookup f).map (·.cls) = some (.type "function") from t)
  exact ⟨o, ho, e⟩
theorem all_mk {l : PySem.W.OpenLaw} {w : World} {K : PySem.W.Frag} {h : Heap} {mg : Str → Option Value} {fa : Addr} (X : K.In h) (G : h.Ns mainGlobals mg) (hfa : mg "law" = some (.ref fa))
    {C f_init d0_init f_check_pair p_entries f_entries f_getitem f_first_above f_within f_add f_and f_or f_eq OG NC NA NNA BM NBM BG NBG f_xiNA f_xiBM f_xiBG f_is_name f_is_sequence f_is_integer f_is_whole f_is_row f_is_number_row f_checked_goods f_assets f_pairs_of f_check_asset f_check_same_goods f_closed_sums f_made_table f_closed_table f_check_move f_fits f_first_broken f_extreme_move f_row_fault f_checked_rows f_changes f_broken f_law_source f_law_draw f_law_goods f_law_size f_law_pairs f_law_closed f_law_rows f_law_box f_law_holds f_law_small f_law : Addr} {r_entries : List Value} {oc_init : Value} {od_init : Option Addr} {an_init : Option Addr} {sl_init : Array (Option Value)} {dc_init : Value} {pm_init : Value} {cd_init : Value} {ct_init : Value} {td_init : Nat} {oc_check_pair : Value} {od_check_pair : Option Addr} {an_check_pair : Option Addr} {sl_check_pair : Array (Option Value)} {kV_check_pair : Value} {dc_check_pair : Value} {pm_check_pair : Value} {cd_check_pair : Value} {ct_check_pair : Value} {oc_entries : Value} {od_entries : Option Addr} {an_entries : Option Addr} {sl_entries : Array (Option Value)} {kV_entries : Value} {dc_entries : Value} {pm_entries : Value} {cd_entries : Value} {ct_entries : Value} {oc_getitem : Value} {od_getitem : Option Addr} {an_getitem : Option Addr} {sl_getitem : Array (Option Value)} {kV_getitem : Value} {dc_getitem : Value} {pm_getitem : Value} {cd_getitem : Value} {ct_getitem : Value} {oc_first_above : Value} {od_first_above : Option Addr} {an_first_above : Option Addr} {sl_first_above : Array (Option Value)} {kV_first_above : Value} {dc_first_above : Value} {pm_first_above : Value} {cd_first_above : Value} {ct_first_above : Value} {oc_within : Value} {od_within : Option Addr} {an_within : Option Addr} {sl_within : Array (Option Value)} {kV_within : Value} {dc_within : Value} {pm_within : Value} {cd_within : Value} {ct_within : Value} {oc_add : Value} {od_add : Option Addr} {an_add : Option Addr} {sl_add : Array (Option Value)} {kV_add : Value} {dc_add : Value} {pm_add : Value} {cd_add : Value} {ct_add : Value} {oc_and : Value} {od_and : Option Addr} {an_and : Option Addr} {sl_and : Array (Option Value)} {kV_and : Value} {dc_and : Value} {pm_and : Value} {cd_and : Value} {ct_and : Value} {oc_or : Value} {od_or : Option Addr} {an_or : Option Addr} {sl_or : Array (Option Value)} {kV_or : Value} {dc_or : Value} {pm_or : Value} {cd_or : Value} {ct_or : Value} {oc_eq : Value} {od_eq : Option Addr} {an_eq : Option Addr} {sl_eq : Array (Option Value)} {kV_eq : Value} {dc_eq : Value} {pm_eq : Value} {cd_eq : Value} {ct_eq : Value} {nmC : Str} {qnC : Str} {bsC : List Value} {snC : List Str} {subC : List Value} {abC : Bool} {colC : Option Bool} {ddC : Option Addr} {i0C : Option Value} {i1C : Option Value} {i2C : Option Value} {i3C : Option Value} {i5C : Option Value} {hdC : Bool} {newC : String} {clN : Value} {ddN : Option Addr} {esN : Array DictEntry} {nN : Nat} {slN : Array (Option Value)} {nmNA : Str} {qnNA : Str} {bsNA : List Value} {bmNA : List Value} {snNA : List Str} {subNA : List Value} {abNA : Bool} {colNA : Option Bool} {ddNA : Option Addr} {i0NA : Option Value} {i1NA : Option Value} {i2NA : Option Value} {i3NA : Option Value} {i5NA : Option Value} {nmBM : Str} {qnBM : Str} {bsBM : List Value} {bmBM : List Value} {snBM : List Str} {subBM : List Value} {abBM : Bool} {colBM : Option Bool} {ddBM : Option Addr} {i0BM : Option Value} {i1BM : Option Value} {i2BM : Option Value} {i3BM : Option Value} {i5BM : Option Value} {nmBG : Str} {qnBG : Str} {bsBG : List Value} {bmBG : List Value} {snBG : List Str} {subBG : List Value} {abBG : Bool} {colBG : Option Bool} {ddBG : Option Addr} {i0BG : Option Value} {i1BG : Option Value} {i2BG : Option Value} {i3BG : Option Value} {i5BG : Option Value} {oc_xiNA : Value} {od_xiNA : Option Addr} {an_xiNA : Option Addr} {sl_xiNA : Array (Option Value)} {kV_xiNA : Value} {dc_xiNA : Value} {pm_xiNA : Value} {cd_xiNA : Value} {ct_xiNA : Value} {oc_xiBM : Value} {od_xiBM : Option Addr} {an_xiBM : Option Addr} {sl_xiBM : Array (Option Value)} {kV_xiBM : Value} {dc_xiBM : Value} {pm_xiBM : Value} {cd_xiBM : Value} {ct_xiBM : Value} {oc_xiBG : Value} {od_xiBG : Option Addr} {an_xiBG : Option Addr} {sl_xiBG : Array (Option Value)} {kV_xiBG : Value} {dc_xiBG : Value} {pm_xiBG : Value} {cd_xiBG : Value} {ct_xiBG : Value} {oc_is_name : Value} {od_is_name : Option Addr} {an_is_name : Option Addr} {sl_is_name : Array (Option Value)} {kV_is_name : Value} {dc_is_name : Value} {pm_is_name : Value} {cd_is_name : Value} {ct_is_name : Value} {oc_is_sequence : Value} {od_is_sequence : Option Addr} {an_is_sequence : Option Addr} {sl_is_sequence : Array (Option Value)} {kV_is_sequence : Value} {dc_is_sequence : Value} {pm_is_sequence : Value} {cd_is_sequence : Value} {ct_is_sequence : Value} {oc_is_integer : Value} {od_is_integer : Option Addr} {an_is_integer : Option Addr} {sl_is_integer : Array (Option Value)} {kV_is_integer : Value} {dc_is_integer : Value} {pm_is_integer : Value} {cd_is_integer : Value} {ct_is_integer : Value} {oc_is_whole : Value} {od_is_whole : Option Addr} {an_is_whole : Option Addr} {sl_is_whole : Array (Option Value)} {kV_is_whole : Value} {dc_is_whole : Value} {pm_is_whole : Value} {cd_is_whole : Value} {ct_is_whole : Value} {oc_is_row : Value} {od_is_row : Option Addr} {an_is_row : Option Addr} {sl_is_row : Array (Option Value)} {kV_is_row : Value} {dc_is_row : Value} {pm_is_row : Value} {cd_is_row : Value} {ct_is_row : Value} {oc_is_number_row : Value} {od_is_number_row : Option Addr} {an_is_number_row : Option Addr} {sl_is_number_row : Array (Option Value)} {kV_is_number_row : Value} {dc_is_number_row : Value} {pm_is_number_row : Value} {cd_is_number_row : Value} {ct_is_number_row : Value} {oc_checked_goods : Value} {od_checked_goods : Option Addr} {an_checked_goods : Option Addr} {sl_checked_goods : Array (Option Value)} {kV_checked_goods : Value} {dc_checked_goods : Value} {pm_checked_goods : Value} {cd_checked_goods : Value} {ct_checked_goods : Value} {oc_assets : Value} {od_assets : Option Addr} {an_assets : Option Addr} {sl_assets : Array (Option Value)} {kV_assets : Value} {dc_assets : Value} {pm_assets : Value} {cd_assets : Value} {ct_assets : Value} {oc_pairs_of : Value} {od_pairs_of : Option Addr} {an_pairs_of : Option Addr} {sl_pairs_of : Array (Option Value)} {kV_pairs_of : Value} {dc_pairs_of : Value} {pm_pairs_of : Value} {cd_pairs_of : Value} {ct_pairs_of : Value} {oc_check_asset : Value} {od_check_asset : Option Addr} {an_check_asset : Option Addr} {sl_check_asset : Array (Option Value)} {kV_check_asset : Value} {dc_check_asset : Value} {pm_check_asset : Value} {cd_check_asset : Value} {ct_check_asset : Value} {oc_check_same_goods : Value} {od_check_same_goods : Option Addr} {an_check_same_goods : Option Addr} {sl_check_same_goods : Array (Option Value)} {kV_check_same_goods : Value} {dc_check_same_goods : Value} {pm_check_same_goods : Value} {cd_check_same_goods : Value} {ct_check_same_goods : Value} {oc_closed_sums : Value} {od_closed_sums : Option Addr} {an_closed_sums : Option Addr} {sl_closed_sums : Array (Option Value)} {kV_closed_sums : Value} {dc_closed_sums : Value} {pm_closed_sums : Value} {cd_closed_sums : Value} {ct_closed_sums : Value} {oc_made_table : Value} {od_made_table : Option Addr} {an_made_table : Option Addr} {sl_made_table : Array (Option Value)} {kV_made_table : Value} {dc_made_table : Value} {pm_made_table : Value} {cd_made_table : Value} {ct_made_table : Value} {oc_closed_table : Value} {od_closed_table : Option Addr} {an_closed_table : Option Addr} {sl_closed_table : Array (Option Value)} {kV_closed_table : Value} {dc_closed_table : Value} {pm_closed_table : Value} {cd_closed_table : Value} {ct_closed_table : Value} {oc_check_move : Value} {od_check_move : Option Addr} {an_check_move : Option Addr} {sl_check_move : Array (Option Value)} {kV_check_move : Value} {dc_check_move : Value} {pm_check_move : Value} {cd_check_move : Value} {ct_check_move : Value} {oc_fits : Value} {od_fits : Option Addr} {an_fits : Option Addr} {sl_fits : Array (Option Value)} {kV_fits : Value} {dc_fits : Value} {pm_fits : Value} {cd_fits : Value} {ct_fits : Value} {oc_first_broken : Value} {od_first_broken : Option Addr} {an_first_broken : Option Addr} {sl_first_broken : Array (Option Value)} {kV_first_broken : Value} {dc_first_broken : Value} {pm_first_broken : Value} {cd_first_broken : Value} {ct_first_broken : Value} {oc_extreme_move : Value} {od_extreme_move : Option Addr} {an_extreme_move : Option Addr} {sl_extreme_move : Array (Option Value)} {kV_extreme_move : Value} {dc_extreme_move : Value} {pm_extreme_move : Value} {cd_extreme_move : Value} {ct_extreme_move : Value} {oc_row_fault : Value} {od_row_fault : Option Addr} {an_row_fault : Option Addr} {sl_row_fault : Array (Option Value)} {kV_row_fault : Value} {dc_row_fault : Value} {pm_row_fault : Value} {cd_row_fault : Value} {ct_row_fault : Value} {oc_checked_rows : Value} {od_checked_rows : Option Addr} {an_checked_rows : Option Addr} {sl_checked_rows : Array (Option Value)} {kV_checked_rows : Value} {dc_checked_rows : Value} {pm_checked_rows : Value} {cd_checked_rows : Value} {ct_checked_rows : Value} {oc_changes : Value} {od_changes : Option Addr} {an_changes : Option Addr} {sl_changes : Array (Option Value)} {kV_changes : Value} {dc_changes : Value} {pm_changes : Value} {cd_changes : Value} {ct_changes : Value} {oc_broken : Value} {od_broken : Option Addr} {an_broken : Option Addr} {sl_broken : Array (Option Value)} {kV_broken : Value} {dc_broken : Value} {pm_broken : Value} {cd_broken : Value} {ct_broken : Value} {oc_law_source : Value} {od_law_source : Option Addr} {an_law_source : Option Addr} {sl_law_source : Array (Option Value)} {kV_law_source : Value} {dc_law_source : Value} {pm_law_source : Value} {cd_law_source : Value} {ct_law_source : Value} {oc_law_draw : Value} {od_law_draw : Option Addr} {an_law_draw : Option Addr} {sl_law_draw : Array (Option Value)} {kV_law_draw : Value} {dc_law_draw : Value} {pm_law_draw : Value} {cd_law_draw : Value} {ct_law_draw : Value} {oc_law_goods : Value} {od_law_goods : Option Addr} {an_law_goods : Option Addr} {sl_law_goods : Array (Option Value)} {kV_law_goods : Value} {dc_law_goods : Value} {pm_law_goods : Value} {cd_law_goods : Value} {ct_law_goods : Value} {oc_law_size : Value} {od_law_size : Option Addr} {an_law_size : Option Addr} {sl_law_size : Array (Option Value)} {kV_law_size : Value} {dc_law_size : Value} {pm_law_size : Value} {cd_law_size : Value} {ct_law_size : Value} {oc_law_pairs : Value} {od_law_pairs : Option Addr} {an_law_pairs : Option Addr} {sl_law_pairs : Array (Option Value)} {kV_law_pairs : Value} {dc_law_pairs : Value} {pm_law_pairs : Value} {cd_law_pairs : Value} {ct_law_pairs : Value} {oc_law_closed : Value} {od_law_closed : Option Addr} {an_law_closed : Option Addr} {sl_law_closed : Array (Option Value)} {kV_law_closed : Value} {dc_law_closed : Value} {pm_law_closed : Value} {cd_law_closed : Value} {ct_law_closed : Value} {oc_law_rows : Value} {od_law_rows : Option Addr} {an_law_rows : Option Addr} {sl_law_rows : Array (Option Value)} {kV_law_rows : Value} {dc_law_rows : Value} {pm_law_rows : Value} {cd_law_rows : Value} {ct_law_rows : Value} {oc_law_box : Value} {od_law_box : Option Addr} {an_law_box : Option Addr} {sl_law_box : Array (Option Value)} {kV_law_box : Value} {dc_law_box : Value} {pm_law_box : Value} {cd_law_box : Value} {ct_law_box : Value} {oc_law_holds : Value} {od_law_holds : Option Addr} {an_law_holds : Option Addr} {sl_law_holds : Array (Option Value)} {kV_law_holds : Value} {dc_law_holds : Value} {pm_law_holds : Value} {cd_law_holds : Value} {ct_law_holds : Value} {oc_law_small : Value} {od_law_small : Option Addr} {an_law_small : Option Addr} {sl_law_small : Array (Option Value)} {kV_law_small : Value} {dc_law_small : Value} {pm_law_small : Value} {cd_law_small : Value} {ct_law_small : Value} {oc_law : Value} {od_law : Option Addr} {an_law : Option Addr} {sl_law : Array (Option Value)} {kV_law : Value} {dc_law : Value} {pm_law : Value} {cd_law : Value} {ct_law : Value} {t_MOST : Nat} {t__CASH : Nat} {t__LETTERS : Nat} {t__LONGEST_NAME : Nat} {t__MOST_GOODS : Nat}
    (c_Table : PySem.W.nsIn K mainGlobals "Table" = some (some (.ref C)))
    (pg_Table : PySem.W.plainGet K C Str.empty = true)
    (hd_Table : PySem.W.hasDictIn K C = true)
    (po_Table : PySem.W.plainOver K C = true)
    (sa_Table : PySem.W.findIn K (.ref C) "__setattr__" = some (some (.builtin "object.__setattr__")))
    (mk_Table : PySem.W.makesIn K C = true)
    (kp_Table : PySem.W.keepIn K (.ref C) = true)
    (n_Table_goods : PySem.W.findIn K (.ref C) "goods" = some none)
    (n_Table__assets : PySem.W.findIn K (.ref C) "_assets" = some none)
    (n_Table_rows : PySem.W.findIn K (.ref C) "rows" = some none)
    (n_Table__sums : PySem.W.findIn K (.ref C) "_sums" = some none)
    (n_Table__entries : PySem.W.findIn K (.ref C) "_entries" = some none)
    (a_init : PySem.W.findIn K (.ref C) "__init__" = some (some (.ref f_init)))
    (l_init : K.lookup f_init = some ⟨oc_init, od_init, .func (PySem.W.fnOf "__init__" "Table.__init__" (defArgs s_Table___init) (defBody s_Table___init) (defScope s_Table___init) .none (.ref d0_init) dc_init pm_init an_init cd_init ct_init), sl_init⟩)
    (c_init : PySem.W.codeIn K cd_init "Table.__init__" = true)
    (k_init : PySem.W.keepIn K (.ref f_init) = true)
    (d_init : PySem.W.nsIn K d0_init "cap" = some (some (.int 1000000000000 td_init)))
    (i_init : PySem.W.isFn K (.ref f_init) = true)
    (a_check_pair : PySem.W.findIn K (.ref C) "_check_pair" = some (some (.ref f_check_pair)))
    (l_check_pair : K.lookup f_check_pair = some ⟨oc_check_pair, od_check_pair, .func (PySem.W.fnOf "_check_pair" "Table._check_pair" (defArgs s_Table__check_pair) (defBody s_Table__check_pair) (defScope s_Table__check_pair) .none kV_check_pair dc_check_pair pm_check_pair an_check_pair cd_check_pair ct_check_pair), sl_check_pair⟩)
    (c_check_pair : PySem.W.codeIn K cd_check_pair "Table._check_pair" = true)
    (k_check_pair : PySem.W.keepIn K (.ref f_check_pair) = true)
    (i_check_pair : PySem.W.isFn K (.ref f_check_pair) = true)
    (pa_entries : PySem.W.findIn K (.ref C) "entries" = some (some (.ref p_entries)))
    (pt_entries : PySem.W.specialIn K (.ref p_entries) "__get__" = some (some (.builtin "property.__get__")))
    (pk_entries : PySem.W.takesIn K (.ref p_entries) = some true)
    (a_entries : PySem.W.recIn K p_entries "property" = some (.ref f_entries :: r_entries))
    (l_entries : K.lookup f_entries = some ⟨oc_entries, od_entries, .func (PySem.W.fnOf "entries" "Table.entries" (defArgs s_Table_entries) (defBody s_Table_entries) (defScope s_Table_entries) .none kV_entries dc_entries pm_entries an_entries cd_entries ct_entries), sl_entries⟩)
    (c_entries : PySem.W.codeIn K cd_entries "Table.entries" = true)
    (k_entries : PySem.W.keepIn K (.ref f_entries) = true)
    (a_getitem : PySem.W.findIn K (.ref C) "__getitem__" = some (some (.ref f_getitem)))
    (l_getitem : K.lookup f_getitem = some ⟨oc_getitem, od_getitem, .func (PySem.W.fnOf "__getitem__" "Table.__getitem__" (defArgs s_Table___getitem) (defBody s_Table___getitem) (defScope s_Table___getitem) .none kV_getitem dc_getitem pm_getitem an_getitem cd_getitem ct_getitem), sl_getitem⟩)
    (c_getitem : PySem.W.codeIn K cd_getitem "Table.__getitem__" = true)
    (k_getitem : PySem.W.keepIn K (.ref f_getitem) = true)
    (i_getitem : PySem.W.isFn K (.ref f_getitem) = true)
    (a_first_above : PySem.W.findIn K (.ref C) "first_above" = some (some (.ref f_first_above)))
    (l_first_above : K.lookup f_first_above = some ⟨oc_first_above, od_first_above, .func (PySem.W.fnOf "first_above" "Table.first_above" (defArgs s_Table_first_above) (defBody s_Table_first_above) (defScope s_Table_first_above) .none kV_first_above dc_first_above pm_first_above an_first_above cd_first_above ct_first_above), sl_first_above⟩)
    (c_first_above : PySem.W.codeIn K cd_first_above "Table.first_above" = true)
    (k_first_above : PySem.W.keepIn K (.ref f_first_above) = true)
    (i_first_above : PySem.W.isFn K (.ref f_first_above) = true)
    (a_within : PySem.W.findIn K (.ref C) "within" = some (some (.ref f_within)))
    (l_within : K.lookup f_within = some ⟨oc_within, od_within, .func (PySem.W.fnOf "within" "Table.within" (defArgs s_Table_within) (defBody s_Table_within) (defScope s_Table_within) .none kV_within dc_within pm_within an_within cd_within ct_within), sl_within⟩)
    (c_within : PySem.W.codeIn K cd_within "Table.within" = true)
    (k_within : PySem.W.keepIn K (.ref f_within) = true)
    (i_within : PySem.W.isFn K (.ref f_within) = true)
    (a_add : PySem.W.findIn K (.ref C) "__add__" = some (some (.ref f_add)))
    (l_add : K.lookup f_add = some ⟨oc_add, od_add, .func (PySem.W.fnOf "__add__" "Table.__add__" (defArgs s_Table___add) (defBody s_Table___add) (defScope s_Table___add) .none kV_add dc_add pm_add an_add cd_add ct_add), sl_add⟩)
    (c_add : PySem.W.codeIn K cd_add "Table.__add__" = true)
    (k_add : PySem.W.keepIn K (.ref f_add) = true)
    (i_add : PySem.W.isFn K (.ref f_add) = true)
    (a_and : PySem.W.findIn K (.ref C) "__and__" = some (some (.ref f_and)))
    (l_and : K.lookup f_and = some ⟨oc_and, od_and, .func (PySem.W.fnOf "__and__" "Table.__and__" (defArgs s_Table___and) (defBody s_Table___and) (defScope s_Table___and) .none kV_and dc_and pm_and an_and cd_and ct_and), sl_and⟩)
    (c_and : PySem.W.codeIn K cd_and "Table.__and__" = true)
    (k_and : PySem.W.keepIn K (.ref f_and) = true)
    (i_and : PySem.W.isFn K (.ref f_and) = true)
    (a_or : PySem.W.findIn K (.ref C) "__or__" = some (some (.ref f_or)))
    (l_or : K.lookup f_or = some ⟨oc_or, od_or, .func (PySem.W.fnOf "__or__" "Table.__or__" (defArgs s_Table___or) (defBody s_Table___or) (defScope s_Table___or) .none kV_or dc_or pm_or an_or cd_or ct_or), sl_or⟩)
    (c_or : PySem.W.codeIn K cd_or "Table.__or__" = true)
    (k_or : PySem.W.keepIn K (.ref f_or) = true)
    (i_or : PySem.W.isFn K (.ref f_or) = true)
    (a_eq : PySem.W.findIn K (.ref C) "__eq__" = some (some (.ref f_eq)))
    (l_eq : K.lookup f_eq = some ⟨oc_eq, od_eq, .func (PySem.W.fnOf "__eq__" "Table.__eq__" (defArgs s_Table___eq) (defBody s_Table___eq) (defScope s_Table___eq) .none kV_eq dc_eq pm_eq an_eq cd_eq ct_eq), sl_eq⟩)
    (c_eq : PySem.W.codeIn K cd_eq "Table.__eq__" = true)
    (k_eq : PySem.W.keepIn K (.ref f_eq) = true)
    (i_eq : PySem.W.isFn K (.ref f_eq) = true)
    (rd_C : PySem.W.readsIn K C (.type "type") = true)
    (gb_C : PySem.W.specialIn K (.ref C) "__getattribute__" = some (some (.builtin "type.__getattribute__")))
    (sf_C : PySem.W.selfFirst K C = true)
    (ca_C : PySem.W.findIn K (.ref C) "__class__" = some (some (.builtin "object.__class__")))
    (cn_C : PySem.W.specialIn K (.builtin "object.__class__") "__get__" = some (some (.builtin "getset_descriptor.__get__")))
    (ct_C : PySem.W.takesIn K (.builtin "object.__class__") = some true)
    (cm_C : PySem.W.mroIn K C (.type "object") = some true)
    (l_C : K.lookup C = some (excClassObj nmC qnC C NC bsC [.type "object"] hdC snC subC abC colC ddC i0C i1C i2C i3C i5C newC))
    (l_NC : K.lookup NC = some ⟨clN, ddN, .dict esN nN, slN⟩)
    (q_NC : (esN.toList.all fun e => match e.key with | .str _ _ => true | _ => false) = true)
    (e_NC : PySem.W.nsIn K NC "__eq__" = some (some (.ref f_eq)))
    (m_NC : PySem.W.nsIn K NC "__ne__" = some none)
    (ty_eq : PySem.W.typeIn K (.ref f_eq) = some (.type "function"))
    (fi_get : PySem.W.fnIn K f_getitem = true)
    (c_OtherGoods : PySem.W.nsIn K mainGlobals "OtherGoods" = some (some (.ref OG)))
    (xn_B : PySem.W.excIn K OG [.type "ValueError", .type "Exception", .type "BaseException", .type "object"] "ValueError.__new__" = true)
    (ex_B : PySem.W.subIn K (.ref OG) (.type "BaseException") = some true)
    (ty_B : PySem.W.typeIn K (.ref OG) = some (.type "type"))
    (kp_B : PySem.W.keepIn K (.ref OG) = true)
    (c_NoAsset : PySem.W.nsIn K mainGlobals "NoAsset" = some (some (.ref NA)))
    (l_NA : K.lookup NA = some (excClassObj nmNA qnNA NA NNA bsNA bmNA true snNA subNA abNA colNA ddNA i0NA i1NA i2NA i3NA i5NA "ValueError.__new__"))
    (h_NA : PySem.HandSPX.refsVE bmNA = true)
    (sa_NA : PySem.W.findIn K (.ref NA) "__setattr__" = some (some (.builtin "object.__setattr__")))
    (ex_NA : PySem.W.subIn K (.ref NA) (.type "BaseException") = some true)
    (ty_NA : PySem.W.typeIn K (.ref NA) = some (.type "type"))
    (kp_NA : PySem.W.keepIn K (.ref NA) = true)
    (ga_NA : PySem.W.findIn K (.ref NA) "__getattribute__" = some (some (.builtin "BaseException.__getattribute__")))
    (gg_NA : PySem.W.findIn K (.ref NA) "__getattr__" = some none)
    (hd_NA : PySem.W.hasDictIn K NA = true)
    (ic_NA : PySem.W.isClsIn K NA = true)
    (sb_NA : PySem.W.subIn K (.ref NA) (.ref NA) = some true)
    (nw_NA_name : PySem.W.findIn K (.ref NA) "name" = some none)
    (a_xiNA : PySem.W.findIn K (.ref NA) "__init__" = some (some (.ref f_xiNA)))
    (l_xiNA : K.lookup f_xiNA = some ⟨oc_xiNA, od_xiNA, .func (PySem.W.fnOf "__init__" "NoAsset.__init__" (defArgs s_NoAsset___init) (defBody s_NoAsset___init) (defScope s_NoAsset___init) .none kV_xiNA dc_xiNA pm_xiNA an_xiNA cd_xiNA ct_xiNA), sl_xiNA⟩)
    (c_xiNA : PySem.W.codeIn K cd_xiNA "NoAsset.__init__" = true)
    (k_xiNA : PySem.W.keepIn K (.ref f_xiNA) = true)
    (ty_xiNA : PySem.W.typeIn K (.ref f_xiNA) = some (.type "function"))
    (c_BadMove : PySem.W.nsIn K mainGlobals "BadMove" = some (some (.ref BM)))
    (l_BM : K.lookup BM = some (excClassObj nmBM qnBM BM NBM bsBM bmBM true snBM subBM abBM colBM ddBM i0BM i1BM i2BM i3BM i5BM "ValueError.__new__"))
    (h_BM : PySem.HandSPX.refsVE bmBM = true)
    (sa_BM : PySem.W.findIn K (.ref BM) "__setattr__" = some (some (.builtin "object.__setattr__")))
    (ex_BM : PySem.W.subIn K (.ref BM) (.type "BaseException") = some true)
    (ty_BM : PySem.W.typeIn K (.ref BM) = some (.type "type"))
    (kp_BM : PySem.W.keepIn K (.ref BM) = true)
    (ga_BM : PySem.W.findIn K (.ref BM) "__getattribute__" = some (some (.builtin "BaseException.__getattribute__")))
    (gg_BM : PySem.W.findIn K (.ref BM) "__getattr__" = some none)
    (hd_BM : PySem.W.hasDictIn K BM = true)
    (ic_BM : PySem.W.isClsIn K BM = true)
    (sb_BM : PySem.W.subIn K (.ref BM) (.ref BM) = some true)
    (nw_BM_what : PySem.W.findIn K (.ref BM) "what" = some none)
    (a_xiBM : PySem.W.findIn K (.ref BM) "__init__" = some (some (.ref f_xiBM)))
    (l_xiBM : K.lookup f_xiBM = some ⟨oc_xiBM, od_xiBM, .func (PySem.W.fnOf "__init__" "BadMove.__init__" (defArgs s_BadMove___init) (defBody s_BadMove___init) (defScope s_BadMove___init) .none kV_xiBM dc_xiBM pm_xiBM an_xiBM cd_xiBM ct_xiBM), sl_xiBM⟩)
    (c_xiBM : PySem.W.codeIn K cd_xiBM "BadMove.__init__" = true)
    (k_xiBM : PySem.W.keepIn K (.ref f_xiBM) = true)
    (ty_xiBM : PySem.W.typeIn K (.ref f_xiBM) = some (.type "function"))
    (c_BadGoods : PySem.W.nsIn K mainGlobals "BadGoods" = some (some (.ref BG)))
    (l_BG : K.lookup BG = some (excClassObj nmBG qnBG BG NBG bsBG bmBG true snBG subBG abBG colBG ddBG i0BG i1BG i2BG i3BG i5BG "ValueError.__new__"))
    (h_BG : PySem.HandSPX.refsVE bmBG = true)
    (sa_BG : PySem.W.findIn K (.ref BG) "__setattr__" = some (some (.builtin "object.__setattr__")))
    (ex_BG : PySem.W.subIn K (.ref BG) (.type "BaseException") = some true)
    (ty_BG : PySem.W.typeIn K (.ref BG) = some (.type "type"))
    (kp_BG : PySem.W.keepIn K (.ref BG) = true)
    (ga_BG : PySem.W.findIn K (.ref BG) "__getattribute__" = some (some (.builtin "BaseException.__getattribute__")))
    (gg_BG : PySem.W.findIn K (.ref BG) "__getattr__" = some none)
    (hd_BG : PySem.W.hasDictIn K BG = true)
    (ic_BG : PySem.W.isClsIn K BG = true)
    (sb_BG : PySem.W.subIn K (.ref BG) (.ref BG) = some true)
    (nw_BG_what : PySem.W.findIn K (.ref BG) "what" = some none)
    (a_xiBG : PySem.W.findIn K (.ref BG) "__init__" = some (some (.ref f_xiBG)))
    (l_xiBG : K.lookup f_xiBG = some ⟨oc_xiBG, od_xiBG, .func (PySem.W.fnOf "__init__" "BadGoods.__init__" (defArgs s_BadGoods___init) (defBody s_BadGoods___init) (defScope s_BadGoods___init) .none kV_xiBG dc_xiBG pm_xiBG an_xiBG cd_xiBG ct_xiBG), sl_xiBG⟩)
    (c_xiBG : PySem.W.codeIn K cd_xiBG "BadGoods.__init__" = true)
    (k_xiBG : PySem.W.keepIn K (.ref f_xiBG) = true)
    (ty_xiBG : PySem.W.typeIn K (.ref f_xiBG) = some (.type "function"))
    (a_is_name : PySem.W.nsIn K mainGlobals "is_name" = some (some (.ref f_is_name)))
    (l_is_name : K.lookup f_is_name = some ⟨oc_is_name, od_is_name, .func (PySem.W.fnOf "is_name" "is_name" (defArgs s_is_name) (defBody s_is_name) (defScope s_is_name) .none kV_is_name dc_is_name pm_is_name an_is_name cd_is_name ct_is_name), sl_is_name⟩)
    (c_is_name : PySem.W.codeIn K cd_is_name "is_name" = true)
    (k_is_name : PySem.W.keepIn K (.ref f_is_name) = true)
    (a_is_sequence : PySem.W.nsIn K mainGlobals "is_sequence" = some (some (.ref f_is_sequence)))
    (l_is_sequence : K.lookup f_is_sequence = some ⟨oc_is_sequence, od_is_sequence, .func (PySem.W.fnOf "is_sequence" "is_sequence" (defArgs s_is_sequence) (defBody s_is_sequence) (defScope s_is_sequence) .none kV_is_sequence dc_is_sequence pm_is_sequence an_is_sequence cd_is_sequence ct_is_sequence), sl_is_sequence⟩)
    (c_is_sequence : PySem.W.codeIn K cd_is_sequence "is_sequence" = true)
    (k_is_sequence : PySem.W.keepIn K (.ref f_is_sequence) = true)
    (a_is_integer : PySem.W.nsIn K mainGlobals "is_integer" = some (some (.ref f_is_integer)))
    (l_is_integer : K.lookup f_is_integer = some ⟨oc_is_integer, od_is_integer, .func (PySem.W.fnOf "is_integer" "is_integer" (defArgs s_is_integer) (defBody s_is_integer) (defScope s_is_integer) .none kV_is_integer dc_is_integer pm_is_integer an_is_integer cd_is_integer ct_is_integer), sl_is_integer⟩)
    (c_is_integer : PySem.W.codeIn K cd_is_integer "is_integer" = true)
    (k_is_integer : PySem.W.keepIn K (.ref f_is_integer) = true)
    (a_is_whole : PySem.W.nsIn K mainGlobals "is_whole" = some (some (.ref f_is_whole)))
    (l_is_whole : K.lookup f_is_whole = some ⟨oc_is_whole, od_is_whole, .func (PySem.W.fnOf "is_whole" "is_whole" (defArgs s_is_whole) (defBody s_is_whole) (defScope s_is_whole) .none kV_is_whole dc_is_whole pm_is_whole an_is_whole cd_is_whole ct_is_whole), sl_is_whole⟩)
    (c_is_whole : PySem.W.codeIn K cd_is_whole "is_whole" = true)
    (k_is_whole : PySem.W.keepIn K (.ref f_is_whole) = true)
    (a_is_row : PySem.W.nsIn K mainGlobals "is_row" = some (some (.ref f_is_row)))
    (l_is_row : K.lookup f_is_row = some ⟨oc_is_row, od_is_row, .func (PySem.W.fnOf "is_row" "is_row" (defArgs s_is_row) (defBody s_is_row) (defScope s_is_row) .none kV_is_row dc_is_row pm_is_row an_is_row cd_is_row ct_is_row), sl_is_row⟩)
    (c_is_row : PySem.W.codeIn K cd_is_row "is_row" = true)
    (k_is_row : PySem.W.keepIn K (.ref f_is_row) = true)
    (a_is_number_row : PySem.W.nsIn K mainGlobals "is_number_row" = some (some (.ref f_is_number_row)))
    (l_is_number_row : K.lookup f_is_number_row = some ⟨oc_is_number_row, od_is_number_row, .func (PySem.W.fnOf "is_number_row" "is_number_row" (defArgs s_is_number_row) (defBody s_is_number_row) (defScope s_is_number_row) .none kV_is_number_row dc_is_number_row pm_is_number_row an_is_number_row cd_is_number_row ct_is_number_row), sl_is_number_row⟩)
    (c_is_number_row : PySem.W.codeIn K cd_is_number_row "is_number_row" = true)
    (k_is_number_row : PySem.W.keepIn K (.ref f_is_number_row) = true)
    (a_checked_goods : PySem.W.nsIn K mainGlobals "checked_goods" = some (some (.ref f_checked_goods)))
    (l_checked_goods : K.lookup f_checked_goods = some ⟨oc_checked_goods, od_checked_goods, .func (PySem.W.fnOf "checked_goods" "checked_goods" (defArgs s_checked_goods) (defBody s_checked_goods) (defScope s_checked_goods) .none kV_checked_goods dc_checked_goods pm_checked_goods an_checked_goods cd_checked_goods ct_checked_goods), sl_checked_goods⟩)
    (c_checked_goods : PySem.W.codeIn K cd_checked_goods "checked_goods" = true)
    (k_checked_goods : PySem.W.keepIn K (.ref f_checked_goods) = true)
    (a_assets : PySem.W.nsIn K mainGlobals "assets" = some (some (.ref f_assets)))
    (l_assets : K.lookup f_assets = some ⟨oc_assets, od_assets, .func (PySem.W.fnOf "assets" "assets" (defArgs s_assets) (defBody s_assets) (defScope s_assets) .none kV_assets dc_assets pm_assets an_assets cd_assets ct_assets), sl_assets⟩)
    (c_assets : PySem.W.codeIn K cd_assets "assets" = true)
    (k_assets : PySem.W.keepIn K (.ref f_assets) = true)
    (a_pairs_of : PySem.W.nsIn K mainGlobals "pairs_of" = some (some (.ref f_pairs_of)))
    (l_pairs_of : K.lookup f_pairs_of = some ⟨oc_pairs_of, od_pairs_of, .func (PySem.W.fnOf "pairs_of" "pairs_of" (defArgs s_pairs_of) (defBody s_pairs_of) (defScope s_pairs_of) .none kV_pairs_of dc_pairs_of pm_pairs_of an_pairs_of cd_pairs_of ct_pairs_of), sl_pairs_of⟩)
    (c_pairs_of : PySem.W.codeIn K cd_pairs_of "pairs_of" = true)
    (k_pairs_of : PySem.W.keepIn K (.ref f_pairs_of) = true)
    (a_check_asset : PySem.W.nsIn K mainGlobals "check_asset" = some (some (.ref f_check_asset)))
    (l_check_asset : K.lookup f_check_asset = some ⟨oc_check_asset, od_check_asset, .func (PySem.W.fnOf "check_asset" "check_asset" (defArgs s_check_asset) (defBody s_check_asset) (defScope s_check_asset) .none kV_check_asset dc_check_asset pm_check_asset an_check_asset cd_check_asset ct_check_asset), sl_check_asset⟩)
    (c_check_asset : PySem.W.codeIn K cd_check_asset "check_asset" = true)
    (k_check_asset : PySem.W.keepIn K (.ref f_check_asset) = true)
    (a_check_same_goods : PySem.W.nsIn K mainGlobals "check_same_goods" = some (some (.ref f_check_same_goods)))
    (l_check_same_goods : K.lookup f_check_same_goods = some ⟨oc_check_same_goods, od_check_same_goods, .func (PySem.W.fnOf "check_same_goods" "check_same_goods" (defArgs s_check_same_goods) (defBody s_check_same_goods) (defScope s_check_same_goods) .none kV_check_same_goods dc_check_same_goods pm_check_same_goods an_check_same_goods cd_check_same_goods ct_check_same_goods), sl_check_same_goods⟩)
    (c_check_same_goods : PySem.W.codeIn K cd_check_same_goods "check_same_goods" = true)
    (k_check_same_goods : PySem.W.keepIn K (.ref f_check_same_goods) = true)
    (a_closed_sums : PySem.W.nsIn K mainGlobals "closed_sums" = some (some (.ref f_closed_sums)))
    (l_closed_sums : K.lookup f_closed_sums = some ⟨oc_closed_sums, od_closed_sums, .func (PySem.W.fnOf "closed_sums" "closed_sums" (defArgs s_closed_sums) (defBody s_closed_sums) (defScope s_closed_sums) .none kV_closed_sums dc_closed_sums pm_closed_sums an_closed_sums cd_closed_sums ct_closed_sums), sl_closed_sums⟩)
    (c_closed_sums : PySem.W.codeIn K cd_closed_sums "closed_sums" = true)
    (k_closed_sums : PySem.W.keepIn K (.ref f_closed_sums) = true)
    (a_made_table : PySem.W.nsIn K mainGlobals "made_table" = some (some (.ref f_made_table)))
    (l_made_table : K.lookup f_made_table = some ⟨oc_made_table, od_made_table, .func (PySem.W.fnOf "made_table" "made_table" (defArgs s_made_table) (defBody s_made_table) (defScope s_made_table) .none kV_made_table dc_made_table pm_made_table an_made_table cd_made_table ct_made_table), sl_made_table⟩)
    (c_made_table : PySem.W.codeIn K cd_made_table "made_table" = true)
    (k_made_table : PySem.W.keepIn K (.ref f_made_table) = true)
    (a_closed_table : PySem.W.nsIn K mainGlobals "closed_table" = some (some (.ref f_closed_table)))
    (l_closed_table : K.lookup f_closed_table = some ⟨oc_closed_table, od_closed_table, .func (PySem.W.fnOf "closed_table" "closed_table" (defArgs s_closed_table) (defBody s_closed_table) (defScope s_closed_table) .none kV_closed_table dc_closed_table pm_closed_table an_closed_table cd_closed_table ct_closed_table), sl_closed_table⟩)
    (c_closed_table : PySem.W.codeIn K cd_closed_table "closed_table" = true)
    (k_closed_table : PySem.W.keepIn K (.ref f_closed_table) = true)
    (a_check_move : PySem.W.nsIn K mainGlobals "check_move" = some (some (.ref f_check_move)))
    (l_check_move : K.lookup f_check_move = some ⟨oc_check_move, od_check_move, .func (PySem.W.fnOf "check_move" "check_move" (defArgs s_check_move) (defBody s_check_move) (defScope s_check_move) .none kV_check_move dc_check_move pm_check_move an_check_move cd_check_move ct_check_move), sl_check_move⟩)
    (c_check_move : PySem.W.codeIn K cd_check_move "check_move" = true)
    (k_check_move : PySem.W.keepIn K (.ref f_check_move) = true)
    (a_fits : PySem.W.nsIn K mainGlobals "fits" = some (some (.ref f_fits)))
    (l_fits : K.lookup f_fits = some ⟨oc_fits, od_fits, .func (PySem.W.fnOf "fits" "fits" (defArgs s_fits) (defBody s_fits) (defScope s_fits) .none kV_fits dc_fits pm_fits an_fits cd_fits ct_fits), sl_fits⟩)
    (c_fits : PySem.W.codeIn K cd_fits "fits" = true)
    (k_fits : PySem.W.keepIn K (.ref f_fits) = true)
    (a_first_broken : PySem.W.nsIn K mainGlobals "first_broken" = some (some (.ref f_first_broken)))
    (l_first_broken : K.lookup f_first_broken = some ⟨oc_first_broken, od_first_broken, .func (PySem.W.fnOf "first_broken" "first_broken" (defArgs s_first_broken) (defBody s_first_broken) (defScope s_first_broken) .none kV_first_broken dc_first_broken pm_first_broken an_first_broken cd_first_broken ct_first_broken), sl_first_broken⟩)
    (c_first_broken : PySem.W.codeIn K cd_first_broken "first_broken" = true)
    (k_first_broken : PySem.W.keepIn K (.ref f_first_broken) = true)
    (a_extreme_move : PySem.W.nsIn K mainGlobals "extreme_move" = some (some (.ref f_extreme_move)))
    (l_extreme_move : K.lookup f_extreme_move = some ⟨oc_extreme_move, od_extreme_move, .func (PySem.W.fnOf "extreme_move" "extreme_move" (defArgs s_extreme_move) (defBody s_extreme_move) (defScope s_extreme_move) .none kV_extreme_move dc_extreme_move pm_extreme_move an_extreme_move cd_extreme_move ct_extreme_move), sl_extreme_move⟩)
    (c_extreme_move : PySem.W.codeIn K cd_extreme_move "extreme_move" = true)
    (k_extreme_move : PySem.W.keepIn K (.ref f_extreme_move) = true)
    (a_row_fault : PySem.W.nsIn K mainGlobals "_row_fault" = some (some (.ref f_row_fault)))
    (l_row_fault : K.lookup f_row_fault = some ⟨oc_row_fault, od_row_fault, .func (PySem.W.fnOf "_row_fault" "_row_fault" (defArgs s_row_fault) (defBody s_row_fault) (defScope s_row_fault) .none kV_row_fault dc_row_fault pm_row_fault an_row_fault cd_row_fault ct_row_fault), sl_row_fault⟩)
    (c_row_fault : PySem.W.codeIn K cd_row_fault "_row_fault" = true)
    (k_row_fault : PySem.W.keepIn K (.ref f_row_fault) = true)
    (a_checked_rows : PySem.W.nsIn K mainGlobals "_checked_rows" = some (some (.ref f_checked_rows)))
    (l_checked_rows : K.lookup f_checked_rows = some ⟨oc_checked_rows, od_checked_rows, .func (PySem.W.fnOf "_checked_rows" "_checked_rows" (defArgs s_checked_rows) (defBody s_checked_rows) (defScope s_checked_rows) .none kV_checked_rows dc_checked_rows pm_checked_rows an_checked_rows cd_checked_rows ct_checked_rows), sl_checked_rows⟩)
    (c_checked_rows : PySem.W.codeIn K cd_checked_rows "_checked_rows" = true)
    (k_checked_rows : PySem.W.keepIn K (.ref f_checked_rows) = true)
    (a_changes : PySem.W.nsIn K mainGlobals "_changes" = some (some (.ref f_changes)))
    (l_changes : K.lookup f_changes = some ⟨oc_changes, od_changes, .func (PySem.W.fnOf "_changes" "_changes" (defArgs s_changes) (defBody s_changes) (defScope s_changes) .none kV_changes dc_changes pm_changes an_changes cd_changes ct_changes), sl_changes⟩)
    (c_changes : PySem.W.codeIn K cd_changes "_changes" = true)
    (k_changes : PySem.W.keepIn K (.ref f_changes) = true)
    (a_broken : PySem.W.nsIn K mainGlobals "_broken" = some (some (.ref f_broken)))
    (l_broken : K.lookup f_broken = some ⟨oc_broken, od_broken, .func (PySem.W.fnOf "_broken" "_broken" (defArgs s_broken) (defBody s_broken) (defScope s_broken) .none kV_broken dc_broken pm_broken an_broken cd_broken ct_broken), sl_broken⟩)
    (c_broken : PySem.W.codeIn K cd_broken "_broken" = true)
    (k_broken : PySem.W.keepIn K (.ref f_broken) = true)
    (a_law_source : PySem.W.nsIn K mainGlobals "_law_source" = some (some (.ref f_law_source)))
    (l_law_source : K.lookup f_law_source = some ⟨oc_law_source, od_law_source, .func (PySem.W.fnOf "_law_source" "_law_source" (defArgs s_law_source) (defBody s_law_source) (defScope s_law_source) .none kV_law_source dc_law_source pm_law_source an_law_source cd_law_source ct_law_source), sl_law_source⟩)
    (c_law_source : PySem.W.codeIn K cd_law_source "_law_source" = true)
    (k_law_source : PySem.W.keepIn K (.ref f_law_source) = true)
    (a_law_draw : PySem.W.nsIn K mainGlobals "_law_draw" = some (some (.ref f_law_draw)))
    (l_law_draw : K.lookup f_law_draw = some ⟨oc_law_draw, od_law_draw, .func (PySem.W.fnOf "_law_draw" "_law_draw" (defArgs s_law_draw) (defBody s_law_draw) (defScope s_law_draw) .none kV_law_draw dc_law_draw pm_law_draw an_law_draw cd_law_draw ct_law_draw), sl_law_draw⟩)
    (c_law_draw : PySem.W.codeIn K cd_law_draw "_law_draw" = true)
    (k_law_draw : PySem.W.keepIn K (.ref f_law_draw) = true)
    (a_law_goods : PySem.W.nsIn K mainGlobals "_law_goods" = some (some (.ref f_law_goods)))
    (l_law_goods : K.lookup f_law_goods = some ⟨oc_law_goods, od_law_goods, .func (PySem.W.fnOf "_law_goods" "_law_goods" (defArgs s_law_goods) (defBody s_law_goods) (defScope s_law_goods) .none kV_law_goods dc_law_goods pm_law_goods an_law_goods cd_law_goods ct_law_goods), sl_law_goods⟩)
    (c_law_goods : PySem.W.codeIn K cd_law_goods "_law_goods" = true)
    (k_law_goods : PySem.W.keepIn K (.ref f_law_goods) = true)
    (a_law_size : PySem.W.nsIn K mainGlobals "_law_size" = some (some (.ref f_law_size)))
    (l_law_size : K.lookup f_law_size = some ⟨oc_law_size, od_law_size, .func (PySem.W.fnOf "_law_size" "_law_size" (defArgs s_law_size) (defBody s_law_size) (defScope s_law_size) .none kV_law_size dc_law_size pm_law_size an_law_size cd_law_size ct_law_size), sl_law_size⟩)
    (c_law_size : PySem.W.codeIn K cd_law_size "_law_size" = true)
    (k_law_size : PySem.W.keepIn K (.ref f_law_size) = true)
    (a_law_pairs : PySem.W.nsIn K mainGlobals "_law_pairs" = some (some (.ref f_law_pairs)))
    (l_law_pairs : K.lookup f_law_pairs = some ⟨oc_law_pairs, od_law_pairs, .func (PySem.W.fnOf "_law_pairs" "_law_pairs" (defArgs s_law_pairs) (defBody s_law_pairs) (defScope s_law_pairs) .none kV_law_pairs dc_law_pairs pm_law_pairs an_law_pairs cd_law_pairs ct_law_pairs), sl_law_pairs⟩)
    (c_law_pairs : PySem.W.codeIn K cd_law_pairs "_law_pairs" = true)
    (k_law_pairs : PySem.W.keepIn K (.ref f_law_pairs) = true)
    (a_law_closed : PySem.W.nsIn K mainGlobals "_law_closed" = some (some (.ref f_law_closed)))
    (l_law_closed : K.lookup f_law_closed = some ⟨oc_law_closed, od_law_closed, .func (PySem.W.fnOf "_law_closed" "_law_closed" (defArgs s_law_closed) (defBody s_law_closed) (defScope s_law_closed) .none kV_law_closed dc_law_closed pm_law_closed an_law_closed cd_law_closed ct_law_closed), sl_law_closed⟩)
    (c_law_closed : PySem.W.codeIn K cd_law_closed "_law_closed" = true)
    (k_law_closed : PySem.W.keepIn K (.ref f_law_closed) = true)
    (a_law_rows : PySem.W.nsIn K mainGlobals "_law_rows" = some (some (.ref f_law_rows)))
    (l_law_rows : K.lookup f_law_rows = some ⟨oc_law_rows, od_law_rows, .func (PySem.W.fnOf "_law_rows" "_law_rows" (defArgs s_law_rows) (defBody s_law_rows) (defScope s_law_rows) .none kV_law_rows dc_law_rows pm_law_rows an_law_rows cd_law_rows ct_law_rows), sl_law_rows⟩)
    (c_law_rows : PySem.W.codeIn K cd_law_rows "_law_rows" = true)
    (k_law_rows : PySem.W.keepIn K (.ref f_law_rows) = true)
    (a_law_box : PySem.W.nsIn K mainGlobals "_law_box" = some (some (.ref f_law_box)))
    (l_law_box : K.lookup f_law_box = some ⟨oc_law_box, od_law_box, .func (PySem.W.fnOf "_law_box" "_law_box" (defArgs s_law_box) (defBody s_law_box) (defScope s_law_box) .none kV_law_box dc_law_box pm_law_box an_law_box cd_law_box ct_law_box), sl_law_box⟩)
    (c_law_box : PySem.W.codeIn K cd_law_box "_law_box" = true)
    (k_law_box : PySem.W.keepIn K (.ref f_law_box) = true)
    (a_law_holds : PySem.W.nsIn K mainGlobals "_law_holds" = some (some (.ref f_law_holds)))
    (l_law_holds : K.lookup f_law_holds = some ⟨oc_law_holds, od_law_holds, .func (PySem.W.fnOf "_law_holds" "_law_holds" (defArgs s_law_holds) (defBody s_law_holds) (defScope s_law_holds) .none kV_law_holds dc_law_holds pm_law_holds an_law_holds cd_law_holds ct_law_holds), sl_law_holds⟩)
    (c_law_holds : PySem.W.codeIn K cd_law_holds "_law_holds" = true)
    (k_law_holds : PySem.W.keepIn K (.ref f_law_holds) = true)
    (a_law_small : PySem.W.nsIn K mainGlobals "_law_small" = some (some (.ref f_law_small)))
    (l_law_small : K.lookup f_law_small = some ⟨oc_law_small, od_law_small, .func (PySem.W.fnOf "_law_small" "_law_small" (defArgs s_law_small) (defBody s_law_small) (defScope s_law_small) .none kV_law_small dc_law_small pm_law_small an_law_small cd_law_small ct_law_small), sl_law_small⟩)
    (c_law_small : PySem.W.codeIn K cd_law_small "_law_small" = true)
    (k_law_small : PySem.W.keepIn K (.ref f_law_small) = true)
    (a_law : PySem.W.nsIn K mainGlobals "law" = some (some (.ref f_law)))
    (l_law : K.lookup f_law = some ⟨oc_law, od_law, .func (PySem.W.fnOf "law" "law" (defArgs s_law) (defBody s_law) (defScope s_law) .none kV_law dc_law pm_law an_law cd_law ct_law), sl_law⟩)
    (c_law : PySem.W.codeIn K cd_law "law" = true)
    (k_law : PySem.W.keepIn K (.ref f_law) = true)
    (g_MOST : PySem.W.nsIn K mainGlobals "MOST" = some (some (.int 1000000000000 t_MOST)))
    (g__CASH : PySem.W.nsIn K mainGlobals "_CASH" = some (some (.str "cash" t__CASH)))
    (g__LETTERS : PySem.W.nsIn K mainGlobals "_LETTERS" = some (some (.str "abcdefghijklmnopqrstuvwxyz" t__LETTERS)))
    (g__LONGEST_NAME : PySem.W.nsIn K mainGlobals "_LONGEST_NAME" = some (some (.int 12 t__LONGEST_NAME)))
    (g__MOST_GOODS : PySem.W.nsIn K mainGlobals "_MOST_GOODS" = some (some (.int 5 t__MOST_GOODS)))
    (z_int : PySem.W.nsIn K mainGlobals "int" = some none)
    (z_abs : PySem.W.nsIn K mainGlobals "abs" = some none)
    (z_len : PySem.W.nsIn K mainGlobals "len" = some none)
    (z_range : PySem.W.nsIn K mainGlobals "range" = some none)
    (z_min : PySem.W.nsIn K mainGlobals "min" = some none)
    (z_isinstance : PySem.W.nsIn K mainGlobals "isinstance" = some none)
    (z_all : PySem.W.nsIn K mainGlobals "all" = some none)
    (z_str : PySem.W.nsIn K mainGlobals "str" = some none)
    (z_bool : PySem.W.nsIn K mainGlobals "bool" = some none)
    (z_list : PySem.W.nsIn K mainGlobals "list" = some none)
    (z_tuple : PySem.W.nsIn K mainGlobals "tuple" = some none)
    (z_set : PySem.W.nsIn K mainGlobals "set" = some none)
    (z_enumerate : PySem.W.nsIn K mainGlobals "enumerate" = some none)
    (z_iter : PySem.W.nsIn K mainGlobals "iter" = some none)
    (z_zip : PySem.W.nsIn K mainGlobals "zip" = some none)
    (z_max : PySem.W.nsIn K mainGlobals "max" = some none)
    (z_dict : PySem.W.nsIn K mainGlobals "dict" = some none)
    : ∃ fd : FuncData, (∀ (s : Shared) (v : Value), BindsTo s fd ⟨[v], []⟩ [("_law_script", v)]) ∧ ∀ base : Heap, K.In base → base.Ns mainGlobals mg → FnOk l.prog w K mg base (L2.CX l.prog w) 17 fa fd ["_law_script"] (spOf K sdLaw) := by
  have e := hfa.symm.trans (PySem.W.mg_of X G a_law)
  cases e
  have F_init := fun_mk (st := s_Table___init) l_init c_init k_init
  have F_check_pair := fun_mk (st := s_Table__check_pair) l_check_pair c_check_pair k_check_pair
  have F_entries := fun_mk (st := s_Table_entries) l_entries c_entries k_entries
  have F_getitem := fun_mk (st := s_Table___getitem) l_getitem c_getitem k_getitem
  have F_first_above := fun_mk (st := s_Table_first_above) l_first_above c_first_above k_first_above
  have F_within := fun_mk (st := s_Table_within) l_within c_within k_within
  have F_add := fun_mk (st := s_Table___add) l_add c_add k_add
  have F_and := fun_mk (st := s_Table___and) l_and c_and k_and
  have F_or := fun_mk (st := s_Table___or) l_or c_or k_or
  have F_eq := fun_mk (st := s_Table___eq) l_eq c_eq k_eq
  have F_xiNA := fun_mk (st := s_NoAsset___init) l_xiNA c_xiNA k_xiNA
  have F_xiBM := fun_mk (st := s_BadMove___init) l_xiBM c_xiBM k_xiBM
  have F_xiBG := fun_mk (st := s_BadGoods___init) l_xiBG c_xiBG k_xiBG
  have F_is_name := fun_mk (st := s_is_name) l_is_name c_is_name k_is_name
  have F_is_sequence := fun_mk (st := s_is_sequence) l_is_sequence c_is_sequence k_is_sequence
  have F_is_integer := fun_mk (st := s_is_integer) l_is_integer c_is_integer k_is_integer
  have F_is_whole := fun_mk (st := s_is_whole) l_is_whole c_is_whole k_is_whole
  have F_is_row := fun_mk (st := s_is_row) l_is_row c_is_row k_is_row
  have F_is_number_row := fun_mk (st := s_is_number_row) l_is_number_row c_is_number_row k_is_number_row
  have F_checked_goods := fun_mk (st := s_checked_goods) l_checked_goods c_checked_goods k_checked_goods
  have F_assets := fun_mk (st := s_assets) l_assets c_assets k_assets
  have F_pairs_of := fun_mk (st := s_pairs_of) l_pairs_of c_pairs_of k_pairs_of
  have F_check_asset := fun_mk (st := s_check_asset) l_check_asset c_check_asset k_check_asset
  have F_check_same_goods := fun_mk (st := s_check_same_goods) l_check_same_goods c_check_same_goods k_check_same_goods
  have F_closed_sums := fun_mk (st := s_closed_sums) l_closed_sums c_closed_sums k_closed_sums
  have F_made_table := fun_mk (st := s_made_table) l_made_table c_made_table k_made_table
  have F_closed_table := fun_mk (st := s_closed_table) l_closed_table c_closed_table k_closed_table
  have F_check_move := fun_mk (st := s_check_move) l_check_move c_check_move k_check_move
  have F_fits := fun_mk (st := s_fits) l_fits c_fits k_fits
  have F_first_broken := fun_mk (st := s_first_broken) l_first_broken c_first_broken k_first_broken
  have F_extreme_move := fun_mk (st := s_extreme_move) l_extreme_move c_extreme_move k_extreme_move
  have F_row_fault := fun_mk (st := s_row_fault) l_row_fault c_row_fault k_row_fault
  have F_checked_rows := fun_mk (st := s_checked_rows) l_checked_rows c_checked_rows k_checked_rows
  have F_changes := fun_mk (st := s_changes) l_changes c_changes k_changes
  have F_broken := fun_mk (st := s_broken) l_broken c_broken k_broken
  have F_law_source := fun_mk (st := s_law_source) l_law_source c_law_source k_law_source
  have F_law_draw := fun_mk (st := s_law_draw) l_law_draw c_law_draw k_law_draw
  have F_law_goods := fun_mk (st := s_law_goods) l_law_goods c_law_goods k_law_goods
  have F_law_size := fun_mk (st := s_law_size) l_law_size c_law_size k_law_size
  have F_law_pairs := fun_mk (st := s_law_pairs) l_law_pairs c_law_pairs k_law_pairs
  have F_law_closed := fun_mk (st := s_law_closed) l_law_closed c_law_closed k_law_closed
  have F_law_rows := fun_mk (st := s_law_rows) l_law_rows c_law_rows k_law_rows
  have F_law_box := fun_mk (st := s_law_box) l_law_box c_law_box k_law_box
  have F_law_holds := fun_mk (st := s_law_holds) l_law_holds c_law_holds k_law_holds
  have F_law_small := fun_mk (st := s_law_small) l_law_small c_law_small k_law_small
  have F_law := fun_mk (st := s_law) l_law c_law k_law
  have b_is_name := F_is_name.binds (ps := ["thing"]) fun _ _ _ _ _ _ us hl => match us, hl with | [_], _ => rfl
  have b_is_sequence := F_is_sequence.binds (ps := ["thing"]) fun _ _ _ _ _ _ us hl => match us, hl with | [_], _ => rfl
  have b_is_integer := F_is_integer.binds (ps := ["thing"]) fun _ _ _ _ _ _ us hl => match us, hl with | [_], _ => rfl
  have b_is_whole := F_is_whole.binds (ps := ["thing", "low", "high"]) fun _ _ _ _ _ _ us hl => match us, hl with | [_, _, _], _ => rfl
  have b_is_row := F_is_row.binds (ps := ["thing", "length"]) fun _ _ _ _ _ _ us hl => match us, hl with | [_, _], _ => rfl
  have b_checked_goods := F_checked_goods.binds (ps := ["goods"]) fun _ _ _ _ _ _ us hl => match us, hl with | [_], _ => rfl
  have b_assets := F_assets.binds (ps := ["goods"]) fun _ _ _ _ _ _ us hl => match us, hl with | [_], _ => rfl
  have b_pairs_of := F_pairs_of.binds (ps := ["known"]) fun _ _ _ _ _ _ us hl => match us, hl with | [_], _ => rfl
  have b_check_asset := F_check_asset.binds (ps := ["known", "thing"]) fun _ _ _ _ _ _ us hl => match us, hl with | [_, _], _ => rfl
  have b_closed_sums := F_closed_sums.binds (ps := ["assets", "rows"]) fun _ _ _ _ _ _ us hl => match us, hl with | [_, _], _ => rfl
  have b_row_fault := F_row_fault.binds (ps := ["known", "row", "cap"]) fun _ _ _ _ _ _ us hl => match us, hl with | [_, _, _], _ => rfl
  have b_checked_rows := F_checked_rows.binds (ps := ["known", "rows", "cap"]) fun _ _ _ _ _ _ us hl => match us, hl with | [_, _, _], _ => rfl
  have b_made_table := F_made_table.binds (ps := ["goods", "rows"]) fun _ _ _ _ _ _ us hl => match us, hl with | [_, _], _ => rfl
  have b_closed_table := F_closed_table.binds (ps := ["goods", "rows"]) fun _ _ _ _ _ _ us hl => match us, hl with | [_, _], _ => rfl
  have b_check_pair := F_check_pair.binds (ps := ["self", "up", "down"]) fun _ _ _ _ _ _ us hl => match us, hl with | [_, _, _], _ => rfl
  have b_entries := F_entries.binds (ps := ["self"]) fun _ _ _ _ _ _ us hl => match us, hl with | [_], _ => rfl
  have b_getitem := F_getitem.binds (ps := ["self", "at"]) fun _ _ _ _ _ _ us hl => match us, hl with | [_, _], _ => rfl
  have b_add := F_add.binds (ps := ["self", "other"]) fun _ _ _ _ _ _ us hl => match us, hl with | [_, _], _ => rfl
  have b_and := F_and.binds (ps := ["self", "other"]) fun _ _ _ _ _ _ us hl => match us, hl with | [_, _], _ => rfl
  have b_or := F_or.binds (ps := ["self", "other"]) fun _ _ _ _ _ _ us hl => match us, hl with | [_, _], _ => rfl
  have b_eq := F_eq.binds (ps := ["self", "other"]) fun _ _ _ _ _ _ us hl => match us, hl with | [_, _], _ => rfl
  have b_is_number_row := F_is_number_row.binds (ps := ["thing", "length"]) fun _ _ _ _ _ _ us hl => match us, hl with | [_, _], _ => rfl
  have b_check_move := F_check_move.binds (ps := ["goods", "move"]) fun _ _ _ _ _ _ us hl => match us, hl with | [_, _], _ => rfl
  have b_changes := F_changes.binds (ps := ["goods", "move"]) fun _ _ _ _ _ _ us hl => match us, hl with | [_, _], _ => rfl
  have b_broken := F_broken.binds (ps := ["rows", "changes"]) fun _ _ _ _ _ _ us hl => match us, hl with | [_, _], _ => rfl
  have b_fits := F_fits.binds (ps := ["move", "table"]) fun _ _ _ _ _ _ us hl => match us, hl with | [_, _], _ => rfl
  have b_first_broken := F_first_broken.binds (ps := ["move", "table"]) fun _ _ _ _ _ _ us hl => match us, hl with | [_, _], _ => rfl
  have b_extreme_move := F_extreme_move.binds (ps := ["table", "up", "down"]) fun _ _ _ _ _ _ us hl => match us, hl with | [_, _, _], _ => rfl
  have b_first_above := F_first_above.binds (ps := ["self", "other"]) fun _ _ _ _ _ _ us hl => match us, hl with | [_, _], _ => rfl
  have b_within := F_within.binds (ps := ["self", "other"]) fun _ _ _ _ _ _ us hl => match us, hl with | [_, _], _ => rfl
  have b_law_source := F_law_source.binds (ps := ["_law_script", "_law_place"]) fun _ _ _ _ _ _ us hl => match us, hl with | [_, _], _ => rfl
  have b_law_draw := F_law_draw.binds (ps := ["_law_source_here", "_law_many"]) fun _ _ _ _ _ _ us hl => match us, hl with | [_, _], _ => rfl
  have b_law_goods := F_law_goods.binds (ps := ["_law_source_here", "_law_most"]) fun _ _ _ _ _ _ us hl => match us, hl with | [_, _], _ => rfl
  have b_law_size := F_law_size.binds (ps := ["_law_source_here"]) fun _ _ _ _ _ _ us hl => match us, hl with | [_], _ => rfl
  have b_law_pairs := F_law_pairs.binds (ps := ["_law_names"]) fun _ _ _ _ _ _ us hl => match us, hl with | [_], _ => rfl
  have b_law_closed := F_law_closed.binds (ps := ["_law_names", "_law_rows_here"]) fun _ _ _ _ _ _ us hl => match us, hl with | [_, _], _ => rfl
  have b_law_rows := F_law_rows.binds (ps := ["_law_source_here", "_law_goods_here"]) fun _ _ _ _ _ _ us hl => match us, hl with | [_, _], _ => rfl
  have b_law_box := F_law_box.binds (ps := ["_law_source_here", "_law_many"]) fun _ _ _ _ _ _ us hl => match us, hl with | [_, _], _ => rfl
  have b_law_holds := F_law_holds.binds (ps := ["_law_move", "_law_goods_here", "_law_rows_here"]) fun _ _ _ _ _ _ us hl => match us, hl with | [_, _, _], _ => rfl
  have b_law_small := F_law_small.binds (ps := ["_law_source_here", "_law_rows_here"]) fun _ _ _ _ _ _ us hl => match us, hl with | [_, _], _ => rfl
  have b_law := F_law.binds (ps := ["_law_script"]) fun _ _ _ _ _ _ us hl => match us, hl with | [_], _ => rfl
  have b_xiNA := F_xiNA.binds (ps := ["self", "name"]) fun _ _ _ _ _ _ us hl => match us, hl with | [_, _], _ => rfl
  have b_xiBM := F_xiBM.binds (ps := ["self", "what"]) fun _ _ _ _ _ _ us hl => match us, hl with | [_, _], _ => rfl
  have b_xiBG := F_xiBG.binds (ps := ["self", "what"]) fun _ _ _ _ _ _ us hl => match us, hl with | [_, _], _ => rfl
  have g : ∀ {x : Str} {v : Value}, PySem.W.nsIn K mainGlobals x = some (some v) → mg x = some v := fun a => PySem.W.mg_of X G a
  have z : ∀ {x : Str}, PySem.W.nsIn K mainGlobals x = some none → mg x = none := fun a => PySem.W.mg_none_of X G a
  have TB : TxtB mg := ⟨z z_int, z z_abs, z z_len, z z_range, z z_min⟩
  have TN : TxtN mg := { TB with b_isinstance := z z_isinstance, b_all := z z_all, b_str := z z_str, b_bool := z z_bool, b_list := z z_list, b_tuple := z z_tuple, b_set := z z_set, b_enumerate := z z_enumerate, b_iter := z z_iter, b_zip := z z_zip, b_max := z z_max, k_MOST := ⟨_, g g_MOST⟩, k__CASH := ⟨_, g g__CASH⟩, k__LETTERS := ⟨_, g g__LETTERS⟩, k__LONGEST_NAME := ⟨_, g g__LONGEST_NAME⟩, k__MOST_GOODS := ⟨_, g g__MOST_GOODS⟩ }
  have na : ∀ n : Str, (["goods", "_assets", "rows", "_sums", "_entries"] : List Str).contains n = true → NoAttr K C n := fun n hn => by
    have hn' : n ∈ (["goods", "_assets", "rows", "_sums", "_entries"] : List Str) := List.contains_iff_mem.mp hn
    simp only [List.mem_cons, List.not_mem_nil, or_false] at hn'
    rcases hn' with rfl | rfl | rfl | rfl | rfl
    · exact n_Table_goods
    · exact n_Table__assets
    · exact n_Table_rows
    · exact n_Table__sums
    · exact n_Table__entries
  have cl : Cls K C := ⟨pg_Table, hd_Table, po_Table, sa_Table⟩
  have TT : TxtT K mg C := { TN with cl_Table := cl, na_Table := na }
  have TO : TxtO K mg C OG OG := { TT with c_Table := g c_Table, si_Table := ⟨ca_C, cn_C, ct_C, cm_C⟩, c_OtherGoods := g c_OtherGoods, oe_OtherGoods := ⟨xn_B, kp_B, ex_B, ty_B⟩ }
  have ne : NeOf K C f_eq := ⟨⟨_, _, _, _, _, _, _, _, _, _, _, _, _, _, _, _, l_C, ns_ok l_NC q_NC, e_NC, m_NC⟩, fn_of_ty ty_eq⟩
  have TM : TxtM K mg C := { TT with b_dict := z z_dict }
  have TLw : TxtL K mg C OG OG := { TO with cr_Table := ⟨rd_C, gb_C⟩ }
  have oex_NA : OexC K NA := ⟨⟨_, _, _, _, _, _, _, _, _, _, _, _, _, _, _, l_NA, h_NA⟩, sa_NA, ex_NA, ty_NA, kp_NA⟩
  have xf_NA : XfC K NA := ⟨ga_NA, gg_NA, ex_NA, hd_NA⟩
  have exm_NA := exm_ref ex_NA ic_NA ty_NA sb_NA
  have oex_BM : OexC K BM := ⟨⟨_, _, _, _, _, _, _, _, _, _, _, _, _, _, _, l_BM, h_BM⟩, sa_BM, ex_BM, ty_BM, kp_BM⟩
  have xf_BM : XfC K BM := ⟨ga_BM, gg_BM, ex_BM, hd_BM⟩
  have exm_BM := exm_ref ex_BM ic_BM ty_BM sb_BM
  have oex_BG : OexC K BG := ⟨⟨_, _, _, _, _, _, _, _, _, _, _, _, _, _, _, l_BG, h_BG⟩, sa_BG, ex_BG, ty_BG, kp_BG⟩
  have xf_BG : XfC K BG := ⟨ga_BG, gg_BG, ex_BG, hd_BG⟩
  have exm_BG := exm_ref ex_BG ic_BG ty_BG sb_BG
  obtain ⟨mi0, kbi0⟩ := kbI0 (fund_mk l_init c_init k_init d_init)
  obtain ⟨mi1, kbi1⟩ := kbI1 (fund_mk l_init c_init k_init d_init)
  refine ⟨PySem.W.fnOf "law" "law" (defArgs s_law) (defBody s_law) (defScope s_law) .none kV_law dc_law pm_law an_law cd_law ct_law, fun s v => .of_eq rfl, fun base Kb Gb => ?_⟩
  let X_NoAsset : DefX l.prog w K mg base "NoAsset" NA ["name"] := ⟨_, _, _, oex_NA, a_xiNA, ty_xiNA, ok_NoAsset F_xiNA oex_NA nw_NA_name, b_xiNA, g c_NoAsset⟩
  let X_BadMove : DefX l.prog w K mg base "BadMove" BM ["what"] := ⟨_, _, _, oex_BM, a_xiBM, ty_xiBM, ok_BadMove F_xiBM oex_BM nw_BM_what, b_xiBM, g c_BadMove⟩
  let X_BadGoods : DefX l.prog w K mg base "BadGoods" BG ["what"] := ⟨_, _, _, oex_BG, a_xiBG, ty_xiBG, ok_BadGoods F_xiBG oex_BG nw_BG_what, b_xiBG, g c_BadGoods⟩
  let D_is_name : DefD l.prog w K mg base "is_name" 1 ["thing"] sdName := ⟨_, _, ok_name F_is_name TN, g a_is_name, k_is_name, b_is_name⟩
  let D_is_sequence : DefD l.prog w K mg base "is_sequence" 1 ["thing"] sdSeq := ⟨_, _, ok_seq F_is_sequence TN, g a_is_sequence, k_is_sequence, b_is_sequence⟩
  let D_is_integer : DefD l.prog w K mg base "is_integer" 1 ["thing"] sdIsInt := ⟨_, _, ok_integer F_is_integer TN, g a_is_integer, k_is_integer, b_is_integer⟩
  let D_is_whole : DefD l.prog w K mg base "is_whole" 3 ["thing", "low", "high"] sdWhole := ⟨_, _, ok_whole D_is_integer F_is_whole TN, g a_is_whole, k_is_whole, b_is_whole⟩
  let D_is_row : DefD l.prog w K mg base "is_row" 3 ["thing", "length"] sdIsRow := ⟨_, _, ok_row D_is_sequence F_is_row TN, g a_is_row, k_is_row, b_is_row⟩
  let D_checked_goods : DefD l.prog w K mg base "checked_goods" 3 ["goods"] sdChecked := ⟨_, _, ok_checked trivial D_is_sequence D_is_name F_checked_goods TN, g a_checked_goods, k_checked_goods, b_checked_goods⟩
  let D_assets : DefD l.prog w K mg base "assets" 5 ["goods"] sdAssets := ⟨_, _, ok_assets D_checked_goods F_assets TN, g a_assets, k_assets, b_assets⟩
  let D_pairs_of : DefD l.prog w K mg base "pairs_of" 1 ["known"] sdPairsOf := ⟨_, _, ok_pairs_of F_pairs_of TN, g a_pairs_of, k_pairs_of, b_pairs_of⟩
  let D_check_asset : DefD l.prog w K mg base "check_asset" 1 ["known", "thing"] sdCheckA := ⟨_, _, ok_checkA F_check_asset TN, g a_check_asset, k_check_asset, b_check_asset⟩
  let D_check_assetX : DefD l.prog w K mg base "check_asset" 3 ["known", "thing"] (sdCheckX NA) := ⟨_, _, ok_checkX X_NoAsset F_check_asset TN, g a_check_asset, k_check_asset, b_check_asset⟩
  let D_check_same_goods : DefR l.prog w K mg base "check_same_goods" 1 (starD 1 (sdSameG C OG)) := ⟨_, ok_sameG F_check_same_goods TO, g a_check_same_goods, k_check_same_goods⟩
  let D_closed_sums : DefD l.prog w K mg base "closed_sums" 1 ["assets", "rows"] sdSums := ⟨_, _, ok_sums F_closed_sums TB, g a_closed_sums, k_closed_sums, b_closed_sums⟩
  let D_row_fault : DefD l.prog w K mg base "_row_fault" 5 ["known", "row", "cap"] sdRowFault := ⟨_, _, ok_fault D_is_row D_is_whole F_row_fault TN, g a_row_fault, k_row_fault, b_row_fault⟩
  let D_checked_rows : DefD l.prog w K mg base "_checked_rows" 7 ["known", "rows", "cap"] sdRowsOk := ⟨_, _, ok_rowsOk D_is_sequence D_row_fault F_checked_rows TN, g a_checked_rows, k_checked_rows, b_checked_rows⟩
  let K_Table : DefK l.prog w K mg base C 9 3 ["self", "goods", "rows", "cap"] ["cap"] [.int 1000000000000] (sdInit C) := ⟨_, _, _, _, ⟨mk_Table, a_init, i_init, kp_Table⟩, ok_init D_checked_goods D_assets D_checked_rows D_closed_sums D_pairs_of F_init TT, kbi0, kbi1⟩
  let D_Table__check_pair : DefM l.prog w K mg base C "_check_pair" 3 ["self", "up", "down"] (sdCheckP C) := ⟨_, _, ok_checkP D_check_asset F_check_pair TT, b_check_pair, ⟨a_check_pair, i_check_pair, k_check_pair⟩⟩
  let D_Table___getitem : DefG l.prog w K mg base C 5 ["self", "at"] (sdGet C) := ⟨_, _, ok_get D_Table__check_pair F_getitem TT, b_getitem, ⟨a_getitem, fi_get, i_getitem⟩⟩
  let D_Table_entries : DefP l.prog w K mg base C "entries" 1 ["self"] (sdEntries C) := ⟨_, _, _, ok_entries F_entries TT, b_entries, ⟨pa_entries, pt_entries, pk_entries, ⟨_, a_entries⟩⟩⟩
  let D_Table___eq : DefE l.prog w K mg base C 1 ["self", "other"] (sdEq C) := ⟨_, _, ok_eq F_eq TO, b_eq, a_eq, i_eq, ne⟩
  let D_made_table : DefD l.prog w K mg base "made_table" 11 ["goods", "rows"] (sdMade C) := ⟨_, _, ok_made K_Table F_made_table TO, g a_made_table, k_made_table, b_made_table⟩
  let D_closed_table : DefD l.prog w K mg base "closed_table" 13 ["goods", "rows"] (sdClosedT C) := ⟨_, _, ok_closedT D_made_table D_Table_entries F_closed_table TO, g a_closed_table, k_closed_table, b_closed_table⟩
  let D_Table___add : DefB l.prog w K mg base C .Add 13 ["self", "other"] (sdOp C OG (rAdd C)) := ⟨_, _, ok_add D_made_table D_check_same_goods D_Table___getitem F_add TO, b_add, ⟨sf_C, by rw [show PySem.dunder Operator.Add.info.2 = ("__add__" : Str) by first | rfl | decide +kernel]; exact a_add, i_add⟩⟩
  let D_Table___or : DefB l.prog w K mg base C .BitOr 13 ["self", "other"] (sdOp C OG (rOr C)) := ⟨_, _, ok_or D_made_table D_check_same_goods D_Table___getitem F_or TO, b_or, ⟨sf_C, by rw [show PySem.dunder Operator.BitOr.info.2 = ("__or__" : Str) by first | rfl | decide +kernel]; exact a_or, i_or⟩⟩
  let D_Table___and : DefB l.prog w K mg base C .BitAnd 15 ["self", "other"] (sdOp C OG (rAnd C)) := ⟨_, _, ok_and D_closed_table D_check_same_goods D_Table___getitem F_and TO, b_and, ⟨sf_C, by rw [show PySem.dunder Operator.BitAnd.info.2 = ("__and__" : Str) by first | rfl | decide +kernel]; exact a_and, i_and⟩⟩
  let D_Table_first_above : DefM l.prog w K mg base C "first_above" 7 ["self", "other"] (sdAbove C OG) := ⟨_, _, ok_above D_check_same_goods D_Table___getitem F_first_above TO, b_first_above, ⟨a_first_above, i_first_above, k_first_above⟩⟩
  let D_Table_within : DefM l.prog w K mg base C "within" 9 ["self", "other"] (sdWithin C OG) := ⟨_, _, ok_within D_Table_first_above F_within TO, b_within, ⟨a_within, i_within, k_within⟩⟩
  let D_is_sequenceX : DefD l.prog w K mg base "is_sequence" 1 ["thing"] sdSeqX := ⟨_, _, ok_seqX F_is_sequence TN, g a_is_sequence, k_is_sequence, b_is_sequence⟩
  let D_is_integerX : DefD l.prog w K mg base "is_integer" 1 ["thing"] sdIntX := ⟨_, _, ok_integerX F_is_integer TN, g a_is_integer, k_is_integer, b_is_integer⟩
  let D_is_rowX : DefD l.prog w K mg base "is_row" 3 ["thing", "length"] sdRowX := ⟨_, _, ok_rowX D_is_sequenceX F_is_row TN, g a_is_row, k_is_row, b_is_row⟩
  let D_is_number_row : DefD l.prog w K mg base "is_number_row" 5 ["thing", "length"] sdNumX := ⟨_, _, ok_numX D_is_rowX D_is_integerX F_is_number_row TN, g a_is_number_row, k_is_number_row, b_is_number_row⟩
  let D_is_nameX : DefD l.prog w K mg base "is_name" 1 ["thing"] sdNameX := ⟨_, _, ok_nameX F_is_name TN, g a_is_name, k_is_name, b_is_name⟩
  let D_checked_goodsX : DefD l.prog w K mg base "checked_goods" 3 ["goods"] (sdGoodsX BG) := ⟨_, _, ok_goodsX X_BadGoods D_is_sequenceX D_is_nameX F_checked_goods TN, g a_checked_goods, k_checked_goods, b_checked_goods⟩
  let D_check_move : DefD l.prog w K mg base "check_move" 7 ["goods", "move"] (sdCheckMove BG BM) := ⟨_, _, ok_checkMove X_BadMove D_checked_goodsX D_is_rowX D_is_number_row F_check_move TM, g a_check_move, k_check_move, b_check_move⟩
  let D_changes : DefD l.prog w K mg base "_changes" 9 ["goods", "move"] (sdChanges BG BM) := ⟨_, _, ok_changes D_check_move D_assets F_changes TM, g a_changes, k_changes, b_changes⟩
  let D_broken : DefD l.prog w K mg base "_broken" 1 ["rows", "changes"] sdBroken := ⟨_, _, ok_broken F_broken TM, g a_broken, k_broken, b_broken⟩
  let D_fits : DefD l.prog w K mg base "fits" 11 ["move", "table"] (sdFits C BM) := ⟨_, _, ok_fits D_changes D_broken F_fits TM, g a_fits, k_fits, b_fits⟩
  let D_first_broken : DefD l.prog w K mg base "first_broken" 11 ["move", "table"] (sdFirst C BM) := ⟨_, _, ok_first D_changes D_broken D_Table_entries F_first_broken TM, g a_first_broken, k_first_broken, b_first_broken⟩
  let D_extreme_move : DefD l.prog w K mg base "extreme_move" 9 ["table", "up", "down"] (sdExtreme C NA) := ⟨_, _, ok_extreme D_assets D_check_assetX D_Table___getitem F_extreme_move TM, g a_extreme_move, k_extreme_move, b_extreme_move⟩
  let D_law_source : DefD l.prog w K mg base "_law_source" 1 ["_law_script", "_law_place"] KS.sdSourceR := ⟨_, _, KS.ok_sourceR F_law_source TB, g a_law_source, k_law_source, b_law_source⟩
  let D_law_draw : DefD l.prog w K mg base "_law_draw" 1 ["_law_source_here", "_law_many"] sdDraw := ⟨_, _, ok_draw F_law_draw TB, g a_law_draw, k_law_draw, b_law_draw⟩
  let D_law_goods : DefD l.prog w K mg base "_law_goods" 3 ["_law_source_here", "_law_most"] sdGoods := ⟨_, _, ok_goods D_law_draw F_law_goods TB, g a_law_goods, k_law_goods, b_law_goods⟩
  let D_law_size : DefD l.prog w K mg base "_law_size" 3 ["_law_source_here"] sdSize := ⟨_, _, ok_size D_law_draw F_law_size TB, g a_law_size, k_law_size, b_law_size⟩
  let D_law_pairs : DefD l.prog w K mg base "_law_pairs" 1 ["_law_names"] sdPairs := ⟨_, _, ok_pairs F_law_pairs TB, g a_law_pairs, k_law_pairs, b_law_pairs⟩
  let D_law_closed : DefD l.prog w K mg base "_law_closed" 1 ["_law_names", "_law_rows_here"] sdClosed := ⟨_, _, ok_closed F_law_closed TB, g a_law_closed, k_law_closed, b_law_closed⟩
  let D_law_closed_L : DefD l.prog w K mg base "_law_closed" 1 ["_law_names", "_law_rows_here"] (lent sdClosed) := ⟨_, _, FnOk.lent (ok_closed F_law_closed TB), g a_law_closed, k_law_closed, b_law_closed⟩
  let D_law_rows : DefD l.prog w K mg base "_law_rows" 5 ["_law_source_here", "_law_goods_here"] sdRows := ⟨_, _, ok_rows D_law_draw D_law_size D_law_pairs D_law_closed_L F_law_rows TB, g a_law_rows, k_law_rows, b_law_rows⟩
  let D_law_box : DefD l.prog w K mg base "_law_box" 3 ["_law_source_here", "_law_many"] sdBox := ⟨_, _, ok_box D_law_draw F_law_box TM, g a_law_box, k_law_box, b_law_box⟩
  let D_law_holds : DefD l.prog w K mg base "_law_holds" 1 ["_law_move", "_law_goods_here", "_law_rows_here"] sdHolds := ⟨_, _, ok_holds F_law_holds TM, g a_law_holds, k_law_holds, b_law_holds⟩
  let D_law_small : DefD l.prog w K mg base "_law_small" 3 ["_law_source_here", "_law_rows_here"] sdSmall := ⟨_, _, ok_small D_law_draw F_law_small TM, g a_law_small, k_law_small, b_law_small⟩
  exact ok_law D_law_source D_law_goods D_law_rows D_law_draw D_law_box D_law_holds D_law_small K_Table D_extreme_move D_fits D_first_broken D_Table_within D_Table___eq D_Table___add D_Table___or D_Table___and F_law TLw
theorem walk {l : PySem.W.OpenLaw} {q : Program} {loose : List Str} {XP : (Str → Option Value) → Heap → Prop} {YP : World → Heap → Prop} {d : DefRec} {K : Params → PySem.W.Frag} (hn : l.most = some 63) (hdf : d.params.defaults = [])
    (hY : ∀ (w : World) (h : Heap), YP w h → (K w.params).In h)
    (F : ∀ (w : World) (mg : Str → Option Value) (fa : Addr) (h : Heap), (K w.params).In h → h.Ns mainGlobals mg → mg d.name = some (.ref fa) →
      ∃ fd : FuncData, (∀ (s : Shared) (u : Value), BindsTo s fd ⟨[u], []⟩ [("_law_script", u)]) ∧ ∀ base : Heap, (K w.params).In base → base.Ns mainGlobals mg → FnOk l.prog w (K w.params) mg base (L2.CX l.prog w) 17 fa fd ["_law_script"] (spOf (K w.params) sdLaw)) :
    PySem.W.WalkO q loose XP YP l.row.toRowW d [] (fun f vs => PySem.call f vs) :=
  L2.walk_of (n := 63) (k := 17) (x := "_law_script") (CX := fun w => L2.CX l.prog w) (sp := fun w => spOf (K w.params) sdLaw) hn (by decide) hdf ⟨rfl, by decide, by decide⟩ hY F (fun _ _ a ns hl _ hS => law_in hS) fun _ _ _ _ _ z => cx_none z
end KT
open PySem PySem.W PyProof.Rows
set_option maxRecDepth 100000 in
set_option maxHeartbeats 0 in
theorem PySem.Challenge.cw_coveredday_k19_whole_tables_are_their_mo_holds : PySem.Challenge.rw_coveredday_k19_whole_tables_are_their_mo.Holds := by
  w_on; o_law; k_head; (case hw => w_witness2)
  k_fill
  refine KT.walk (l := PySem.Challenge.rw_coveredday_k19_whole_tables_are_their_mo) rfl rfl (fun w h Y => PySem.W.kIn_of Y) ?F
  case F =>
    intro w mg fa h KX G hmg
    refine' KT.all_mk KX G hmg ?c_Table ?pg_Table ?hd_Table ?po_Table ?sa_Table ?mk_Table ?kp_Table ?n_Table_goods ?n_Table__assets ?n_Table_rows ?n_Table__sums ?n_Table__entries ?a_init ?l_init ?c_init ?k_init ?d_init ?i_init ?a_check_pair ?l_check_pair ?c_check_pair ?k_check_pair ?i_check_pair ?pa_entries ?pt_entries ?pk_entries ?a_entries ?l_entries ?c_entries ?k_entries ?a_getitem ?l_getitem ?c_getitem ?k_getitem ?i_getitem ?a_first_above ?l_first_above ?c_first_above ?k_first_above ?i_first_above ?a_within ?l_within ?c_within ?k_within ?i_within ?a_add ?l_add ?c_add ?k_add ?i_add ?a_and ?l_and ?c_and ?k_and ?i_and ?a_or ?l_or ?c_or ?k_or ?i_or ?a_eq ?l_eq ?c_eq ?k_eq ?i_eq ?rd_C ?gb_C ?sf_C ?ca_C ?cn_C ?ct_C ?cm_C ?l_C ?l_NC ?q_NC ?e_NC ?m_NC ?ty_eq ?fi_get ?c_OtherGoods ?xn_B ?ex_B ?ty_B ?kp_B ?c_NoAsset ?l_NA ?h_NA ?sa_NA ?ex_NA ?ty_NA ?kp_NA ?ga_NA ?gg_NA ?hd_NA ?ic_NA ?sb_NA ?nw_NA_name ?a_xiNA ?l_xiNA ?c_xiNA ?k_xiNA ?ty_xiNA ?c_BadMove ?l_BM ?h_BM ?sa_BM ?ex_BM ?ty_BM ?kp_BM ?ga_BM ?gg_BM ?hd_BM ?ic_BM ?sb_BM ?nw_BM_what ?a_xiBM ?l_xiBM ?c_xiBM ?k_xiBM ?ty_xiBM ?c_BadGoods ?l_BG ?h_BG ?sa_BG ?ex_BG ?ty_BG ?kp_BG ?ga_BG ?gg_BG ?hd_BG ?ic_BG ?sb_BG ?nw_BG_what ?a_xiBG ?l_xiBG ?c_xiBG ?k_xiBG ?ty_xiBG ?a_is_name ?l_is_name ?c_is_name ?k_is_name ?a_is_sequence ?l_is_sequence ?c_is_sequence ?k_is_sequence ?a_is_integer ?l_is_integer ?c_is_integer ?k_is_integer ?a_is_whole ?l_is_whole ?c_is_whole ?k_is_whole ?a_is_row ?l_is_row ?c_is_row ?k_is_row ?a_is_number_row ?l_is_number_row ?c_is_number_row ?k_is_number_row ?a_checked_goods ?l_checked_goods ?c_checked_goods ?k_checked_goods ?a_assets ?l_assets ?c_assets ?k_assets ?a_pairs_of ?l_pairs_of ?c_pairs_of ?k_pairs_of ?a_check_asset ?l_check_asset ?c_check_asset ?k_check_asset ?a_check_same_goods ?l_check_same_goods ?c_check_same_goods ?k_check_same_goods ?a_closed_sums ?l_closed_sums ?c_closed_sums ?k_closed_sums ?a_made_table ?l_made_table ?c_made_table ?k_made_table ?a_closed_table ?l_closed_table ?c_closed_table ?k_closed_table ?a_check_move ?l_check_move ?c_check_move ?k_check_move ?a_fits ?l_fits ?c_fits ?k_fits ?a_first_broken ?l_first_broken ?c_first_broken ?k_first_broken ?a_extreme_move ?l_extreme_move ?c_extreme_move ?k_extreme_move ?a_row_fault ?l_row_fault ?c_row_fault ?k_row_fault ?a_checked_rows ?l_checked_rows ?c_checked_rows ?k_checked_rows ?a_changes ?l_changes ?c_changes ?k_changes ?a_broken ?l_broken ?c_broken ?k_broken ?a_law_source ?l_law_source ?c_law_source ?k_law_source ?a_law_draw ?l_law_draw ?c_law_draw ?k_law_draw ?a_law_goods ?l_law_goods ?c_law_goods ?k_law_goods ?a_law_size ?l_law_size ?c_law_size ?k_law_size ?a_law_pairs ?l_law_pairs ?c_law_pairs ?k_law_pairs ?a_law_closed ?l_law_closed ?c_law_closed ?k_law_closed ?a_law_rows ?l_law_rows ?c_law_rows ?k_law_rows ?a_law_box ?l_law_box ?c_law_box ?k_law_box ?a_law_holds ?l_law_holds ?c_law_holds ?k_law_holds ?a_law_small ?l_law_small ?c_law_small ?k_law_small ?a_law ?l_law ?c_law ?k_law ?g_MOST ?g__CASH ?g__LETTERS ?g__LONGEST_NAME ?g__MOST_GOODS ?z_int ?z_abs ?z_len ?z_range ?z_min ?z_isinstance ?z_all ?z_str ?z_bool ?z_list ?z_tuple ?z_set ?z_enumerate ?z_iter ?z_zip ?z_max ?z_dict
    (case c_Table => k_is)
    (case pg_Table => k_is)
    (case hd_Table => k_is)
    (case po_Table => k_is)
    (case sa_Table => k_is)
    (case mk_Table => k_is)
    (case kp_Table => k_is)
    (case n_Table_goods => k_is)
    (case n_Table__assets => k_is)
    (case n_Table_rows => k_is)
    (case n_Table__sums => k_is)
    (case n_Table__entries => k_is)
    (case a_init => k_is)
    (case l_init => k_is)
    (case c_init => k_is)
    (case k_init => k_is)
    (case d_init => k_is)
    (case i_init => k_is)
    (case a_check_pair => k_is)
    (case l_check_pair => k_is)
    (case c_check_pair => k_is)
    (case k_check_pair => k_is)
    (case i_check_pair => k_is)
    (case pa_entries => k_is)
    (case pt_entries => k_is)
    (case pk_entries => k_is)
    (case a_entries => k_is)
    (case l_entries => k_is)
    (case c_entries => k_is)
    (case k_entries => k_is)
    (case a_getitem => k_is)
    (case l_getitem => k_is)
    (case c_getitem => k_is)
    (case k_getitem => k_is)
    (case i_getitem => k_is)
    (case a_first_above => k_is)
    (case l_first_above => k_is)
    (case c_first_above => k_is)
    (case k_first_above => k_is)
    (case i_first_above => k_is)
    (case a_within => k_is)
    (case l_within => k_is)
    (case c_within => k_is)
    (case k_within => k_is)
    (case i_within => k_is)
    (case a_add => k_is)
    (case l_add => k_is)
    (case c_add => k_is)
    (case k_add => k_is)
    (case i_add => k_is)
    (case a_and => k_is)
    (case l_and => k_is)
    (case c_and => k_is)
    (case k_and => k_is)
    (case i_and => k_is)
    (case a_or => k_is)
    (case l_or => k_is)
    (case c_or => k_is)
    (case k_or => k_is)
    (case i_or => k_is)
    (case a_eq => k_is)
    (case l_eq => k_is)
    (case c_eq => k_is)
    (case k_eq => k_is)
    (case i_eq => k_is)
    (case rd_C => k_is)
    (case gb_C => k_is)
    (case sf_C => k_is)
    (case ca_C => k_is)
    (case cn_C => k_is)
    (case ct_C => k_is)
    (case cm_C => k_is)
    (case l_C => k_is)
    (case l_NC => k_is)
    (case q_NC => first | rfl | decide +kernel)
    (case e_NC => k_is)
    (case m_NC => k_is)
    (case ty_eq => k_is)
    (case fi_get => k_is)
    (case c_OtherGoods => k_is)
    (case xn_B => k_exc)
    (case ex_B => k_is)
    (case ty_B => k_is)
    (case kp_B => k_is)
    (case c_NoAsset => k_is)
    (case l_NA => k_is)
    (case h_NA => first | rfl | decide +kernel)
    (case sa_NA => k_is)
    (case ex_NA => k_is)
    (case ty_NA => k_is)
    (case kp_NA => k_is)
    (case ga_NA => k_is)
    (case gg_NA => k_is)
    (case hd_NA => k_is)
    (case ic_NA => k_is)
    (case sb_NA => k_is)
    (case nw_NA_name => k_is)
    (case a_xiNA => k_is)
    (case l_xiNA => k_is)
    (case c_xiNA => k_is)
    (case k_xiNA => k_is)
    (case ty_xiNA => k_is)
    (case c_BadMove => k_is)
    (case l_BM => k_is)
    (case h_BM => first | rfl | decide +kernel)
    (case sa_BM => k_is)
    (case ex_BM => k_is)
    (case ty_BM => k_is)
    (case kp_BM => k_is)
    (case ga_BM => k_is)
    (case gg_BM => k_is)
    (case hd_BM => k_is)
    (case ic_BM => k_is)
    (case sb_BM => k_is)
    (case nw_BM_what => k_is)
    (case a_xiBM => k_is)
    (case l_xiBM => k_is)
    (case c_xiBM => k_is)
    (case k_xiBM => k_is)
    (case ty_xiBM => k_is)
    (case c_BadGoods => k_is)
    (case l_BG => k_is)
    (case h_BG => first | rfl | decide +kernel)
    (case sa_BG => k_is)
    (case ex_BG => k_is)
    (case ty_BG => k_is)
    (case kp_BG => k_is)
    (case ga_BG => k_is)
    (case gg_BG => k_is)
    (case hd_BG => k_is)
    (case ic_BG => k_is)
    (case sb_BG => k_is)
    (case nw_BG_what => k_is)
    (case a_xiBG => k_is)
    (case l_xiBG => k_is)
    (case c_xiBG => k_is)
    (case k_xiBG => k_is)
    (case ty_xiBG => k_is)
    (case a_is_name => k_is)
    (case l_is_name => k_is)
    (case c_is_name => k_is)
    (case k_is_name => k_is)
    (case a_is_sequence => k_is)
    (case l_is_sequence => k_is)
    (case c_is_sequence => k_is)
    (case k_is_sequence => k_is)
    (case a_is_integer => k_is)
    (case l_is_integer => k_is)
    (case c_is_integer => k_is)
    (case k_is_integer => k_is)
    (case a_is_whole => k_is)
    (case l_is_whole => k_is)
    (case c_is_whole => k_is)
    (case k_is_whole => k_is)
    (case a_is_row => k_is)
    (case l_is_row => k_is)
    (case c_is_row => k_is)
    (case k_is_row => k_is)
    (case a_is_number_row => k_is)
    (case l_is_number_row => k_is)
    (case c_is_number_row => k_is)
    (case k_is_number_row => k_is)
    (case a_checked_goods => k_is)
    (case l_checked_goods => k_is)
    (case c_checked_goods => k_is)
    (case k_checked_goods => k_is)
    (case a_assets => k_is)
    (case l_assets => k_is)
    (case c_assets => k_is)
    (case k_assets => k_is)
    (case a_pairs_of => k_is)
    (case l_pairs_of => k_is)
    (case c_pairs_of => k_is)
    (case k_pairs_of => k_is)
    (case a_check_asset => k_is)
    (case l_check_asset => k_is)
    (case c_check_asset => k_is)
    (case k_check_asset => k_is)
    (case a_check_same_goods => k_is)
    (case l_check_same_goods => k_is)
    (case c_check_same_goods => k_is)
    (case k_check_same_goods => k_is)
    (case a_closed_sums => k_is)
    (case l_closed_sums => k_is)
    (case c_closed_sums => k_is)
    (case k_closed_sums => k_is)
    (case a_made_table => k_is)
    (case l_made_table => k_is)
    (case c_made_table => k_is)
    (case k_made_table => k_is)
    (case a_closed_table => k_is)
    (case l_closed_table => k_is)
    (case c_closed_table => k_is)
    (case k_closed_table => k_is)
    (case a_check_move => k_is)
    (case l_check_move => k_is)
    (case c_check_move => k_is)
    (case k_check_move => k_is)
    (case a_fits => k_is)
    (case l_fits => k_is)
    (case c_fits => k_is)
    (case k_fits => k_is)
    (case a_first_broken => k_is)
    (case l_first_broken => k_is)
    (case c_first_broken => k_is)
    (case k_first_broken => k_is)
    (case a_extreme_move => k_is)
    (case l_extreme_move => k_is)
    (case c_extreme_move => k_is)
    (case k_extreme_move => k_is)
    (case a_row_fault => k_is)
    (case l_row_fault => k_is)
    (case c_row_fault => k_is)
    (case k_row_fault => k_is)
    (case a_checked_rows => k_is)
    (case l_checked_rows => k_is)
    (case c_checked_rows => k_is)
    (case k_checked_rows => k_is)
    (case a_changes => k_is)
    (case l_changes => k_is)
    (case c_changes => k_is)
    (case k_changes => k_is)
    (case a_broken => k_is)
    (case l_broken => k_is)
    (case c_broken => k_is)
    (case k_broken => k_is)
    (case a_law_source => k_is)
    (case l_law_source => k_is)
    (case c_law_source => k_is)
    (case k_law_source => k_is)
    (case a_law_draw => k_is)
    (case l_law_draw => k_is)
    (case c_law_draw => k_is)
    (case k_law_draw => k_is)
    (case a_law_goods => k_is)
    (case l_law_goods => k_is)
    (case c_law_goods => k_is)
    (case k_law_goods => k_is)
    (case a_law_size => k_is)
    (case l_law_size => k_is)
    (case c_law_size => k_is)
    (case k_law_size => k_is)
    (case a_law_pairs => k_is)
    (case l_law_pairs => k_is)
    (case c_law_pairs => k_is)
    (case k_law_pairs => k_is)
    (case a_law_closed => k_is)
    (case l_law_closed => k_is)
    (case c_law_closed => k_is)
    (case k_law_closed => k_is)
    (case a_law_rows => k_is)
    (case l_law_rows => k_is)
    (case c_law_rows => k_is)
    (case k_law_rows => k_is)
    (case a_law_box => k_is)
    (case l_law_box => k_is)
    (case c_law_box => k_is)
    (case k_law_box => k_is)
    (case a_law_holds => k_is)
    (case l_law_holds => k_is)
    (case c_law_holds => k_is)
    (case k_law_holds => k_is)
    (case a_law_small => k_is)
    (case l_law_small => k_is)
    (case c_law_small => k_is)
    (case k_law_small => k_is)
    (case a_law => k_is)
    (case l_law => k_is)
    (case c_law => k_is)
    (case k_law => k_is)
    (case g_MOST => k_is)
    (case g__CASH => k_is)
    (case g__LETTERS => k_is)
    (case g__LONGEST_NAME => k_is)
    (case g__MOST_GOODS => k_is)
    (case z_int => k_is)
    (case z_abs => k_is)
    (case z_len => k_is)
    (case z_range => k_is)
    (case z_min => k_is)
    (case z_isinstance => k_is)
    (case z_all => k_is)
    (case z_str => k_is)
    (case z_bool => k_is)
    (case z_list => k_is)
    (case z_tuple => k_is)
    (case z_set => k_is)
    (case z_enumerate => k_is)
    (case z_iter => k_is)
    (case z_zip => k_is)
    (case z_max => k_is)
    (case z_dict => k_is)
