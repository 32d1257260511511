import PyProof.Rows.All
import Wide.All
import OpenK.AllK
import Wide.FinOn
import HandS.ForMost
import HandS.Defaults
import HandS.Exc
import HandS.ExcOwn
import HandS.ExcInit
import HandS.ExcField
import HandS.TryMany
import HandS.TryOnly
import HandS.Star
import HandS.ClsMeth
import HandS.OwnEq
import HandS.IsInst
import HandS.NoneIn
import HandS.TupAny
import HandS.Deep
import HandS.WordsExc
import HandS.Codes
import HandS.IterVal
import HandS.IterNext
import HandS.TupLen
import HandS.DictTup
import KE.KDictKeyed
import HandS.SortRule
import KE.SortData
import HandS.Comp
import HandS.DictComp
import HandS.HeadHook4
import HandS.Walk
import KE.DataFind
import KE.GoesMore
import KE.GoesEnum
import HandS.Property
import HandS.RevTup
import HandS.Lambda
import HandS.Iter
import HandS.SortKw
import HandS.Wide
import HandS.MakeKw
import KE.DataMinMax
import HandS.Head0
import HandS.Head1
import HandS.Head2
import HandS.HeadEnd
import HandS.Gcd
import KE.KMathGC
import KE.GoesZip
import HandS.More
import HandS.ExcIs
import HandS.Steps
import KE.DatumOrd
import HandS.TupMul
import KE.KIndexOf
import HandS.Head3
import HandS.HeadWalk
import HandS.EndTab
import PySem.Challenge.RW_askedtrue_k21_whole_plays_of_tables_of_a
set_option Elab.async false
set_option linter.all false
set_option maxRecDepth 100000
set_option maxHeartbeats 4000000
/-! Rules of my own over the layer: a def read off its class and called. -/
namespace Ax
open PySem PySem.Spec PyProof.Rows L2
/-- the def at g stands in the class at C under the name m, plainly read -/
structure ClsFn (K : PySem.W.Frag) (C : Addr) (m : Str) (g : Addr) : Prop where
  rd : ∃ mc, ClX.CRead K C mc ∧ ClX.CVal K C mc m (.ref g) (.ref g)
  kp : PySem.W.keepIn K (.ref g) = true
section
variable {X : Cx} {CX : CXT} {k : Nat} {C g : Addr} {sp : Sp} {E : XK} {o e : Expr} {es : List Expr} {m : Str} {pos apos : Pos} {ta : TE} {t : TA} {pl : Sem Bool}
/-- C.m(e, ..) -/
def tClsFn (C : Addr) (sp : Sp) (E : XK) (ta : TE) (t : TA) : TE := fun σ H Q => ta σ H fun x H1 => x = .ref C ∧ t σ H1 fun vs H2 => sp vs H2 Q E
theorem pe_clsfn (he : PE X o ta) (r : ClsFn X.K C m g) (F : FnR X.prog X.w X.K X.mg X.base CX k g sp) (hr : Room k X.A) (hx : Passes CX X E) (ha : PA X (e :: es) t)
    (hst : starEach (e :: es) X.env = (false, eval e X.env) :: starEach es X.env := by rfl) (hpl : (backTo pos (starEach es X.env)).any (·.1) = false := by rfl)
    (ht : eval (.Call (.Attribute o m apos) (e :: es) [] pos) X.env = (do
      let ov ← eval o X.env
      standAt apos.atName
      let (f, first) ← holding [ov] (getMethod ov m pl)
      callWith pos f first (backTo pos (starEach (e :: es) X.env)) (backToKw pos (keywordEach [] X.env))) := by rfl) :
    PE X (.Call (.Attribute o m apos) (e :: es) [] pos) (tClsFn C sp E ta t) := by
  obtain ⟨mc, rd, cv⟩ := r.rd
  constructor
  intro pins s σ H Q I h
  refine PySem.W.methodCall_KW (pl := pl) (thn (he.run pins s σ H _ I h) fun u s1 got => ?_) ht
  obtain ⟨x, H1, I1, rx, ex, q⟩ := got
  subst ex
  obtain rfl : u = Value.ref C := rx
  refine PySem.W.method_cls I1.kIn rd.ga (ClX.getcval_ok I1 rd cv fun s2 I2 => ?_)
  refine PySem.W.callWith_K (h₀ := X.base) I2.ok.mod.kin r.kp (thn (ha.run pos pins s2 σ H1 _ I2 q) fun us s3 more => ?_) hst hpl
  obtain ⟨vs, H2, I3, rv, q2⟩ := more
  exact ⟨I3.kIn, wpAny_call (run_fnR F hr hx I3 rv q2)⟩
end
end Ax
set_option maxHeartbeats 4000000
/-! == and != of instances by their class's own __eq__, whatever it answers. -/
namespace Ax
open PySem PySem.Spec PyProof.Rows L2
section
variable {X : Cx} {CX : CXT} {n : Nat} {C D f : Addr} {fd : FuncData} {ps : List Str} {sp : Sp} {E : XK} {pins : List (Addr × Obj)} {σ : L2.St} {H : Hp} {s : Shared} {Q : VK} {A : Around}
/-- a def called below the running body -/
theorem run_in {us : List Value} {vs : List V} (F : FnOk X.prog X.w X.K X.mg X.base CX n f fd ps sp) (hb : Binds X.K fd ps []) (hx : Passes CX X E) (sb : L2.Sub X n A)
    (I : Inv X pins σ H s) (r : Vals vs us) (h : sp vs H Q E) : wpAny (model X.prog X.w) A (call (.ref f) us) (EP X pins σ Q) X.xe s := by
  have e0 : Env0 X.prog X.w X.K X.mg X.base A X.stack s H := by
    obtain ⟨a1, a2, a3, a4, a5, a6, a7, a8⟩ := I.env0
    exact ⟨by rw [sb.fr]; exact a1, a2, a3, a4, a5, a6, a7, a8⟩
  have hl : us.length = ps.length := by rw [← r.length]; exact F.len _ _ _ _ h
  have bt : BindsTo s fd ⟨us, []⟩ (ps.zip us) := by
    have q := hb s us I.kIn (by rw [List.append_nil]; exact hl)
    rw [List.append_nil] at q
    exact q
  refine wpAny_call (codeAny_mono (F.run A X.stack s H ⟨us, []⟩ us vs Q E sb.room e0 bt r h) fun rr s' hq => ?_)
  cases rr with
  | error er => exact hx pins σ H s er s' I hq
  | ok fl =>
    cases fl with
    | ret u => exact I.after hq
    | next => exact hq.elim
    | brk => exact hq.elim
    | cont => exact hq.elim
/-- what the class must have -/
structure EqC (K : PySem.W.Frag) (C f : Addr) : Prop where
  eq : PySem.W.findIn K (.ref C) "__eq__" = some (some (.ref f))
  fn : PySem.W.isFn K (.ref f) = true
  ne : PySem.W.findIn K (.ref C) "__ne__" = some (some (.builtin "object.__ne__"))
  ob : PySem.W.subIn K (.ref C) (.type "object") = some true
/-- x == y by C's own __eq__, of which sp tells; y an instance of the class at D -/
def rOwnEq (K : PySem.W.Frag) (C : Addr) (sp : Sp) (E : XK) : R2 := fun x y H Q => ∃ (a b D dx dy : Addr) (fs gs : List (Str × V)), x = .ref a ∧ y = .ref b ∧ H a = some (.ins C dx fs) ∧ H b = some (.ins D dy gs) ∧ PySem.W.notFirst K C (.ref D) = true ∧
  sp [x, y] H (fun v H' => ∃ k, v = .bl k ∧ Q (.bl k) H') E
def rOwnNe (K : PySem.W.Frag) (C : Addr) (sp : Sp) (E : XK) : R2 := fun x y H Q => ∃ (a b D dx dy : Addr) (fs gs : List (Str × V)), x = .ref a ∧ y = .ref b ∧ H a = some (.ins C dx fs) ∧ H b = some (.ins D dy gs) ∧ PySem.W.notFirst K C (.ref D) = true ∧
  sp [x, y] H (fun v H' => ∃ k, v = .bl k ∧ Q (.bl (!k)) H') E
theorem op_ownEq (F : FnOk X.prog X.w X.K X.mg X.base CX n f fd ps sp) (hb : Binds X.K fd ps []) (hx : Passes CX X E) (hr : Room n X.A) (c : EqC X.K C f) : OpR X (compareOp .Eq) (rOwnEq X.K C sp E) := by
  intro pins s σ H x y v u Q I rx ry h
  obtain ⟨a, b, D, dx, dy, fs, gs, rfl, rfl, ha, hb', hn, hq⟩ := h
  obtain rfl : v = Value.ref a := rx
  obtain rfl : u = Value.ref b := ry
  obtain ⟨m1, J, _⟩ := ins_get I.hok ha
  obtain ⟨m2, J', _⟩ := ins_get I.hok hb'
  obtain ⟨od, J, _⟩ := J.look
  obtain ⟨od', J', _⟩ := J'.look
  obtain ⟨m, hF⟩ := I.fr
  show wpAny _ _ (richCompare .Eq _ _) _ _ _
  refine PySem.W.cmp_K (op := .Eq) hr.units0 hF I.ok.mod.kin J J'.type hn c.eq c.fn ?_
  refine wpAny_mono (run_in (us := [.ref a, .ref b]) (vs := [V.ref a, V.ref b]) F hb hx ⟨hr, rfl⟩ I (.cons rfl (.cons rfl .nil)) hq) (fun w s' z => ?_) fun _ _ z => z
  obtain ⟨v, H', I', rv, k, ev, q⟩ := z
  subst ev
  obtain rfl : w = Value.bool k := rv
  exact ⟨.bl k, H', I', rfl, q⟩
theorem arg_ne (p q : Value) : argsOk "object.__ne__" ⟨[p, q], []⟩ := PySem.F.cmpArgs_ne p q
theorem op_ownNe (F : FnOk X.prog X.w X.K X.mg X.base CX n f fd ps sp) (hb : Binds X.K fd ps []) (hx : Passes CX X E) (hr : Room (n + 1) X.A) (c : EqC X.K C f) : OpR X (compareOp .NotEq) (rOwnNe X.K C sp E) := by
  intro pins s σ H x y v u Q I rx ry h
  obtain ⟨a, b, D, dx, dy, fs, gs, rfl, rfl, ha, hb', hn, hq⟩ := h
  obtain rfl : v = Value.ref a := rx
  obtain rfl : u = Value.ref b := ry
  obtain ⟨m1, J, _⟩ := ins_get I.hok ha
  obtain ⟨m2, J', _⟩ := ins_get I.hok hb'
  obtain ⟨od, J, _⟩ := J.look
  obtain ⟨od', J', _⟩ := J'.look
  have Xk := I.kIn
  -- the own __eq__, asked by object.__ne__
  have inner : wpAny (model X.prog X.w) X.A.in1 (callSpecialIfBound? (.ref a) "__eq__" [.ref b]) (fun r s' => ∃ k H', r = some (.bool k) ∧ Inv X pins σ H' s' ∧ Q (.bl (!k)) H') X.xe s := by
    refine PySem.W.ifBound_K Xk J c.eq c.fn ?_
    refine wpAny_mono (run_in (us := [.ref a, .ref b]) (vs := [V.ref a, V.ref b]) F hb hx ⟨hr.in1, rfl⟩ I (.cons rfl (.cons rfl .nil)) hq) (fun w s' z => ?_) fun _ _ z => z
    obtain ⟨v, H', I', rv, k, ev, q⟩ := z
    subst ev
    obtain rfl : w = Value.bool k := rv
    exact ⟨k, H', rfl, I', q⟩
  have body : wpAny (model X.prog X.w) X.A.in1 (Builtin.«object.__ne__» ⟨[.ref a, .ref b], []⟩) (fun r s' => ∃ k H', r = .done (.ret (.bool (!k))) ∧ Inv X pins σ H' s' ∧ Q (.bl (!k)) H') X.xe s := by
    unfold Builtin.«object.__ne__»
    repeat (first
      | with_reducible refine wpAny_cRoomFor hr.in1.units0 ?_
      | (refine wpAny_bind (m := callSpecialIfBound? (.ref a) (Str.ofString "__eq__") [.ref b]) (wpAny_mono inner (fun r s' z => ?_) fun _ _ z => z)
         obtain ⟨k, H', er, I', q⟩ := z
         subst er
         repeat (first | exact ⟨k, H', rfl, I', q⟩ | exact wpAny_pure ⟨k, H', rfl, I', q⟩ | (refine wpAny_bind (m := truthy (.bool _)) (wpAny_truthy_bool ?_)) | wp_step))
      | wp_step)
  have obj : PySem.W.Looks (model X.prog X.w) s.heap (isInstance (.ref a) (.type "object")) true := J.type.andThen (PySem.W.looks_subIn Xk c.ob)
  have callNe : wpAny (model X.prog X.w) X.A (call (.builtin "object.__ne__") [.ref a, .ref b]) (fun r s' => ∃ k H', r = .bool (!k) ∧ Inv X pins σ H' s' ∧ Q (.bl (!k)) H') X.xe s := by
    refine wpAny_call (codeAny_call_builtin PySem.F.cmp_object.ne.plain PySem.F.cmpEntry_ne (PySem.W.check_slot PySem.F.cmpKind_ne PySem.F.cmpSplit_ne obj (arg_ne _ _) (wpAny_mono body (fun r s' z => ?_) fun _ _ z => z)))
    obtain ⟨k, H', er, I', q⟩ := z
    subst er
    exact ⟨k, H', rfl, I', q⟩
  have bound : wpAny (model X.prog X.w) X.A (callSpecialIfBound? (.ref a) "__ne__" [.ref b]) (fun r s' => ∃ k H', r = some (.bool (!k)) ∧ Inv X pins σ H' s' ∧ Q (.bl (!k)) H') X.xe s := by
    simp only [callSpecialIfBound?, bindSpecialIfBound?]
    refine wpAny_holding (wpAny_bind (wpAny_bind (wpAny_bind (J.type.here ((PySem.W.looks_findIn Xk c.ne).here ?_)))))
    simp only [PySem.F.cmp_object.ne.bind]
    refine wpAny_bind (wpAny_askSetting (wpAny_ite ?_))
    have fin : wpAny (model X.prog X.w) X.A (call (.builtin "object.__ne__") ([.ref a] ++ [.ref b]) >>= fun v => pure (some v)) (fun r s' => ∃ k H', r = some (.bool (!k)) ∧ Inv X pins σ H' s' ∧ Q (.bl (!k)) H') X.xe s :=
      wpAny_bind (wpAny_mono callNe (fun v s' z => by
        obtain ⟨k, H', er, I', q⟩ := z
        subst er
        exact wpAny_pure ⟨k, H', rfl, I', q⟩) fun _ _ z => z)
    split
    · exact wpAny_bind (wpAny_pure (wpAny_pure fin))
    · exact wpAny_tryCatch (wpAny_bind (wpAny_pure (wpAny_pure fin)))
  show wpAny _ _ (richCompare .NotEq _ _) _ _ _
  have one : wpAny (model X.prog X.w) X.A (tryCompare (.ref a) "__ne__" (.ref b)) (fun r s' => ∃ k H', r = some (.bool (!k)) ∧ Inv X pins σ H' s' ∧ Q (.bl (!k)) H') X.xe s := by
    unfold tryCompare
    refine wpAny_bind (wpAny_mono bound (fun r s' z => ?_) fun _ _ z => z)
    obtain ⟨k, H', er, I', q⟩ := z
    subst er
    exact wpAny_pure ⟨k, H', rfl, I', q⟩
  have fin : ∀ {r : Option Value} {s' : Shared}, (∃ k H', r = some (.bool (!k)) ∧ Inv X pins σ H' s' ∧ Q (.bl (!k)) H') → ∃ v, r = some v ∧ EP X pins σ Q v s' := fun {r s'} z => by
    obtain ⟨k, H', er, I', q⟩ := z
    exact ⟨_, er, .bl (!k), H', I', rfl, q⟩
  unfold richCompare
  simp only [oneThing_ref]
  refine wpAny_holding (wpAny_bind (wpAny_cRoomFor hr.units0 ?_))
  refine wpAny_bind (J.type.here (wpAny_bind (J'.type.here ?_)))
  split
  · rename_i q
    have e : PySem.W.subIn X.K (.ref D) (.ref C) = some false := by
      rcases Bool.or_eq_true_iff.mp hn with e | e
      · rw [beq_iff_eq.mp e] at q
        simp at q
      · exact beq_iff_eq.mp e
    refine wpAny_bind ((PySem.W.looks_subIn Xk e).here ?_)
    simp only [Bool.false_eq_true, if_false]
    refine wpAny_bind (wpAny_mono one (fun r s' z => ?_) fun _ _ e => e)
    obtain ⟨v, rfl, hq⟩ := fin z
    exact wpAny_pure hq
  · refine wpAny_bind (wpAny_pure ?_)
    simp only [Bool.false_eq_true, if_false]
    refine wpAny_bind (wpAny_mono one (fun r s' z => ?_) fun _ _ e => e)
    obtain ⟨v, rfl, hq⟩ := fin z
    exact wpAny_pure hq
end
end Ax
set_option maxHeartbeats 4000000
/-! for x in o, o an instance whose __iter__ is «return iter(self.f)», self.f a tuple. -/
namespace Ax
open PySem PySem.Spec PyProof.Rows L2
/-! ### a def run once, at a given state -/
section
variable {CX : CXT} {P : Program} {w : World} {K : PySem.W.Frag} {mg : Str → Option Value} {base : Heap} {k : Nat} {f : Addr} {name qual : Str} {params : Arguments} {body : List Stmt} {scope : Scope} {dV kV doc pm cdv ct oc : Value} {an od : Option Addr}
  {osl : Array (Option Value)} {N ps : List Str} {A : Around} {outer : List Env} {s : Shared} {H : Hp} {us : List Value} {vs : List V} {Q : VK} {E : XK}
theorem run_at (lk : K.lookup f = some ⟨oc, od, .func (PySem.W.fnOf name qual params body scope dV kV doc pm an cdv ct), osl⟩) (hcd : PySem.W.codeIn K cdv qual = true) (S : FnScope N ps scope) (hr : Room (k + 1) A)
    (e0 : Env0 P w K mg base A outer s H) (hb : BindsTo s (PySem.W.fnOf name qual params body scope dV kV doc pm an cdv ct) ⟨us, []⟩ (ps.zip us)) (hl : vs.length = ps.length) (r : Vals vs us)
    (hbody : Room k (A.deeper (envOfC qual scope s.heap.objs.size f cdv)) → ∃ t, PSs (cxOf CX P w K mg base N qual scope f cdv A outer s H E) body t ∧ t { nx := fun _ H' => Q .non H', rt := Q } (start N vs) H) :
    codeAny (model P w) A (.call (.ref f) ⟨us, []⟩) (CR CX outer P w H s Q E) s := by
  have kin : K.In s.heap := e0.mod.kin.keeps fun b o e => (e0.bs b o e).1
  have nolim : s.heap.NoLimit := e0.mod.nolimit.keeps fun b o e => (e0.bs b o e).1
  refine codeAny_call_function hr.depth (kin _ _ lk) rfl S.co S.gen rfl (PySem.W.codeRec_of kin hcd) (hb _ _ _ _ ?_)
  refine wpAny_newFunctionEnv_cells S.kind (fun y hy => ?_) fun env he s1 x => ?_
  · have hm : y.1 ∈ ps := (List.of_mem_zip hy).1
    cases S.par y.1 hm with
    | inl q => exact .inl q
    | inr q => exact .inr ⟨q, PySem.W.cellsFrom_some _ _ _ (.inl q)⟩
  subst he
  refine ⟨nolim.keeps x.toInCall.keep, codeAny_func ?_⟩
  obtain ⟨t, ht, hq⟩ := hbody (hr.deeper _)
  have I : Inv (cxOf CX P w K mg base N qual scope f cdv A outer s H E) [] (start N vs) H s1 := inv_start S hr.hd e0 hl r x
  refine wpAny_mono (ht.run [] s1 (start N vs) H _ I hq) (fun fl s' hs => ?_) fun _ _ z => z
  cases fl with
  | ret u =>
    obtain ⟨v, _, H', J, rv, q⟩ := hs
    exact ⟨v, H', J.os, J.bare, J.base, J.hok, rv, q⟩
  | next =>
    obtain ⟨_, H', J, q⟩ := hs
    exact ⟨.non, H', J.os, J.bare, J.base, J.hok, rfl, q⟩
  | brk =>
    obtain ⟨_, _, _, q⟩ := hs
    exact q.elim
  | cont =>
    obtain ⟨_, _, _, q⟩ := hs
    exact q.elim
end
/-! ### iter(t), t a tuple -/
/-- at it: an iterator over the tuple at t, at its beginning -/
def ItTup (t it : Addr) : HO := .ext fun h => h.IsTupleIter it t 0
theorem itTup_ok {P : Program} {w : World} {H : Hp} {h : Heap} {t it : Addr} (e : h.IsTupleIter it t 0) : ObjOk P w H h it (ItTup t it) := by
  obtain ⟨o, ho, hc, hd⟩ := id e
  exact ⟨e, ⟨o, ho⟩, fun h1 h2 x k => let ⟨o, ho, r⟩ := x; ⟨o, k o ho, r⟩⟩
def rIterT (K : PySem.W.Frag) (n : Nat) : List V → Hp → VK → Prop := fun xs H Q => ∃ (t : Addr) (zs : List V), xs = [.ref t] ∧ SqT K H t zs ∧ ∀ it, H it = Option.none → n ≤ it → Q (.ref it) (upd H it (ItTup t it))
theorem call_iterT {X : Cx} : CallR X (.builtin "iter") (rIterT X.K X.s_0.heap.objs.size) := by
  intro pins s σ H xs us Q I r h
  obtain ⟨t, zs, rfl, hq, q⟩ := h
  obtain ⟨u, rfl, ru⟩ := vals1 r
  obtain rfl : u = Value.ref t := ru
  obtain ⟨its, rv, p, hz⟩ := I.tuple hq
  refine Calls.call_function_entry (by decide +kernel) (by decide +kernel) PySem.W.kdk_entry_iter (PySem.W.kdk_args_iter _) ?_
  unfold Builtin.«iter»
  refine wpAny_bind (m := someArgs "iter" 1 2 _) (wpAny_of_eq (a := [Value.ref t]) (by first | rfl | kernel_rfl!) ?_)
  show wpAny _ _ (pyIter (.ref t) >>= _) _ _ _
  refine wpAny_bind (PyProof.Rows.iter_tuple (t := t) (items := its.toArray) p ?_)
  exact wpAny_pure ⟨_, rfl, .ref s.heap.objs.size, _, I.laid (t' := s.toks) (fun b u e => Heap.get?_push_of_some _ e) (Nat.le_refl _) (itTup_ok ⟨_, Heap.get?_push_size _ rfl, rfl, rfl⟩), rfl, q _ (I.hok.fresh (Nat.le_refl _)) I.sz⟩
/-! ### the walk -/
/-- C's __iter__ stands at f; its body is read so, wherever it runs -/
structure IterC (P : Program) (w : World) (K : PySem.W.Frag) (mg : Str → Option Value) (base : Heap) (C f : Addr) (fld : Str) : Prop where
  cl : Cls K C
  no : NoAttr K C fld
  it : PySem.W.findIn K (.ref C) "__iter__" = some (some (.ref f))
  fn : PySem.W.isFn K (.ref f) = true
  ex : ∃ (fd : FuncData) (name qual : Str) (params : Arguments) (body : List Stmt) (scope : Scope) (dV kV doc pm cdv ct oc : Value) (an od : Option Addr) (osl : Array (Option Value)),
    fd = PySem.W.fnOf name qual params body scope dV kV doc pm an cdv ct ∧ K.lookup f = some ⟨oc, od, .func fd, osl⟩ ∧ PySem.W.codeIn K cdv qual = true ∧ FnScope ["self"] ["self"] scope ∧
    (∀ (s : Shared) (u : Value), BindsTo s fd ⟨[u], []⟩ [("self", u)]) ∧
    ∀ (A : Around) (outer : List Env) (s : Shared) (H : Hp), PSs (cxOf CX0 P w K mg base ["self"] qual scope f cdv A outer s H E0) body (tRet (tCB (rIterT K s.heap.objs.size) (tCons (tFld K (tVar 0) fld) tNil)))
def iOwn (K : PySem.W.Frag) (C : Addr) (fld : Str) (to : TE) : TI := fun σ H R => to σ H fun x H1 => ∃ (a dx t : Addr) (fs : List (Str × V)), x = .ref a ∧ H1 a = some (.ins C dx fs) ∧ fs.lookup fld = some (.ref t) ∧ (∃ xs, SqT K H1 t xs) ∧ R (Itt K t) H1
section
variable {X : Cx} {o : Expr} {to : TE} {tg : Expr} {C f : Addr} {fld : Str}
theorem pi_own (he : PE X o to) (c : IterC X.prog X.w X.K X.mg X.base C f fld) (hr : Room 1 X.A) : PI X tg o (iOwn X.K C fld to) := by
  obtain ⟨fd, name, qual, params, body, scope, dV, kV, doc, pm, cdv, ct, oc, an, od, osl, rfl, lk, hcd, S, hb, hB⟩ := c.ex
  constructor
  intro pins s σ H R I h
  refine thn (he.run pins s σ H _ I h) fun u s1 got => ?_
  obtain ⟨x, H1, I1, rx, a, dx, t, fs, rfl, ha, hl, ⟨xs, hq⟩, q⟩ := got
  obtain rfl : u = Value.ref a := rx
  obtain ⟨mA, J, _⟩ := ins_get I1.hok ha
  obtain ⟨od', J, _⟩ := J.look
  obtain ⟨m, hF⟩ := I1.fr
  refine PySem.W.owit_iter hF I1.ok.mod.kin J c.it c.fn ?_
  have body_ : codeAny (model X.prog X.w) X.A (.call (.ref f) ⟨[.ref a], []⟩) (CR CX0 X.stack X.prog X.w H1 s1 (fun v H' => ∃ it, v = .ref it ∧ H' = upd H1 it (ItTup t it) ∧ H1 it = none ∧ s1.heap.objs.size ≤ it) E0) s1 := by
    refine run_at (k := 0) (us := [.ref a]) (vs := [V.ref a]) (ps := ["self"]) lk hcd S hr I1.env0 (hb _ _) rfl (.cons rfl .nil) (fun _ => ⟨_, hB X.A X.stack s1 H1, ?_⟩)
    refine ⟨_, rfl, a, C, dx, fs, _, rfl, ha, c.cl, c.no, hl, t, xs, rfl, hq, fun it hit hn => ?_⟩
    exact ⟨it, rfl, rfl, hit, hn⟩
  refine wpAny_call (codeAny_mono body_ fun rr s' hq' => ?_)
  cases rr with
  | error e => exact hq'.elim
  | ok fl =>
    cases fl with
    | next => exact hq'.elim
    | brk => exact hq'.elim
    | cont => exact hq'.elim
    | ret v =>
      obtain ⟨z, H', J', rz, it, ez, eH, hn, hsz⟩ := I1.after hq'
      subst ez
      subst eH
      obtain rfl : v = Value.ref it := rz
      have st : s'.heap.IsTupleIter it t 0 := (J'.hok it _ upd_same).1
      have K1 : Inv X pins σ H1 s' := by
        have z := ItX.inv_drop (φ := fun h => h.IsTupleIter it t 0) J' upd_same
        rw [ItX.dropH_upd hn] at z
        exact z
      unfold PySem.W.OwitIt
      obtain ⟨o', ho', hc', hd'⟩ := id st
      refine wpAny_specialOf (T := "tuple_iterator") ⟨o', ho', hc'⟩ PyProof.Rows.slot_tupleiter_next.lookup ?_
      refine ⟨it, [it], _, _, H1, rfl, K1, turn_tuple t it, st, fun b hb' => ?_, q⟩
      have e : b = it := by simpa using hb'
      rw [e]
      exact I1.fpOk hsz hn
end
end Ax
set_option maxHeartbeats 4000000
/-! Dicts whose keys are nested tuples. -/
namespace Ax
open PySem PySem.Spec PyProof.Rows L2
abbrev NK := NestedKey
mutual
def nkD : NK → PyData
  | .none => .none
  | .num i => .int i
  | .text x => .str x
  | .tup ks => .tuple (nkDs ks)
def nkDs : List NK → List PyData
  | [] => []
  | k :: ks => nkD k :: nkDs ks
end
mutual
theorem dp_ext {K : PySem.W.Frag} {H H' : Hp} (x : ∀ a o, H a = some o → H' a = some o) : ∀ {v : V} {d : PyData}, Dp K H v d → Dp K H' v d
  | _, _, .non => .non
  | _, _, .bl b => .bl b
  | _, _, .int i => .int i
  | _, _, .str s => .str s
  | _, _, .lst h g => .lst (h.ext x) (dpAll_ext x g)
  | _, _, .tup h g => .tup (h.ext x) (dpAll_ext x g)
theorem dpAll_ext {K : PySem.W.Frag} {H H' : Hp} (x : ∀ a o, H a = some o → H' a = some o) : ∀ {vs : List V} {ds : List PyData}, DpAll K H vs ds → DpAll K H' vs ds
  | _, _, .nil => .nil
  | _, _, .cons h g => .cons (dp_ext x h) (dpAll_ext x g)
end
section
variable {X : Cx} {pins : List (Addr × Obj)} {σ : L2.St} {H : Hp} {s : Shared}
mutual
theorem nested_is (I : Inv X pins σ H s) : ∀ (k : NK) (v : V) (u : Value), Dp X.K H v (nkD k) → RelV v u → NestedIs s.heap k u
  | .none, v, u, h, r => by
    cases h
    obtain rfl : u = .none := r
    exact .none
  | .num i, v, u, h, r => by
    cases h
    obtain ⟨t, rfl⟩ := r
    exact .int i t
  | .text x, v, u, h, r => by
    cases h
    obtain ⟨t, rfl⟩ := r
    exact .text x t
  | .tup ks, v, u, h, r => by
    cases h with
    | @tup a xs _ hs ha =>
      obtain rfl : u = .ref a := r
      obtain ⟨its, hv, ht, _⟩ := I.tuple hs
      obtain ⟨o, h1, h2, h3⟩ := ht
      obtain ⟨n, h3⟩ := h3
      exact .tup h1 h2 h3 (by
        have := nested_all I ks xs its ha hv
        simpa using this)
theorem nested_all (I : Inv X pins σ H s) : ∀ (ks : List NK) (vs : List V) (us : List Value), DpAll X.K H vs (nkDs ks) → Vals vs us → NestedAll s.heap ks us
  | [], vs, us, h, r => by
    cases h
    cases r
    exact .nil
  | k :: ks, vs, us, h, r => by
    cases h with
    | cons h1 h2 =>
      cases r with
      | cons r1 r2 => exact .cons (nested_is I k _ _ h1 r1) (nested_all I ks _ _ h2 r2)
end
/-- what stands in such a dict: key, where the key's tuple stands, value -/
abbrev Kvs := List (NK × Addr × V)
def getN (kvs : Kvs) (k : NK) : Option V := (kvs.find? fun p => decide (p.1 = k)).map fun p => p.2.2
def putN (kvs : Kvs) (k : NK) (a : Addr) (v : V) : Kvs := if (getN kvs k).isSome = true then kvs.map fun p => if p.1 = k then (p.1, p.2.1, v) else p else kvs ++ [(k, a, v)]
def KvR (p : NK × Addr × V) (q : NK × Addr × Value) : Prop := p.1 = q.1 ∧ p.2.1 = q.2.1 ∧ RelV p.2.2 q.2.2
def NdO (P : Program) (w : World) (a : Addr) (kvs : Kvs) : HO := .ext fun h => kvs.length ≤ sizeLine ∧ (a == sysModules) = false ∧ ∃ xs : List (NK × Addr × Value), Paired KvR kvs xs ∧ ∃ o es ep, h.get? a = some o ∧ o.ExactDict ∧ o.data = .dict es ep ∧ es.toList = xs.map (entryOfKey (nestedKind P w)) ∧ (xs.map fun x => x.1).Nodup
structure NdAt (K : PySem.W.Frag) (P : Program) (w : World) (H : Hp) (a : Addr) (kvs : Kvs) : Prop where
  at_ : Rd H a (NdO P w a kvs)
  keys : ∀ p ∈ kvs, Dp K H (.ref p.2.1) (nkD p.1) ∧ p.1.depth ≤ 8
theorem NdAt.ext {K : PySem.W.Frag} {P : Program} {w : World} {H H' : Hp} {a : Addr} {kvs : Kvs} (h : NdAt K P w H a kvs) (x : ∀ a o, H a = some o → H' a = some o) : NdAt K P w H' a kvs := ⟨h.at_.elim (fun q => .inl (x _ _ q)) (fun ⟨o, q⟩ => .inr ⟨o, x _ _ q⟩), fun p hp => ⟨dp_ext x (h.keys p hp).1, (h.keys p hp).2⟩⟩
theorem ndO_ok {P : Program} {w : World} {H : Hp} {h : Heap} {a : Addr} {kvs : Kvs} {xs : List (NK × Addr × Value)} (hl : kvs.length ≤ sizeLine) (hm : (a == sysModules) = false) (hp : Paired KvR kvs xs) (hd : Heap.DictOfH (nestedKind P w) h a xs) : ObjOk P w H h a (NdO P w a kvs) := by
  obtain ⟨o, es, ep, h1, h2, h3, h4, h5, h6⟩ := hd
  refine ⟨⟨hl, hm, xs, hp, o, es, ep, h1, h2, h3, h4, h6⟩, ⟨o, h1⟩, ?_⟩
  rintro g1 g2 ⟨a1, a2, ys, a3, o', es', ep', b1, b2, b3, b4, b5⟩ k
  exact ⟨a1, a2, ys, a3, o', es', ep', k _ b1, b2, b3, b4, b5⟩
theorem kvr_get : ∀ {kvs : Kvs} {xs : List (NK × Addr × Value)}, Paired KvR kvs xs → ∀ k, (getN kvs k = none ∧ atKey xs k = none) ∨ ∃ v a u, getN kvs k = some v ∧ atKey xs k = some (a, u) ∧ RelV v u
  | _, _, .nil, k => .inl ⟨rfl, rfl⟩
  | _, _, .cons (a := p) (b := q) (l₁ := l1) (l₂ := l2) h r, k => by
    obtain ⟨e1, e2, rv⟩ := h
    by_cases c : p.1 = k
    · refine .inr ⟨p.2.2, q.2.1, q.2.2, ?_, ?_, rv⟩
      · unfold getN
        rw [List.find?_cons_of_pos (by simpa using c)]
        rfl
      · unfold atKey
        rw [List.find?_cons_of_pos (by rw [← e1]; simpa using c)]
        rfl
    · have g1 : getN (p :: l1) k = getN l1 k := by
        unfold getN
        rw [List.find?_cons_of_neg (by simpa using c)]
      have g2 : atKey (q :: l2) k = atKey l2 k := by
        unfold atKey
        rw [List.find?_cons_of_neg (by rw [← e1]; simpa using c)]
      rw [g1, g2]
      exact kvr_get r k
theorem kvr_len : ∀ {kvs : Kvs} {xs : List (NK × Addr × Value)}, Paired KvR kvs xs → kvs.length = xs.length
  | _, _, .nil => rfl
  | _, _, .cons _ r => congrArg (· + 1) (kvr_len r)
theorem kvr_snoc : ∀ {kvs : Kvs} {xs : List (NK × Addr × Value)} {p : NK × Addr × V} {q : NK × Addr × Value}, Paired KvR kvs xs → KvR p q → Paired KvR (kvs ++ [p]) (xs ++ [q])
  | _, _, _, _, .nil, h => .cons h .nil
  | _, _, _, _, .cons g r, h => .cons g (kvr_snoc r h)
theorem kvr_map : ∀ {kvs : Kvs} {xs : List (NK × Addr × Value)} {k : NK} {v : V} {u : Value}, Paired KvR kvs xs → RelV v u → Paired KvR (kvs.map fun p => if p.1 = k then (p.1, p.2.1, v) else p) (xs.map (putAt k u))
  | _, _, _, _, _, .nil, _ => .nil
  | _, _, k, v, u, .cons (a := p) (b := q) h r, rv => by
    refine .cons ?_ (kvr_map r rv)
    obtain ⟨e1, e2, e3⟩ := h
    unfold putAt
    dsimp only
    by_cases c : p.1 = k
    · rw [if_pos c, if_pos (e1 ▸ c)]
      exact ⟨e1, e2, rv⟩
    · rw [if_neg c, if_neg (e1 ▸ c)]
      exact ⟨e1, e2, e3⟩
theorem kvr_put {kvs : Kvs} {xs : List (NK × Addr × Value)} {k : NK} {a : Addr} {v : V} {u : Value} (h : Paired KvR kvs xs) (rv : RelV v u) : Paired KvR (putN kvs k a v) (storedH xs k a u) := by
  unfold putN storedH
  rcases kvr_get h k with ⟨e1, e2⟩ | ⟨v1, a1, u1, e1, e2, _⟩
  · rw [e1, e2]
    exact kvr_snoc h ⟨rfl, rfl, rv⟩
  · rw [e1, e2]
    exact kvr_map h rv
theorem putN_len (kvs : Kvs) (k : NK) (a : Addr) (v : V) : (putN kvs k a v).length ≤ kvs.length + 1 := by
  unfold putN
  split
  · rw [List.length_map]; omega
  · rw [List.length_append]; exact Nat.le_refl _
theorem putN_keys {kvs : Kvs} {k : NK} {a : Addr} {v : V} {G : NK × Addr → Prop} (h : ∀ p ∈ kvs, G (p.1, p.2.1)) (hk : G (k, a)) : ∀ p ∈ putN kvs k a v, G (p.1, p.2.1) := by
  intro p hp
  unfold putN at hp
  split at hp
  · obtain ⟨q, hq, e⟩ := List.mem_map.mp hp
    have := h q hq
    split at e
    · rw [← e]; exact this
    · rw [← e]; exact this
  · rcases List.mem_append.mp hp with z | z
    · exact h p z
    · rw [List.mem_singleton.mp z]; exact hk
theorem NdAt.tab (I : Inv X pins σ H s) {a : Addr} {kvs : Kvs} (n : NdAt X.K X.prog X.w H a kvs) : kvs.length ≤ sizeLine ∧ (a == sysModules) = false ∧ ∃ xs, Paired KvR kvs xs ∧ Heap.DictOfH (nestedKind X.prog X.w) s.heap a xs := by
  obtain ⟨hl, hm, xs, hp, o, es, ep, h1, h2, h3, h4, h5⟩ := (n.at_.ok I.hok).1
  refine ⟨hl, hm, xs, hp, o, es, ep, h1, h2, h3, h4, ?_, h5⟩
  have key : ∀ {kvs : Kvs} {xs : List (NK × Addr × Value)}, Paired KvR kvs xs → (∀ p ∈ kvs, Dp X.K H (.ref p.2.1) (nkD p.1) ∧ p.1.depth ≤ 8) → ∀ x ∈ xs, (nestedKind X.prog X.w).is s.heap x.1 x.2.1 := by
    intro kvs xs hp
    induction hp with
    | nil => intro _ x hx; cases hx
    | @cons p q l1 l2 g r ih =>
      intro hk x hx
      rcases List.mem_cons.mp hx with z | z
      · rw [z]
        obtain ⟨e1, e2, _⟩ := g
        obtain ⟨d1, d2⟩ := hk p List.mem_cons_self
        rw [← e1, ← e2]
        exact ⟨nested_is I _ _ _ d1 rfl, d2⟩
      · exact ih (fun p hp => hk p (List.mem_cons_of_mem _ hp)) x z
  exact key hp n.keys
theorem nk_room {A : Around} {P : Program} {w : World} (h : A.units + 64 < cLine) : (nestedKind P w).room A.in1 := by
  show A.units + 1 + 8 < cLine
  omega
/-! ### k in d, k not in d -/
def rInN (K : PySem.W.Frag) (P : Program) (w : World) (neg : Bool) : R2 := fun x y H Q => ∃ (t a : Addr) (k : NK) (kvs : Kvs), x = .ref t ∧ y = .ref a ∧ Dp K H (.ref t) (nkD k) ∧ k.depth ≤ 8 ∧ NdAt K P w H a kvs ∧ Q (.bl (if neg then !(getN kvs k).isSome else (getN kvs k).isSome)) H
theorem op_inN (hu : X.A.units + 64 < cLine) : OpR X (compareOp .In) (rInN X.K X.prog X.w false) := by
  intro pins s σ H x y v u Q I rx ry h
  obtain ⟨t, a, k, kvs, rfl, rfl, hk, hd, hn, q⟩ := h
  obtain rfl : v = .ref t := rx
  obtain rfl : u = .ref a := ry
  obtain ⟨hl, hm, xs, hp, ho⟩ := hn.tab I
  refine wpAny_in_heap (nk_room hu) ⟨nested_is I k _ _ hk rfl, hd⟩ hm ho ?_
  refine ⟨.bl (atKey xs k).isSome, H, I.tok _, rfl, ?_⟩
  rcases kvr_get hp k with ⟨e1, e2⟩ | ⟨_, _, _, e1, e2, _⟩
  · rw [e2]
    rw [e1] at q
    exact q
  · rw [e2]
    rw [e1] at q
    exact q
theorem op_notInN (hu : X.A.units + 64 < cLine) : OpR X (compareOp .NotIn) (rInN X.K X.prog X.w true) := by
  intro pins s σ H x y v u Q I rx ry h
  obtain ⟨t, a, k, kvs, rfl, rfl, hk, hd, hn, q⟩ := h
  obtain rfl : v = .ref t := rx
  obtain rfl : u = .ref a := ry
  obtain ⟨hl, hm, xs, hp, ho⟩ := hn.tab I
  refine wpAny_notIn_heap (nk_room hu) ⟨nested_is I k _ _ hk rfl, hd⟩ hm ho ?_
  refine ⟨.bl (!(atKey xs k).isSome), H, I.tok _, rfl, ?_⟩
  rcases kvr_get hp k with ⟨e1, e2⟩ | ⟨_, _, _, e1, e2, _⟩
  · rw [e2]
    rw [e1] at q
    exact q
  · rw [e2]
    rw [e1] at q
    exact q
/-! ### d[k] -/
def rIxN (K : PySem.W.Frag) (P : Program) (w : World) : R2 := fun x y H Q => ∃ (a t : Addr) (k : NK) (kvs : Kvs) (v : V), x = .ref a ∧ y = .ref t ∧ Dp K H (.ref t) (nkD k) ∧ k.depth ≤ 8 ∧ NdAt K P w H a kvs ∧ getN kvs k = some v ∧ Q v H
theorem ix_nd (hu : X.A.units + 64 < cLine) : IxR X (rIxN X.K X.prog X.w) := by
  intro value slice pins s σ H x y v u Q I rx ry h hsub
  obtain ⟨a, t, k, kvs, v1, rfl, rfl, hk, hd, hn, hg, q⟩ := h
  obtain rfl : v = .ref a := rx
  obtain rfl : u = .ref t := ry
  obtain ⟨hl, hm, xs, hp, ho⟩ := hn.tab I
  rcases kvr_get hp k with ⟨e1, e2⟩ | ⟨w1, a1, u1, e1, e2, rv⟩
  · rw [hg] at e1; cases e1
  · rw [hg] at e1
    cases Option.some.inj e1
    refine subscriptTail_builtinR (x := u1) (T := "dict") (id := "dict.__getitem__") ho.typeIs (by kernel_rfl) (wpAny_getItem_heap (knd := nestedKind X.prog X.w) (nk_room hu) ⟨nested_is I k _ _ hk rfl, hd⟩ ho e2 ⟨rfl, v1, H, I.tok _, rv, q⟩) hsub
/-! ### d.get(k), d.get(k, x) -/
def rGetN (K : PySem.W.Frag) (P : Program) (w : World) : V → List V → Hp → VK → Prop := fun x xs H Q => ∃ (a t : Addr) (k : NK) (kvs : Kvs), x = .ref a ∧ xs = [.ref t] ∧ Dp K H (.ref t) (nkD k) ∧ k.depth ≤ 8 ∧ NdAt K P w H a kvs ∧ Q ((getN kvs k).getD .non) H
theorem mt_getN (hu : X.A.units + 64 < cLine) : MtR X "dict.get" (rGetN X.K X.prog X.w) := by
  intro pins s σ H x xs v us Q I rx rs h
  obtain ⟨a, t, k, kvs, rfl, rfl, hk, hd, hn, q⟩ := h
  obtain rfl : v = .ref a := rx
  obtain ⟨u, rfl, ru⟩ := vals1 rs
  obtain rfl : u = .ref t := ru
  obtain ⟨hl, hm, ys, hp, ho⟩ := hn.tab I
  refine get_keyed (knd := nestedKind X.prog X.w) (nk_room hu) ⟨nested_is I k _ _ hk rfl, hd⟩ hm ⟨ys, ho, rfl⟩ ?_
  rw [valueAt_pairsH]
  rcases kvr_get hp k with ⟨e1, e2⟩ | ⟨w1, a1, u1, e1, e2, rv⟩
  · rw [e2]
    rw [e1] at q
    exact ⟨.non, H, I.tok _, rfl, q⟩
  · rw [e2]
    rw [e1] at q
    exact ⟨w1, H, I.tok _, rv, q⟩
def rGetN2 (K : PySem.W.Frag) (P : Program) (w : World) : V → List V → Hp → VK → Prop := fun x xs H Q => ∃ (a t : Addr) (k : NK) (kvs : Kvs) (z : V), x = .ref a ∧ xs = [.ref t, z] ∧ Dp K H (.ref t) (nkD k) ∧ k.depth ≤ 8 ∧ NdAt K P w H a kvs ∧ Q ((getN kvs k).getD z) H
theorem mt_getN2 (hu : X.A.units + 64 < cLine) : MtR X "dict.get" (rGetN2 X.K X.prog X.w) := by
  intro pins s σ H x xs v us Q I rx rs h
  obtain ⟨a, t, k, kvs, z, rfl, rfl, hk, hd, hn, q⟩ := h
  obtain rfl : v = .ref a := rx
  cases rs with
  | @cons _ u _ us2 ru rs2 =>
    obtain ⟨uz, rfl, rz⟩ := vals1 rs2
    obtain rfl : u = .ref t := ru
    obtain ⟨hl, hm, ys, hp, ho⟩ := hn.tab I
    refine getOr_keyed (knd := nestedKind X.prog X.w) (nk_room hu) ⟨nested_is I k _ _ hk rfl, hd⟩ hm ⟨ys, ho, rfl⟩ ?_
    rw [valueAt_pairsH]
    rcases kvr_get hp k with ⟨e1, e2⟩ | ⟨w1, a1, u1, e1, e2, rv⟩
    · rw [e2]
      rw [e1] at q
      exact ⟨z, H, I.tok _, rz, q⟩
    · rw [e2]
      rw [e1] at q
      exact ⟨w1, H, I.tok _, rv, q⟩
/-! ### {} -/
theorem pe_dnewN {pos : Pos} : PE X (.Dict [] [] pos) (fun _ H Q => ∀ p, H p = none → Q (.ref p) (upd H p (NdO X.prog X.w p []))) := by
  constructor
  intro pins s σ H Q I h
  refine wpAny_mono ((pe_dnewK (X := X) (pos := pos)).run pins s σ H (fun v H' => ∃ p, v = .ref p ∧ H p = none ∧ H' = upd H p (.dK [])) I fun p hp => ⟨p, rfl, hp, rfl⟩) (fun u s' got => ?_) fun _ _ z => z
  obtain ⟨v, H', I', rv, p, rfl, hp, rfl⟩ := got
  have ob := I'.hok p _ upd_same
  obtain ⟨_, hm, vs, hv, o, es, ep, h1, h2, h3, h4⟩ := ob
  cases hv
  have he : es.toList = [] := by
    obtain ⟨_, z, _⟩ := h4
    generalize es.toList = l at z ⊢
    cases z
    rfl
  have hu2 : upd (upd H p (.dK [])) p (NdO X.prog X.w p []) = upd H p (NdO X.prog X.w p []) := funext fun a => by
    by_cases c : a = p
    · rw [c, upd_same, upd_same]
    · rw [upd_ne c, upd_ne c, upd_ne c]
  have J := d_write (ob := NdO X.prog X.w p []) (t' := s'.toks) I' (by rw [upd_same]; exact trivial) ⟨rfl, fun _ _ => rfl⟩ ⟨_, h1⟩ (ndO_ok (xs := []) (Nat.zero_le _) hm .nil ⟨o, es, ep, h1, h2, h3, by rw [he]; rfl, (by intro x hx; cases hx), List.nodup_nil⟩)
  rw [hu2] at J
  exact ⟨.ref p, _, J, rv, h p hp⟩
/-! ### d[k] = v -/
def rSetN (K : PySem.W.Frag) (P : Program) (w : World) : TSet := fun o i v H Q => ∃ (a t : Addr) (k : NK) (kvs : Kvs), o = .ref a ∧ i = .ref t ∧ Dp K H (.ref t) (nkD k) ∧ k.depth ≤ 8 ∧ NdAt K P w H a kvs ∧ H a = some (NdO P w a kvs) ∧ kvs.length < sizeLine ∧ Q (upd H a (NdO P w a (putN kvs k t v)))
theorem set_nd (hu : X.A.units + 64 < cLine) : PSet X (rSetN X.K X.prog X.w) := by
  intro pins s σ H o i v ov iv u Q I ro ri rv h
  obtain ⟨a, t, k, kvs, rfl, rfl, hk, hd, hn, hat, hlt, q⟩ := h
  obtain rfl : ov = .ref a := ro
  obtain rfl : iv = .ref t := ri
  obtain ⟨hl, hm, xs, hp, ho⟩ := hn.tab I
  have hxl : xs.length ≤ sizeLine := by rw [← kvr_len hp]; exact hl
  refine wpAny_setItem_heap (knd := nestedKind X.prog X.w) (nk_room hu) ⟨nested_is I k _ _ hk rfl, hd⟩ ho (fun h' hd' hsame => ?_) hxl
  have hp' := kvr_put (k := k) (a := t) hp rv
  have hlen := putN_len kvs k t v
  obtain ⟨o', es', ep', z1, _⟩ := id hd'
  refine ⟨_, d_write (ob := NdO X.prog X.w a (putN kvs k t v)) I (by rw [hat]; exact trivial) hsame ⟨_, z1⟩ (ndO_ok (by omega) hm hp' hd'), q⟩
end
end Ax
set_option maxHeartbeats 4000000
/-! len(d) of a dict with nested tuples as keys; the walk over its keys, the dict locked. -/
namespace Ax
open PySem PySem.Spec PyProof.Rows L2
section
variable {X : Cx}
def rLenN (K : PySem.W.Frag) (P : Program) (w : World) : List V → Hp → VK → Prop := fun xs H Q => ∃ (a : Addr) (kvs : Kvs), xs = [.ref a] ∧ NdAt K P w H a kvs ∧ Q (.int ((kvs.length : Nat) : Int)) H
theorem call_lenN : CallR X (.builtin "len") (rLenN X.K X.prog X.w) := by
  intro pins s σ H xs us Q I r h
  obtain ⟨p, kvs, rfl, hn, q⟩ := h
  obtain ⟨u, rfl, rx⟩ := vals1 r
  obtain rfl : u = .ref p := rx
  obtain ⟨hl, hm, ys, hp, ho⟩ := hn.tab I
  have e := kvr_len hp
  refine call_len_dictH hm ho (by rw [← e]; rw [sizeLine_eq] at hl; omega) ?_
  rw [← e]
  exact ⟨.int ((kvs.length : Nat) : Int), H, I.tok _, ⟨_, rfl⟩, q⟩
end
theorem kvr_at : ∀ {kvs : Kvs} {xs : List (NK × Addr × Value)}, Paired KvR kvs xs → ∀ {i : Nat} {p : NK × Addr × V}, kvs[i]? = some p → ∃ q, xs[i]? = some q ∧ KvR p q
  | _, _, .nil, i, p, e => by simp at e
  | _, _, .cons (a := a) (b := b) r t, i, p, e => by
    cases i with
    | zero =>
      simp only [List.getElem?_cons_zero, Option.some.injEq] at e
      subst e
      exact ⟨b, rfl, r⟩
    | succ j =>
      simp only [List.getElem?_cons_succ] at e ⊢
      exact kvr_at t e
section
variable {X : Cx} {pins : List (Addr × Obj)} {σ : L2.St} {H : Hp} {s : Shared} {d : Addr} {o : Obj}
theorem frzN {kvs : Kvs} (I : Inv X pins σ H s) (h : H d = some (.frz o (NdO X.prog X.w d kvs))) :
    (d == sysModules) = false ∧ s.heap.get? d = some o ∧ o.ExactDict ∧ ∃ (es : Array DictEntry) (ep : Nat), o.data = .dict es ep ∧ es.size = kvs.length ∧
      ∀ (i : Nat) (p : NK × Addr × V), kvs[i]? = some p → ∃ en : DictEntry, es[i]? = some en ∧ en.key = .ref p.2.1 := by
  obtain ⟨hd, ⟨hl, hs, xs, pr, o', es, ep, ho, hx, hdt, he, _⟩, _⟩ := I.hok d _ h
  rw [hd] at ho
  cases ho
  refine ⟨hs, hd, hx, es, ep, hdt, ?_, fun i p e => ?_⟩
  · have l1 : es.size = xs.length := size_of_entries he
    have l2 := kvr_len pr
    omega
  · obtain ⟨b, hb, e1, e2, _⟩ := kvr_at pr e
    have q := entry_at he i
    rw [hb] at q
    exact ⟨_, q, by rw [e2]; rfl⟩
end
/-- the keys of the locked dict at d, each the tuple that stands in it -/
def Itn (P : Program) (w : World) (d : Addr) (o : Obj) (kvs : Kvs) : It :=
  ⟨fun i H => H d = some (.frz o (NdO P w d kvs)) ∧ i < kvs.length, fun i H x H' => H' = H ∧ ∃ p, kvs[i]? = some p ∧ x = .ref p.2.1, fun i H => H d = some (.frz o (NdO P w d kvs)) ∧ kvs.length ≤ i⟩
section
variable {P : Program} {w : World} {K : PySem.W.Frag} {tg : Expr} {d : Addr} {o : Obj} {es : Array DictEntry} {ep : Nat}
theorem turn_keysN {kvs : Kvs} (it : Addr) (hod : o.data = .dict es ep) : Turn P w K tg (Itn P w d o kvs) [it] it (fun i h => h.IsKeyIter it d i kvs.length ep) where
  mem := by simp
  obj := fun i h st b hb => by
    have e : b = it := by simpa using hb
    subst e
    obtain ⟨oi, e, c, dd⟩ := st
    exact ⟨oi, e, fun v z => by rw [dd] at z; cases z⟩
  keep := fun i h h' st k => st.at fun oi e => k it (by simp) oi e
  item := by
    intro X hP hw hK hc i pins s σ H E I hf st hg
    subst hP hw hK
    obtain ⟨hd, hi⟩ := hg
    obtain ⟨f0, f1, f2, f3, f4, f5⟩ := hf it (by simp)
    obtain ⟨hs, hgd, hx, es', ep', hdt, hsz, ent⟩ := frzN I hd
    obtain ⟨rfl, rfl⟩ := dict_ep hod hdt
    obtain ⟨p, hkv⟩ : ∃ p, kvs[i]? = some p := ⟨kvs[i], List.getElem?_eq_getElem hi⟩
    obtain ⟨en, hen, hkey⟩ := ent i p hkv
    refine next_key_item st hgd hdt hsz hen fun h' st' sb => ?_
    have I1 : Inv X pins σ H { s with heap := h' } := I.turned (t' := s.toks) (fun b ob hb e => (sb.2 b hb).trans e) f0 f1 f3 f4 f5
    obtain ⟨oi, e, c, dd⟩ := id st'
    exact ⟨en.key, rfl, go_of (s := { s with heap := h' }) e c dd (by decide) ⟨.ref p.2.1, H, I1, hkey, ⟨rfl, p, hkv, rfl⟩, st', fun b hb => (hf b hb).1⟩⟩
  done := by
    intro X hP hw hK hc i pins s σ H E I hf st hg
    subst hP hw hK
    obtain ⟨hd, hi⟩ := hg
    obtain ⟨f0, f1, f2, f3, f4, f5⟩ := hf it (by simp)
    obtain ⟨hs, hgd, hx, es', ep', hdt, hsz, ent⟩ := frzN I hd
    obtain ⟨rfl, rfl⟩ := dict_ep hod hdt
    exact next_key_end (I.ok.hd hc) st hgd hdt hsz hi fun h' eb => ⟨rfl, I.turned (t' := s.toks) (fun b ob hb e => eb b ob hb e) f0 f1 f3 f4 f5⟩
  self := fun A i s Q E st h => by
    refine wpAny_pyIter_slot st.typeIs F.slot_dict_keyiterator_iter (wpAny_call_entry F.slot_dict_keyiterator_iter st.typeIs F.entry_dict_keyiterator_iter ?_ (F.args_dict_keyiterator_iter_1 _))
    show wpAny _ _ (ret (.ref it)) _ _ s
    exact wpAny_pure ⟨_, rfl, "dict_keyiterator", _, st.typeIs, F.slot_dict_keyiterator_next.lookup, h⟩
end
def iKeysN (P : Program) (w : World) (td : TE) : TI := fun σ H R => td σ H fun x H1 => ∃ d o kvs, x = .ref d ∧ H1 d = some (.frz o (NdO P w d kvs)) ∧ R (Itn P w d o kvs) H1
theorem pi_keysN {X : Cx} {tg e : Expr} {td : TE} (he : PE X e td) : PI X tg e (iKeysN X.prog X.w td) := by
  refine ⟨fun pins s σ H R I h => ?_⟩
  refine thn (he.run pins s σ H _ I h) fun u s1 ⟨x, H1, I1, rx, d, o, kvs, ex, hd, q⟩ => ?_
  subst ex
  obtain rfl : u = Value.ref d := rx
  obtain ⟨hs, hgd, hx, es, ep, hdt, hsz, ent⟩ := frzN I1 hd
  refine iter_keys hs hgd hx hdt (pi_one (tk := s1.toks) I1 _ (turn_keysN _ hdt) ⟨_, Heap.get?_push_size _ rfl, rfl, ?_⟩ q)
  rw [hsz] <;> rfl
end Ax
set_option maxHeartbeats 4000000
/-! sorted of a list of data, any data that compare. -/
namespace Ax
open PySem PySem.Spec PyProof.Rows L2
abbrev VD := V × PyData
def srtD (L : List VD) : List VD := L.mergeSort (PySem.W.dataLe false Prod.snd)
def rSortedD (K : PySem.W.Frag) : List V → Hp → VK → Prop := fun vs H Q => ∃ (a : Addr) (L : List VD), vs = [V.ref a] ∧ SqL K H a (L.map (·.1)) ∧ (∀ p ∈ L, Dp K H p.1 p.2) ∧ PySem.W.AllAlike (L.map (·.2)) ∧ PySem.W.Sortable (L.map (·.2)) ∧ (∀ p ∈ L, p.2.depth ≤ 8) ∧
  ∀ p, H p = none → Q (.ref p) (upd H p (.lst ((srtD L).map (·.1))))
theorem each_vals : ∀ {us : List Value} {L : List VD}, PySem.W.EachIs (fun u (p : VD) => RelV p.1 u) us L → Vals (L.map (·.1)) us
  | _, _, .nil => .nil
  | _, _, .cons h t => .cons h (each_vals t)
theorem vals_each : ∀ {us : List Value} {L : List VD}, Vals (L.map (·.1)) us → PySem.W.EachIs (fun u (p : VD) => RelV p.1 u) us L
  | [], [], _ => .nil
  | _, _ :: _, .cons h t => .cons h (vals_each t)
section
variable {X : Cx}
theorem dp_each {pins : List (Addr × Obj)} {σ : L2.St} {H : Hp} {s : Shared} (I : Inv X pins σ H s) : ∀ {us : List Value} {L : List VD}, PySem.W.EachIs (fun u (p : VD) => RelV p.1 u) us L → (∀ p ∈ L, Dp X.K H p.1 p.2) → PySem.W.EachIs (fun u (p : VD) => ∃ as, Reads s.heap u p.2 as) us L
  | _, _, .nil, _ => .nil
  | _, _, .cons h t, k => .cons (Dp.reads I _ _ _ (k _ List.mem_cons_self) h) (dp_each I t fun p hp => k p (List.mem_cons_of_mem _ hp))
theorem cr_sortedD (hu : X.A.units + 64 < cLine) : CallR X (.builtin "sorted") (rSortedD X.K) := by
  intro pins s σ H vs us Q I r h
  obtain ⟨a, L, rfl, hs, hd, hal, hk, hdep, q⟩ := h
  obtain ⟨its, rv, hl, hz⟩ := I.list hs
  obtain ⟨u, rfl, ru⟩ := vals1 r
  obtain rfl : u = Value.ref a := ru
  have hR := vals_each rv
  have hlen := hR.length
  refine PySem.W.sorted_data (vs := its) (bs := L) (enc := Prod.snd) (R := fun u (p : VD) => RelV p.1 u) hl.isList hR (dp_each I hR hd) hal hk (by rw [List.length_map] at hz; exact hz) (fun b hb => ?_) fun out ho hO => ?_
  · have := hdep b hb
    omega
  · have hv := each_vals hO
    obtain ⟨n, hn⟩ := sortedAll_at s.heap its (List.toArray out)
    have hz2 : L.length ≤ sizeLine := by simpa using hz
    refine ⟨.ref (s.heap.objs.size + 1), upd H _ (.lst ((srtD L).map (·.1))), I.laid (t' := s.toks) (fun b o e => sortedAll_old e) (Nat.le_succ _) ⟨?_, out, n, hv, hn⟩, rfl, q _ (I.hok.fresh (Nat.le_succ _))⟩
    rw [List.length_map, srtD, List.length_mergeSort]
    exact hz2
end
end Ax
set_option maxHeartbeats 4000000
/-! Dict comprehensions whose keys are nested tuples. -/
namespace Ax
open PySem PySem.Spec PyProof.Rows L2
def tDcN (K : PySem.W.Frag) (P : Program) (w : World) (wi : TI) (g : TG) (tt : TT) (tk tv : TE) (vs : List Nat) : TE := fun σ H Q => wi σ H fun J H1 => ∀ D, H1 D = none → ∃ W : Nat → Nat → Hp → Prop, (∃ m, W 0 m (upd H1 D (NdO P w D []))) ∧ ∀ i m H, W i m H →
  (J.stop i H ∧ Q (.ref D) H) ∨ (J.go i H ∧ ∃ Nx : Hp → Prop, (∀ H', Nx H' → ∃ m', m' < m ∧ W (i + 1) m' H') ∧ ∀ x H', J.yld i H x H' → g x (wipe σ vs) H' fun σ2 H2 => wipe σ2 vs = wipe σ vs ∧ tt σ2 H2 fun b H3 =>
    if b = true then tk σ2 H3 fun y H4 => tv σ2 H4 fun z H5 => ∃ (t : Addr) (k : NK) (kvs : Kvs), y = .ref t ∧ Dp K H5 (.ref t) (nkD k) ∧ k.depth ≤ 8 ∧ NdAt K P w H5 D kvs ∧ H5 D = some (NdO P w D kvs) ∧ kvs.length < sizeLine ∧ Nx (upd H5 D (NdO P w D (putN kvs k t z))) else Nx H3)
theorem wipe_cons (σ : L2.St) (i : Nat) (vs : List Nat) : wipe σ (i :: vs) = (wipe σ vs).set i Option.none := rfl
theorem wipe_len (σ : L2.St) : ∀ vs : List Nat, (wipe σ vs).length = σ.length
  | [] => rfl
  | i :: vs => by rw [wipe_cons, List.length_set, wipe_len σ vs]
theorem wipe_get (σ : L2.St) : ∀ (vs : List Nat) (i : Nat) (v : V), (wipe σ vs)[i]? = some (some v) → σ[i]? = some (some v)
  | [], _, _, h => h
  | j :: vs, i, v, h => by
    rw [wipe_cons, List.getElem?_set] at h
    split at h
    · split at h <;> cases h
    · exact wipe_get σ vs i v h
@[reducible] def s3Of (s2 : Shared) : Shared := { s2 with heap := s2.heap.push { cls := .type "dict", data := .dict #[] } }
@[reducible] def blkAt (X : Cx) (s2 : Shared) (H3 : Hp) (scope : PySem.Scope) (fp : List Addr) : Cx := X.blk (s3Of s2) H3 scope (compEnvC scope (cellsFrom ((s3Of s2).heap.objs.size + 1) scope.names (cloFrom X.env.cells scope.names [])) (s3Of s2).heap.objs.size X.env) fp
section
variable {X : Cx} {kx vx tg iter : PySem.Expr} {ifs : List PySem.Expr} {scope : PySem.Scope} {own : List (Str × Nat)} {pos : Pos} {wi : TI} {g : TG} {tt : TT} {tk tv : TE}
theorem pe_dcN (hc : X.calm = true) (hN : X.N.Nodup) (hu : X.A.units + 64 < cLine) (hit : PI X tg iter wi) (ok : BlkOk X.N X.env.scope scope own)
    (hg : ∀ (s : Shared) (H : Hp) (C : Addr) (cl : List (Str × Addr)) (fp : List Addr), PG (X.blk s H scope (compEnvC scope cl C X.env) fp) tg g)
    (ht : ∀ (s : Shared) (H : Hp) (C : Addr) (cl : List (Str × Addr)) (fp : List Addr), PTs (X.blk s H scope (compEnvC scope cl C X.env) fp) ifs tt)
    (hk : ∀ (s : Shared) (H : Hp) (C : Addr) (cl : List (Str × Addr)) (fp : List Addr), PE (X.blk s H scope (compEnvC scope cl C X.env) fp) kx tk)
    (he : ∀ (s : Shared) (H : Hp) (C : Addr) (cl : List (Str × Addr)) (fp : List Addr), PE (X.blk s H scope (compEnvC scope cl C X.env) fp) vx tv)
    (hfold : ∀ x : Value, foldedSetIterable iter X.env x = pure x := by intro _; rfl) :
    PE X (.DictComp kx vx [⟨tg, iter, ifs, 0⟩] scope pos) (tDcN X.K X.prog X.w wi g tt tk tv (own.map (·.2))) := by
  constructor
  intro pins s σ H Q I h
  rw [arm_eval_DictComp]
  have hclo : closureFor scope X.env = pure (cloFrom X.env.cells scope.names []) := closure_ok fun y hy hf => by
    refine I.ok.has y.1 ?_
    rcases ok.free y hy hf with q1 | q1
    · exact .inl q1
    · exact .inr q1
  refine wpAny_comprehension_free (g := ⟨tg, iter, ifs, 0⟩) (gs := []) rfl hfold hclo ok.kind (fun y hy hl => by rw [ok.uniq y hy, hl]) ?_
  refine wpAny_mono (hit.run pins s σ H _ I h) (fun v s1 q => ?_) (fun _ _ z => z)
  refine wpAny_mono q (fun itv s2 pie => ?_) (fun _ _ z => z)
  obtain ⟨it, fp, tn, J, H1, rfl, I2, turn, t0, hfp, hR⟩ := pie
  have D0 : H1 s2.heap.objs.size = none := I2.hok.fresh (Nat.le_refl _)
  obtain ⟨W, ⟨m0, w0⟩, hW⟩ := hR _ D0
  have hms : (s2.heap.objs.size == sysModules) = false := by
    have e0 := I2.big
    exact beq_eq_false_iff_ne.mpr (Nat.ne_of_gt e0)
  unfold newDict newObj newObjAsIs
  dsimp only
  rw [if_neg (show ¬ (#[] : Array DictEntry).size > sizeLine + 1 from Nat.not_lt_zero _)]
  refine wpAny_bind (wpAny_alloc ?_)
  refine wpAny_pure ?_
  have I3 : Inv X pins σ (upd H1 s2.heap.objs.size (NdO X.prog X.w s2.heap.objs.size [])) { s2 with heap := s2.heap.push { cls := .type "dict", data := .dict #[] } } :=
    I2.laid (t' := s2.toks) (fun b u e => Heap.get?_push_of_some _ e) (Nat.le_refl _) (ndO_ok (xs := []) (Nat.zero_le _) hms .nil (Heap.DictOfH.new _))
  refine newEnv_comp ?_
  have hobj := turn.obj 0 _ t0
  have hfp3 : ∀ b, b ∈ fp → FpOk X pins (upd H1 s2.heap.objs.size (NdO X.prog X.w s2.heap.objs.size [])) b ∧ b < (s2.heap.push { cls := .type "dict", data := .dict #[] }).objs.size := by
    intro b hb
    obtain ⟨o, ho, _⟩ := hobj b hb
    have hlt : b < s2.heap.objs.size := by
      rcases Nat.lt_or_ge b s2.heap.objs.size with z | z
      · exact z
      · rw [Heap.get?_none_of_le z] at ho; cases ho
    obtain ⟨f0, f1, f2, f3, f4, f5⟩ := hfp b hb
    refine ⟨⟨?_, f1, f2, f3, f4, f5⟩, ?_⟩
    · rw [upd_ne (Nat.ne_of_lt hlt)]
      exact f0
    · show b < (s2.heap.objs.push _).size
      rw [Array.size_push]
      exact Nat.lt_succ_of_lt hlt
  have I4 := block_start (own := own) (fp := fp) I3 ok hN hfp3
  have hC := I3.fpOk (Nat.le_refl _) (I3.hok.fresh (Nat.le_refl _))
  generalize hH3 : (upd H1 s2.heap.objs.size (NdO X.prog X.w s2.heap.objs.size [])) = H3 at I3 I4 w0 hfp3 hC
  have hcells : ∀ b, b ∈ fp → ∀ o, s2.heap.get? b = some o → (pushCells ((s2.heap.push { cls := .type "dict", data := .dict #[] }).push { cls := .type "dict", data := .dict #[] }) scope.names).get? b = some o := by
    intro b hb o ho
    exact pushCells_keeps _ _ _ _ (Heap.get?_push_of_some _ (Heap.get?_push_of_some _ ho))
  have t0' := turn.keep 0 _ _ t0 hcells
  refine codeAny_compStart_dict ?_ (turn.self _ 0 _ _ _ t0' ?_)
  all_goals
    refine compLoop_anyD (fun n s' => ∃ i H', W i n H' ∧ Inv (blkAt X s2 H3 scope fp) [] (wipe σ (own.map (·.2))) H' s' ∧ tn i s'.heap ∧ ∀ b ∈ fp, H' b = none) ?_ m0 ⟨0, _, w0, I4, t0', fun b hb => (hfp3 b hb).1.1⟩
    rintro n s' ⟨i, H', w, J4, tni, hfree⟩
    have hfpY : ∀ (H2 : Hp), (∀ b ∈ fp, H2 b = none) → ∀ b ∈ fp, FpOk (blkAt X s2 H3 scope fp) [] H2 b := by
      intro H2 hf b hb
      obtain ⟨e1, e2⟩ := J4.ok.exf b hb
      exact ⟨hf b hb, e1, J4.ok.exfs b hb, .inl hb, e2, fun p hp => by cases hp⟩
    rcases hW i n H' w with ⟨hstop, hq⟩ | ⟨hgo, Nx, hNx, hstep⟩
    · refine wpAny_mono (turn.done (blkAt X s2 H3 scope fp) rfl rfl rfl hc i [] s' _ H' (fun _ _ => False) J4 (hfpY H' hfree) tni hstop) (fun r s1 hr => ?_) (fun _ _ z => z.elim)
      obtain ⟨rfl, J5⟩ := hr
      obtain ⟨m, hm, _⟩ := J5.loc
      refine ⟨m, hm, fun h' hsame => ?_⟩
      have J6 : Inv X pins σ H' s1 := I3.call' (ch := fp) J5.os J5.base J5.hok J5.bare (fun b hb => by
        obtain ⟨f0, f1, f2, f3, f4, f5⟩ := (hfp3 b hb).1
        exact ⟨f3, f1, f4, f5⟩)
      obtain ⟨g0, g1, g2, g3, g4, g5⟩ := hC
      exact ⟨.ref _, H', J6.turned (it := (s3Of s2).heap.objs.size) (fun b o hb q => by rw [hsame.2 b hb]; exact q) J5.free g1 g3 g4 g5, rfl, hq⟩
    · refine wpAny_mono (turn.item (blkAt X s2 H3 scope fp) rfl rfl rfl hc i [] s' _ H' (fun _ _ => False) J4 (hfpY H' hfree) tni hgo) (fun r s1 hr => ?_) (fun _ _ z => z.elim)
      obtain ⟨u, rfl, hlet⟩ := hr
      refine wpAny_mono hlet (fun _ s5 hx => ?_) (fun _ _ z => z.elim)
      obtain ⟨x, H5, J5, rx, hy, tn', hfree'⟩ := hx
      have J5p := J5.pinned (fp := fp) (hfpY H5 hfree') (turn.obj (i + 1) _ tn')
      -- what is left of a turn
      have fin : ∀ (s9 : Shared) (σ9 : L2.St) (H9 : Hp), Inv (blkAt X s2 H3 scope fp) ([] ++ pinsAt fp s5.heap) σ9 H9 s9 → wipe σ9 (own.map (·.2)) = wipe σ (own.map (·.2)) → Nx H9 → ∃ m, m < n ∧ ∃ i H', W i m H' ∧ Inv (blkAt X s2 H3 scope fp) [] (wipe σ (own.map (·.2))) H' s9 ∧ tn i s9.heap ∧ ∀ b ∈ fp, H' b = none := by
        intro s9 σ9 H9 J9 hw9 nx9
        obtain ⟨m', hlt, w'⟩ := hNx H9 nx9
        have pin : ∀ b ∈ fp, ∃ o, s5.heap.get? b = some o ∧ s9.heap.get? b = some o ∧ H9 b = none := by
          intro b hb
          obtain ⟨o, ho, _⟩ := turn.obj (i + 1) _ tn' b hb
          have hmem : (b, o) ∈ pinsAt fp s5.heap := List.mem_filterMap.mpr ⟨b, hb, by rw [ho]; rfl⟩
          obtain ⟨p1, p2, _⟩ := J9.pin (b, o) (by simpa using hmem)
          exact ⟨o, ho, p1, p2⟩
        refine ⟨m', hlt, i + 1, H9, w', ?_, turn.keep _ _ _ tn' (fun b hb o ho => ?_), fun b hb => let ⟨_, _, _, z⟩ := pin b hb; z⟩
        · rw [← hw9]
          exact (J9.unpinned (pins := []) (pl := pinsAt fp s5.heap)).weak (wipe_len σ9 _) (fun i v q => wipe_get σ9 _ i v q)
        · obtain ⟨o', h1, h2, _⟩ := pin b hb
          rw [ho] at h1
          cases Option.some.inj h1
          exact h2
      refine wpAny_mono ((hg _ _ _ _ fp).run _ s5 _ H5 x u _ J5p rx (hstep x H5 hy)) (fun _ s6 h6 => ?_) (fun _ _ z => z.elim)
      obtain ⟨σ6, H6, J6, hw6, q6⟩ := h6
      refine wpAny_mono ((ht _ _ _ _ fp).run _ s6 σ6 H6 _ J6 q6) (fun ok7 s7 h7 => ?_) (fun _ _ z => z.elim)
      obtain ⟨H7, J7, q7⟩ := h7
      cases ok7 with
      | false =>
        rw [if_neg (by decide)] at q7 ⊢
        exact fin s7 σ6 H7 J7 hw6 q7
      | true =>
        rw [if_pos rfl] at q7 ⊢
        refine wpAny_mono ((hk _ _ _ _ fp).run _ s7 σ6 H7 _ J7 q7) (fun kv s8 h8 => ?_) (fun _ _ z => z.elim)
        obtain ⟨y, H8, J8, ry, q8⟩ := h8
        refine wpAny_mono ((he _ _ _ _ fp).run _ s8 σ6 H8 _ J8 q8) (fun vv s9 h9 => ?_) (fun _ _ z => z.elim)
        obtain ⟨z, H9, J9, rz, t, k, kvs, rfl, hd, hdep, hn, hat, hlt, nx⟩ := h9
        obtain rfl : kv = .ref t := ry
        obtain ⟨hl, hm, xs, hp, ho⟩ := hn.tab J9
        have hxl : xs.length ≤ sizeLine := by rw [← kvr_len hp]; exact hl
        have hroom : (nestedKind X.prog X.w).room X.A := by
          show X.A.units + 8 < cLine
          omega
        refine wpAny_dictSet_heap hroom ⟨nested_is J9 k _ _ hd rfl, hdep⟩ ho (fun h' hd' hsame => ?_) hxl
        have hp' := kvr_put (k := k) (a := t) hp rz
        have hlen := putN_len kvs k t z
        obtain ⟨o', es', ep', z1, _⟩ := id hd'
        exact fin _ σ6 _ (d_write (ob := NdO X.prog X.w _ (putN kvs k t z)) J9 (by rw [hat]; exact trivial) hsame ⟨_, z1⟩ (ndO_ok (by omega) hm hp' hd')) hw6 nx
end
end Ax
set_option maxHeartbeats 4000000
/-! try: .. with several clauses «except C as n:». -/
namespace Ax
open PySem PySem.Spec PyProof.Rows L2
/-- one clause: the class that it names, the slot of its name, its suite's reading -/
structure Cl where
  c : Value
  i : Nat
  ts : Addr → Value → Option Addr → TS
/-- behind a suite the clause's name is gone -/
def gone (D : Ends) (i : Nat) : Ends := { nx := fun σ H => D.nx (σ.set i Option.none) H, rt := D.rt, bk := fun σ H => D.bk (σ.set i Option.none) H, ct := fun σ H => D.ct (σ.set i Option.none) H }
def wCls (K : PySem.W.Frag) (Wout : WX) (D : Ends) : List Cl → WX
  | [] => Wout
  | k :: r => fun cls d σ H => ∃ b, PySem.W.exmOne K cls k.c = some b ∧ (b = true → ∀ a, H a = Option.none → k.ts a cls d (gone D k.i) (σ.set k.i (some (.ref a))) H) ∧ (b = false → wCls K Wout D r cls d σ H)
inductive ClsOk (X : Cx) : List ExceptHandler → List Cl → Prop
  | nil : ClsOk X [] []
  | cons {x n : Str} {k : Cl} {b0 : Stmt} {suite : List Stmt} {np pos : Pos} {hs : List ExceptHandler} {l : List Cl} (hc : Names X x k.c) (hi : X.N[k.i]? = some n) (hn : X.env.kindOf n = some .local)
      (hsu : ∀ (a : Addr) (oe : Obj) (cls : Value) (d : Option Addr) (pn : List (Addr × Obj)), Zc cls d oe → (∃ vs, oe.data = .fields vs) → PSs (X.suite a ((a, oe) :: pn)) (b0 :: suite) (k.ts a cls d))
      (r : ClsOk X hs l) : ClsOk X (.ExceptHandler (some (.Name x np)) (some n) (b0 :: suite) pos :: hs) (k :: l)
section
variable {X : Cx} {body : List Stmt} {h0 : ExceptHandler} {hs : List ExceptHandler} {l : List Cl} {pos : Pos} {tb : WX → TS} {Wout : WX}
theorem ps_try_cls (hst : X.stack = X.env :: X.outer) (hfr : X.env.frame = some X.env.locals) (hN : X.N.Nodup) (tk : Takes X Wout)
    (hb : ∀ (W : WX) (pn : List (Addr × Obj)) (xe : Value → Shared → Prop), Takes (X.tr pn xe) W → PassesOwn (model X.prog X.w) X.A X.env xe → PSs (X.tr pn xe) body (tb W))
    (hh : ClsOk X (h0 :: hs) l) : PS X (.Try body (h0 :: hs) [] [] pos) (fun D σ H => tb (wCls X.K Wout D l) D σ H) := by
  constructor
  intro pins s σ H D I h
  have ok := I.ok
  have frames : X.A.frames = some (X.env :: X.outer) := by rw [ok.frames, hst]
  refine wpAny_Try_except ?_
  refine wpAny_mono ((hb (wCls X.K Wout D l) (X.pn ++ pins) _ (fun e s' xx => ?_) PassesOwn.looking).run [] s σ H D (I.toTry _) h) (fun f s1 done => ?_) (fun e s1 he => he)
  · obtain ⟨a, B, sI, pins', σ', H', cls, d, rfl, J', nb, up, sky, na, os, ag, w⟩ := xx
    have J : Inv X pins σ' H' sI := J'.ofTry ok
    rw [hst] at sky
    show wpAny (model X.prog X.w) X.A (noteFrame (.ref a) X.env) _ _ _
    refine Sky.land Zc.steady frames hfr sky fun h3 fl3 up3 => ?_
    obtain ⟨oe3, vs3, he3, hz3, hd3⟩ := fl3.there
    have noFrame : a ∉ frs (X.env :: X.outer) := fun hm => by
      obtain ⟨_, o', e', hnf⟩ := (fl3.2.2.1 : h3.FunFrames B (X.env :: X.outer)).mem hm
      rw [he3] at e'
      cases e'
      exact hnf _ hd3
    have nL : a ≠ X.env.locals := fun z => noFrame (List.mem_filterMap.mpr ⟨X.env, List.mem_cons_self, by rw [hfr, z]⟩)
    have nF : a ∉ X.fs := fun hm => by
      obtain ⟨e, he, q⟩ := List.mem_filterMap.mp hm
      exact noFrame (List.mem_filterMap.mpr ⟨e, List.mem_cons_of_mem _ he, q⟩)
    have J3 : Inv X pins σ' H' { s' with heap := h3 } := J.landed nb fl3.1 (up.trans up3) os ag
    have S3 := J3.suite he3 hd3 na nL nF
    -- clause by clause
    have go : ∀ {hs' : List ExceptHandler} {l' : List Cl}, ClsOk X hs' l' → wCls X.K Wout D l' cls d σ' H' → wpAny (model X.prog X.w) X.A (handleBy (.ref a) X.env hs') (SP X pins D) X.xe { s' with heap := h3 } := by
      intro hs' l' ck
      induction ck with
      | nil =>
        intro w
        refine wpAny_handleBy_nil ?_
        obtain ⟨k1, k2, k3, oe, vs, T, oT, ts', he, hz, hd, h1, hr⟩ := id fl3
        unfold PySem.passOn
        refine wpAny_bind (wpAny_field he hd h1 ?_)
        rw [if_neg (show ¬ ((Value.ref T == Value.none) = true) from by simp)]
        have out : wpAny (model X.prog X.w) X.A (setFlight (.ref a) X.env.frame) (fun _ s4 => wpAny (model X.prog X.w) X.A (throw (.ref a) : Sem Flow) (SP X pins D) X.xe s4) X.xe { s' with heap := h3 } := by
          rw [hfr]
          refine HandSPX.setFlight_upZ fl3 fun h4 hh4 up4 => wpAny_throw (tk _ _ ?_)
          exact ⟨a, B, sI, pins, σ', H', cls, d, rfl, J, nb, (up.trans up3).trans up4, .inr (.inr (by rw [hst]; exact hh4)), na, os, ag, w⟩
        first
          | exact wpAny_bind (wpAny_pure (wpAny_bind out))
          | exact wpAny_bind out
      | @cons x n k b0 suite np pos' hs2 l2 hc hi hn hsu r ih =>
        intro w
        obtain ⟨b, hb1, yes, no⟩ := w
        refine wpAny_handleBy_cons (codeAny_handlers_test ?_) (by intro q; cases q)
        have T1 : PySem.W.Looks (model X.prog X.w) h3 (typeOf (.ref a)) cls := fun A Q E s kk q => wpAny_typeOf_ref (kk _ _ he3) (by rw [hz3.1]; exact q)
        have T2 := PySem.W.exm_one (M := model X.prog X.w) J3.kIn T1 hb1
        have ask : ∀ {Q : Value → Shared → Prop} {E : Value → Shared → Prop}, Q k.c { s' with heap := h3 } → wpAny (model X.prog X.w) (X.A.mark (some (.ref a))) (eval (.Name x np) X.env) Q E { s' with heap := h3 } := fun {Q E} q => by
          obtain ⟨g1, g2, g3⟩ := hc
          cases g3 with
          | inl hm => exact ld_glob (X := X.suite a ((a, oe3) :: (X.pn ++ pins))) S3 g1 hm q g2
          | inr hm => exact ld_blt (X := X.suite a ((a, oe3) :: (X.pn ++ pins))) S3 g1 hm.1 hm.2.1 q hm.2.2 g2
        refine ask (T2.here ?_)
        cases b with
        | false =>
          show wpAny _ X.A (handleBy (.ref a) X.env hs2) _ _ _
          exact ih (no rfl)
        | true =>
          refine codeAny_handlers_suite_as ?_
          refine HandSPX.lands_againZ fl3 fun h4 fl4 up4 => ?_
          obtain ⟨oe4, vs4, he4, hz4, hd4⟩ := fl4.there
          have J4 : Inv X pins σ' H' { s' with heap := h4 } := J.landed nb fl4.1 ((up.trans up3).trans up4) os ag
          have S4 := J4.suite he4 hd4 na nL nF
          refine store_ok (X := X.suite a ((a, oe4) :: (X.pn ++ pins))) (v := .ref a) S4 hN hi (.inl hn) rfl (fun s5 S5 => ?_) (.inr hn)
          refine wpAny_mono ((hsu a oe4 cls d (X.pn ++ pins) hz4 ⟨_, hd4⟩).run [] s5 _ H' (gone D k.i) S5 (yes rfl a na)) (fun f s6 res => ?_) (fun _ _ z => z.elim)
          have fin : ∀ {σ6 : L2.St} {H6 : Hp} {Q : Shared → Prop}, Inv (X.suite a ((a, oe4) :: (X.pn ++ pins))) [] σ6 H6 s6 → (∀ s7, Inv X pins (σ6.set k.i Option.none) H6 s7 → Q s7) →
              wpAny (model X.prog X.w) X.A (do bindName X.env n .none; unbindBehindTheSuite X.env n pos') (fun _ s7 => Q s7) X.xe s6 := fun {σ6 H6 Q} S6 hq => gone_ok (S6.unsuite ok) hN hi hn hq
          cases f with
          | next =>
            obtain ⟨σ6, H6, S6, q6⟩ := res
            exact fin S6 fun s7 J7 => ⟨_, _, J7, q6⟩
          | brk =>
            obtain ⟨σ6, H6, S6, q6⟩ := res
            exact fin S6 fun s7 J7 => ⟨_, _, J7, q6⟩
          | cont =>
            obtain ⟨σ6, H6, S6, q6⟩ := res
            exact fin S6 fun s7 J7 => ⟨_, _, J7, q6⟩
          | ret u =>
            obtain ⟨v6, σ6, H6, S6, r6, q6⟩ := res
            exact fin S6 fun s7 J7 => ⟨_, _, _, J7, r6, q6⟩
    exact go hh w
  · cases f with
    | next =>
      obtain ⟨σ', H', J', q⟩ := done
      exact wpAny_execs_nil ⟨σ', H', J'.ofTry ok, q⟩
    | brk =>
      obtain ⟨σ', H', J', q⟩ := done
      exact ⟨σ', H', J'.ofTry ok, q⟩
    | cont =>
      obtain ⟨σ', H', J', q⟩ := done
      exact ⟨σ', H', J'.ofTry ok, q⟩
    | ret u =>
      obtain ⟨v, σ', H', J', r, q⟩ := done
      exact ⟨v, σ', H', J'.ofTry ok, r, q⟩
end
end Ax
set_option maxHeartbeats 4000000
/-! Defs as they are called: a promise with where the def stands. -/
namespace Ax
open PySem PySem.Spec PyProof.Rows L2
/-- the def of the module's name x keeps sp -/
def Dn (P : Program) (w : World) (K : PySem.W.Frag) (mg : Str → Option Value) (base : Heap) (CX : CXT) (k : Nat) (x : Str) (ps : List Str) (sp : Sp) : Prop :=
  ∃ (f : Addr) (fd : FuncData), FnOk P w K mg base CX k f fd ps sp ∧ mg x = some (.ref f) ∧ PySem.W.keepIn K (.ref f) = true ∧ Binds K fd ps []
/-- the class of the module's name x: its __init__ keeps sp -/
def Dc (P : Program) (w : World) (K : PySem.W.Frag) (mg : Str → Option Value) (base : Heap) (CX : CXT) (k : Nat) (x : Str) (ps : List Str) (sp : Sp) : Prop :=
  ∃ (f : Addr) (fd : FuncData), FnOk P w K mg base CX k f fd ps sp ∧ mg x = some (.ref (He.ga K x)) ∧ Mk K (He.ga K x) f ∧ Binds K fd ps []
section
variable {X : Cx} {CX : CXT} {k : Nat} {ps : List Str} {sp : Sp} {E : XK} {x : Str} {p pos : Pos} {e : Expr} {es : List Expr} {t : TA}
theorem pe_dn (D : Dn X.prog X.w X.K X.mg X.base CX k x ps sp) (hr : Room k X.A) (hg : Gl X x) (hx : Passes CX X E) (ha : PA X (e :: es) t) (hdb : (x == ("__debug__" : Str)) = false := by decide)
    (he : starEach (e :: es) X.env = (false, eval e X.env) :: starEach es X.env := by rfl) (hpl : (backTo pos (starEach es X.env)).any (·.1) = false := by rfl) :
    PE X (.Call (.Name x p) (e :: es) [] pos) (tCall sp [] E t) := by
  obtain ⟨f, fd, F, hm, hk, hb⟩ := D
  exact pe_call F hr hg hm hk hb .nil hx ha hdb he hpl
theorem pe_dnS {E : L2.St → XK} (D : Dn X.prog X.w X.K X.mg X.base CX k x ps sp) (hr : Room k X.A) (hg : Gl X x) (hx : ∀ σ, PassesAt CX X σ (E σ)) (ha : PA X (e :: es) t) (hdb : (x == ("__debug__" : Str)) = false := by decide)
    (he : starEach (e :: es) X.env = (false, eval e X.env) :: starEach es X.env := by rfl) (hpl : (backTo pos (starEach es X.env)).any (·.1) = false := by rfl) :
    PE X (.Call (.Name x p) (e :: es) [] pos) (tCallS sp E t) := by
  obtain ⟨f, fd, F, hm, hk, hb⟩ := D
  exact pe_callS F hr hg hm hk hb hx ha hdb he hpl
theorem pe_dc (D : Dc X.prog X.w X.K X.mg X.base CX k x ps sp) (hr : Room (k + 1) X.A) (hg : Gl X x) (hx : Passes CX X E) (ha : PA X (e :: es) t) (hdb : (x == ("__debug__" : Str)) = false := by decide)
    (he : starEach (e :: es) X.env = (false, eval e X.env) :: starEach es X.env := by rfl) (hpl : (backTo pos (starEach es X.env)).any (·.1) = false := by rfl) :
    PE X (.Call (.Name x p) (e :: es) [] pos) (tMake (He.ga X.K x) sp [] E t) := by
  obtain ⟨f, fd, F, hm, hk, hb⟩ := D
  exact pe_make hk F hr hg hm hb .nil hx ha hdb he hpl
end
section
variable {P : Program} {w : World} {K : PySem.W.Frag} {mg : Str → Option Value} {base : Heap} {CX : CXT} {k : Nat} {x : Str} {ps : List Str} {sp sp' : Sp}
theorem Dn.mono {j : Nat} (D : Dn P w K mg base CX j x ps sp) (h : j ≤ k) : Dn P w K mg base CX k x ps sp := let ⟨f, fd, F, a, b, c⟩ := D; ⟨f, fd, F.mono h, a, b, c⟩
theorem Dn.imp (D : Dn P w K mg base CX k x ps sp) (h : ∀ vs H Q E, sp' vs H Q E → sp vs H Q E) : Dn P w K mg base CX k x ps sp' := let ⟨f, fd, F, a, b, c⟩ := D; ⟨f, fd, F.imp h, a, b, c⟩
theorem Dc.mono {j : Nat} (D : Dc P w K mg base CX j x ps sp) (h : j ≤ k) : Dc P w K mg base CX k x ps sp := let ⟨f, fd, F, a, b, c⟩ := D; ⟨f, fd, F.mono h, a, b, c⟩
end
/-! ### what grows beside the rest -/
theorem ext_del {H : Hp} {D : Addr} : Ext (del H D) H := fun a o h => by
  by_cases c : a = D
  · rw [c, del_same] at h
    cases h
  · rw [del_ne c] at h
    exact h
theorem ext_delD {H H' : Hp} {D : Addr} (e : Ext H H') : Ext (del H D) (del H' D) := fun a o h => by
  by_cases c : a = D
  · rw [c, del_same] at h
    cases h
  · rw [del_ne c] at h ⊢
    exact e a o h
theorem del_none {H : Hp} {D : Addr} (h : H D = none) : del H D = H := funext fun a => by
  by_cases c : a = D
  · rw [c, del_same, h]
  · rw [del_ne c]
theorem del_upd {H : Hp} {D : Addr} {o : HO} : del (upd H D o) D = del H D := funext fun a => by
  by_cases c : a = D
  · rw [c, del_same, del_same]
  · rw [del_ne c, del_ne c, upd_ne c]
theorem ext_upd_of {H B : Hp} {D : Addr} {o : HO} (e : Ext B H) (h : B D = none) : Ext B (upd H D o) := fun a u q => by
  rw [upd_ne (ne_of_none q h)]
  exact e a u q
theorem ext_del_of {H B : Hp} {D : Addr} (e : Ext B H) (h : B D = none) : Ext B (del H D) := fun a u q => by
  rw [del_ne (ne_of_none q h)]
  exact e a u q
theorem yes_go {σ : L2.St} {H : Hp} {Q : Bool → Hp → Prop} (h : Q true H) : tYes σ H Q := h
section
variable {J : It} {n : Nat} {G : Hp → Prop} {Y : Nat → Hp → V → Hp → Prop}
def Pacc (R : Nat → List V → Hp → Prop) (D : Addr) (i : Nat) (H : Hp) : Prop := ∃ acc, H D = some (.lst acc) ∧ acc.length ≤ i ∧ R i acc (del H D)
theorem acc_add {R : Nat → List V → Hp → Prop} {D : Addr} {i : Nat} {H : Hp} {acc : List V} {y : V} (h : H D = some (.lst acc)) (hl : acc.length ≤ i) (hi : i < sizeLine) (r : R (i + 1) (acc ++ [y]) (del H D)) :
    ∃ acc, H D = some (.lst acc) ∧ acc.length < sizeLine ∧ Pacc R D (i + 1) (upd H D (.lst (acc ++ [y]))) :=
  ⟨acc, h, by omega, acc ++ [y], upd_same, by simp; omega, by rw [del_upd]; exact r⟩
theorem acc_skip {R : Nat → List V → Hp → Prop} {D : Addr} {i : Nat} {H : Hp} {acc : List V} (h : H D = some (.lst acc)) (hl : acc.length ≤ i) (r : R (i + 1) acc (del H D)) : Pacc R D (i + 1) H := ⟨acc, h, by omega, r⟩
/-- a comprehension whose new list is told apart from the rest -/
theorem lc_acc (w : Walk J n G Y) {g : TG} {tt : TT} {te : TE} {vs : List Nat} {σ : L2.St} {H1 : Hp} {D : Addr} {Qd : Hp → Prop} (hD : H1 D = none) (R : Nat → List V → Hp → Prop) (r0 : R 0 [] H1)
    (hG : ∀ i acc H, i ≤ n → H D = some (.lst acc) → R i acc (del H D) → G H)
    (hs : ∀ i x H H' acc, i < n → H D = some (.lst acc) → acc.length ≤ i → R i acc (del H D) → Y i H x H' → g x (wipe σ vs) H' fun σ2 H2 => wipe σ2 vs = wipe σ vs ∧ tt σ2 H2 fun b H3 =>
      if b = true then te σ2 H3 fun y H4 => ∃ acc, H4 D = some (.lst acc) ∧ acc.length < sizeLine ∧ Pacc R D (i + 1) (upd H4 D (.lst (acc ++ [y]))) else Pacc R D (i + 1) H3)
    (hd : ∀ H acc, H D = some (.lst acc) → acc.length ≤ n → R n acc (del H D) → Qd H) :
    ∃ W : Nat → Nat → Hp → Prop, (∃ m, W 0 m (upd H1 D (.lst []))) ∧ ∀ i m H, W i m H →
      (J.stop i H ∧ Qd H) ∨ (J.go i H ∧ ∃ Nx : Hp → Prop, (∀ H', Nx H' → ∃ m', m' < m ∧ W (i + 1) m' H') ∧ ∀ x H', J.yld i H x H' → g x (wipe σ vs) H' fun σ2 H2 => wipe σ2 vs = wipe σ vs ∧ tt σ2 H2 fun b H3 =>
        if b = true then te σ2 H3 fun y H4 => ∃ acc, H4 D = some (.lst acc) ∧ acc.length < sizeLine ∧ Nx (upd H4 D (.lst (acc ++ [y]))) else Nx H3) :=
  lc_it w (Pacc R D) ⟨[], upd_same, Nat.le_refl _, by rw [del_upd, del_none hD]; exact r0⟩ (fun i H hi ⟨acc, h1, h2, h3⟩ => hG i acc H hi h1 h3)
    (fun i x H H' hi ⟨acc, h1, h2, h3⟩ y => hs i x H H' acc hi h1 h2 h3 y) (fun H ⟨acc, h1, h2, h3⟩ => hd H acc h1 h2 h3)
end
end Ax
set_option maxHeartbeats 2000000
/-! t.count(x): a tuple of texts. -/
namespace Ax
open PySem PySem.Spec PyProof.Rows L2
variable {X : Cx}
theorem dpAll_strs {K : PySem.W.Frag} {H : Hp} : ∀ ys : List Str, DpAll K H (ys.map V.str) (ys.map PyData.str)
  | [] => .nil
  | y :: ys => .cons (.str y) (dpAll_strs ys)
theorem plain_strs : ∀ ys : List Str, PyData.plainAll (ys.map PyData.str) = true
  | [] => rfl
  | y :: ys => by
    show (PyData.plain (.str y) && PyData.plainAll (ys.map PyData.str)) = true
    rw [plain_strs ys]
    rfl
theorem depth_strs : ∀ ys : List Str, PyData.depthAll (ys.map PyData.str) = 0
  | [] => rfl
  | y :: ys => by
    show max (PyData.depth (.str y)) (PyData.depthAll (ys.map PyData.str)) = 0
    rw [depth_strs ys]
    rfl
theorem eqv_strs (y k : Str) : PyData.eqv (.str y) (.str k) = (y == k) := by
  first | rfl | (unfold PyData.eqv; rfl) | simp [PyData.eqv]
def rCntS (K : PySem.W.Frag) : V → List V → Hp → VK → Prop := fun x xs H Q => ∃ (p : Addr) (ys : List Str) (k : Str), x = .ref p ∧ xs = [.str k] ∧ SqT K H p (ys.map V.str) ∧ Q (.int (ys.count k : Nat)) H
theorem mt_tcountS (hu : X.A.units + 64 < cLine) : MtR X "tuple.count" (rCntS X.K) := by
  intro pins s σ H x xs v us Q I rx rxs h
  obtain ⟨p, ys, k, rfl, rfl, hs, q⟩ := h
  cases rx
  obtain ⟨u, rfl, ru⟩ := rxs.one
  obtain ⟨its, rv, p1, hlen⟩ := I.tuple hs
  obtain ⟨as, h4⟩ := Dp.readsAll I _ _ its (dpAll_strs ys) rv
  obtain ⟨bs, r1⟩ := Dp.reads I (.str k) (.str k) u (.str k) ru
  refine SeqAt.count_tuple_data (l := p) (vs := its.toArray) (xs := ys.map PyData.str) (d := .str k) p1 (show ReadsAll s.heap its.toArray.toList (ys.map PyData.str) as from h4) r1 (plain_strs ys) rfl ?_ ?_
  · have e := depth_strs ys
    omega
  · have ec : (ys.map PyData.str).countP (fun y => PyData.eqv y (.str k)) = ys.count k := by
      rw [List.countP_map]
      unfold List.count
      congr 1
    rw [ec]
    exact ⟨.int (ys.count k : Nat), H, I.tok _, ⟨s.toks, rfl⟩, q⟩
/-! ### tuples that have no dict -/
/-- tuple(l), told as the object itself -/
def rTupZ (K : PySem.W.Frag) : List V → Hp → VK → Prop := fun xs H Q => ∃ (p : Addr) (ys : List V), xs = [.ref p] ∧ SqL K H p ys ∧ ∀ (l : Addr) (ob : Obj), H l = none → ob.cls = .type "tuple" → (ob.dict = none ∧ ob.slots = #[]) → Q (.ref l) (upd H l (.frz ob (.tup ys)))
theorem call_tupZ : CallR X (.type "tuple") (rTupZ X.K) := by
  intro pins s σ H xs us Q I r h
  obtain ⟨p, ys, rfl, hq, q⟩ := h
  obtain ⟨u, rfl, rx⟩ := vals1 r
  cases rx
  obtain ⟨its, r', pl, hz⟩ := I.list hq
  have hlen := r'.length
  refine call_tuple_list pl.isList (fun h' kp => ?_) (by simp only [List.size_toArray] <;> omega)
  have I1 : Inv X pins σ H { s with heap := h' } := I.kept (t' := s.toks) kp
  have I2 : Inv X pins σ (upd H h'.objs.size (.frz { cls := .type "tuple", data := .seq its.toArray } (.tup ys))) { s with heap := h'.push { cls := .type "tuple", data := .seq its.toArray } } :=
    I1.laid (t' := s.toks) (fun b o e => Heap.get?_push_of_some _ e) (Nat.le_refl _)
      (show ObjOk X.prog X.w _ _ _ (.frz { cls := .type "tuple", data := .seq its.toArray } (.tup ys)) from ⟨Heap.get?_push_size _ rfl, hz, its, r', IsTup.new _ _⟩)
  exact ⟨.ref h'.objs.size, _, I2, rfl, q _ _ (I1.hok.fresh (Nat.le_refl _)) rfl ⟨rfl, rfl⟩⟩
/-- o.m(e), o such a tuple -/
def tTM (r : V → List V → Hp → VK → Prop) (to : TE) (t : TA) : TE := fun σ H Q => to σ H fun x H1 => (∃ (p : Addr) (ob : Obj) (xs : List V), x = .ref p ∧ H1 p = some (.frz ob (.tup xs)) ∧ ob.cls = .type "tuple" ∧ ob.dict = none) ∧ t σ H1 fun xs H2 => r x xs H2 Q
section
variable {o e : Expr} {es : List Expr} {to : TE} {t : TA} {name : Str} {apos cpos : Pos} {id : String} {r : V → List V → Hp → VK → Prop}
theorem pe_tm (slot : Slot "tuple" name id) (hty : typeOf (.builtin id) = pure (.type "method_descriptor")) (hm : MtR X id r) (ho : PE X o to) (ha : PA X (e :: es) t)
    (hbase : attributeBase o name X.env (eval o X.env) = eval o X.env := by rfl)
    (hfew : ((backTo cpos (starEach (e :: es) X.env)).all (fun x => !x.1) && (backToKw cpos (keywordEach [] X.env)).all (fun x => x.1.isSome)
      && decide ((e :: es).length + ([] : List Keyword).length + (if ([] : List Keyword).isEmpty then 0 else 1) < 30)) = true := by rfl)
    (hline : (apos.endLine == cpos.line) = true := by rfl) (hs : starEach (e :: es) X.env = (false, eval e X.env) :: starEach es X.env := by rfl) (hplain : (backTo cpos (starEach es X.env)).any (·.1) = false := by rfl) :
    PE X (.Call (.Attribute o name apos) (e :: es) [] cpos) (tTM r to t) := by
  refine ⟨fun pins s σ H Q I h => ?_⟩
  refine wpAny_Call_method_late hbase hfew hline rfl (thn (ho.run pins s σ H _ I h) fun v s1 ⟨x, H1, I1, r1, ty, q1⟩ => ?_)
  obtain ⟨p, ob, xs, rfl, hp, hc, hd⟩ := ty
  obtain rfl : v = Value.ref p := r1
  have hh : s1.heap.get? p = some ob := (I1.hok p _ hp).1
  refine ⟨"tuple", id, PySem.F.plainAttrs_tuple, slot, hty, ⟨ob, hh, hc⟩, fun a e => by cases e; exact ⟨ob, hh, hd⟩, ?_⟩
  have hA := ha.run cpos pins s1 σ H1 _ I1 q1
  rw [hs] at hA ⊢
  refine Calls.callWith_builtin (by show (false || (backTo cpos (starEach es X.env)).any (·.1)) = false; rw [hplain] <;> rfl) (Calls.evalArgs_plain ?_)
  exact thn hA fun us s2 ⟨vs, H2, I2, r2, q2⟩ => hm pins s2 σ H2 (.ref p) vs (.ref p) us Q I2 rfl r2 q2
end
end Ax
set_option maxHeartbeats 4000000
/-! enumerate over a tuple; a list extended by a tuple. -/
namespace PySem
open Sem (wp)
theorem ax_enum1 {v : Value} {o : Obj} {H : Heap → Prop} (B : Begins v o H) :
    Meets (Builtin.«enumerate.__new__» ⟨[.type "enumerate", v], []⟩) (fun _ R s => H s.heap ∧
      R (.ok (.ret (.ref (s.heap.push o).objs.size))) { s with heap := (s.heap.push o).push { cls := .type "enumerate", data := .fields #[.none, .bool false, .ref s.heap.objs.size, rawInt 0, .none, .none] } }) :=
  .of_wp fun prog w A R s h => by
    obtain ⟨hp, g, d, tk, os⟩ := s
    obtain ⟨h1, h⟩ := h
    have hsub := sub_enumerate
    have start : ∀ {A' : Around} {E : Value → Shared → Prop} {Q : Value → Shared → Prop}, Q (.ref hp.objs.size) ⟨hp.push o, g, d, tk, os⟩ → wpAny (model prog w) A' (pyIter v) Q E ⟨hp, g, d, tk, os⟩ :=
      fun q => B.iter prog w _ _ ⟨hp, g, d, tk, os⟩ _ h1 q
    wp_walk using start
    refine wpAny_stack_any fun st => wpAny_pure ?_
    split
    · rename_i c _ _ _ _ _
      cases (c == Value.type "enumerate") <;> (wp_walk using start; exact ⟨_, rfl, h⟩)
    · wp_walk using start
      exact ⟨_, rfl, h⟩
section
variable {prog : Program} {w : World} {A : Around} {E : Value → Shared → Prop} {s : Shared}
theorem ax_enumCall {v : Value} {o : Obj} {H : Heap → Prop} {Q : Value → Shared → Prop} (B : Begins v o H) (h1 : H s.heap)
    (h : ∀ h', IsEnum h' (s.heap.objs.size + 1) s.heap.objs.size 0 .none → h'.get? s.heap.objs.size = some o → (∀ b u, s.heap.get? b = some u → h'.get? b = some u) → Q (.ref (s.heap.objs.size + 1)) { s with heap := h' }) :
    wpAny (model prog w) A (call (.type "enumerate") [v]) Q E s := by
  have hz : (s.heap.push o).objs.size = s.heap.objs.size + 1 := Heap.size_push ..
  have at_ := Heap.get?_push_size (s.heap.push o) (o := ({ cls := .type "enumerate", data := .fields #[.none, .bool false, .ref s.heap.objs.size, rawInt 0, .none, .none] } : Obj)) rfl
  refine callType_new F.called_enumerate (by decide) (F.typeCall_enumerate_1 _) (F.newCall_enumerate_1 _) (fun obj => F.args_object_init_2 obj _) F.entry_enumerate_new (ax_enum1 B) ⟨h1, ?_⟩
  show _ ∧ _
  rw [hz] at at_ ⊢
  exact ⟨⟨_, at_, rfl⟩, h _ at_ (Heap.get?_push_of_some _ (Heap.get?_push_size _ B.free)) fun b u x => Heap.get?_push_of_some _ (Heap.get?_push_of_some _ x)⟩
end
end PySem
namespace Ax
open PySem PySem.Spec PyProof.Rows L2
def IteT (K : PySem.W.Frag) (a : Addr) : It :=
  ⟨fun i H => ∃ (xs : List V) (x : V), SqT K H a xs ∧ xs[i]? = some x, fun i H v H' => ∃ T x, v = .ref T ∧ H T = none ∧ H' = upd H T (.tup [.int (i : Nat), x]) ∧ ∀ xs, SqT K H a xs → xs[i]? = some x, fun i H => ∃ xs : List V, SqT K H a xs ∧ xs.length ≤ i⟩
theorem apart1 {h : Heap} {a e : Addr} {its : Array Value} {o : Obj} (p : h.IsTuple a its) (q : h.get? e = some o) (n : o.cls ≠ .type "tuple") : e ≠ a := fun z => by
  obtain ⟨u, hu, hc, _⟩ := p
  rw [z, hu] at q
  rw [← Option.some.inj q] at n
  exact n hc
theorem turn_enumT {P : Program} {w : World} {K : PySem.W.Frag} {elts : List Expr} {kk : Nat} {tpos : Pos} (a e it : Addr) :
    Turn P w K (.Tuple elts kk tpos) (IteT K a) [e, it] e (fun i h => (∃ old, IsEnum h e it ((i : Nat) : Int) old) ∧ h.IsTupleIter it a i ∧ e ≠ it) where
  mem := List.mem_cons_self
  obj := fun i h st b hb => by
    obtain ⟨⟨old, he⟩, ⟨o, ho, hc, hd⟩, _⟩ := st
    rcases List.mem_cons.mp hb with z | z
    · subst z
      exact ⟨_, he, fun v q => nomatch q⟩
    · have z2 := List.mem_singleton.mp z
      subst z2
      exact ⟨o, ho, fun v q => by rw [hd] at q; cases q⟩
  keep := fun i h h' st k => by
    obtain ⟨⟨old, he⟩, hi, hne⟩ := st
    exact ⟨⟨old, k e List.mem_cons_self _ he⟩, hi.at fun o q => k it (List.mem_cons_of_mem _ List.mem_cons_self) o q, hne⟩
  item := by
    intro X hP hw hK hc i pins s σ H E I hf st hg
    subst hP hw hK
    obtain ⟨⟨old, he⟩, hit, hne⟩ := st
    obtain ⟨xs, x, hq, hx⟩ := hg
    obtain ⟨its, rv, p, hz⟩ := I.tuple hq
    obtain ⟨u, hu, ru⟩ := rv.get hx
    have hel : e < s.heap.objs.size := Heap.lt_size he
    obtain ⟨oi, hoi, hci, hdi⟩ := id hit
    have hil : it < s.heap.objs.size := Heap.lt_size hoi
    have hea : e ≠ a := apart1 p he (by simp)
    have hia : it ≠ a := apart1 p hoi (by rw [hci]; simp)
    have hlt : i < its.toArray.size := by
      have := (List.getElem?_eq_some_iff.mp hu).1
      simpa using this
    refine wpAny_pyNext_enum_itemD (Draws.tuple (show X.A.in1.handled = none from I.ok.hd hc) it a (Ne.symm hia) its.toArray) he ⟨hit, p⟩ hlt hne (by simp [hne, hea]) fun y h' tk hPy ho hst hT hsz hk => ?_
    have hyu : y = u := by
      have e1 : its.toArray[i]? = some y := hPy
      rw [List.getElem?_toArray, hu] at e1
      exact (Option.some.inj e1).symm
    subst hyu
    refine ⟨_, rfl, wpAny_letOwnedTupleGo_enum (s := { s with heap := h', toks := tk + 1 }) ho fun h'' he' sb => ?_⟩
    have hT2 : h''.get? s.heap.objs.size = some { cls := .type "tuple", data := .seq #[.int i tk, y] } := (sb.2 _ (Nat.ne_of_gt hel)).trans hT
    have new : ObjOk X.prog X.w (upd H s.heap.objs.size (.tup [.int (i : Nat), x])) h'' s.heap.objs.size (.tup [.int (i : Nat), x]) :=
      ⟨by show 2 ≤ sizeLine; decide, [.int i tk, y], .cons ⟨_, rfl⟩ (.cons ru .nil), ⟨_, hT2, rfl, _, rfl⟩⟩
    have I1 : Inv X pins σ (upd H s.heap.objs.size (.tup [.int (i : Nat), x])) { s with heap := h'', toks := tk + 1 } :=
      I.turnedNew (ch := [e, it]) (fun b ob hb q => (sb.2 b (fun z => hb (by simp [z]))).trans (hk b ob (fun z => hb (by simp [z])) (fun z => hb (by simp [z])) q)) hf (Nat.le_refl _) new
    have e1 : ((i + 1 : Nat) : Int) = (i : Int) + 1 := by omega
    refine ⟨.ref s.heap.objs.size, _, I1, rfl, ⟨_, x, rfl, I.hok.fresh (Nat.le_refl _), rfl, fun ys hy => by rw [I.tuple_inj hy hq]; exact hx⟩, ⟨⟨y, by rw [e1]; exact he'⟩, hst.1.at fun o q => (sb.2 it (Ne.symm hne)).trans q, hne⟩, fun b hb => ?_⟩
    have hb' : b < s.heap.objs.size := by
      rcases List.mem_cons.mp hb with z | z
      · rw [z]; exact hel
      · rw [List.mem_singleton.mp z]; exact hil
    rw [upd_ne (Nat.ne_of_lt hb')]
    exact (hf b hb).1
  done := by
    intro X hP hw hK hc i pins s σ H E I hf st hg
    subst hP hw hK
    obtain ⟨⟨old, he⟩, hit, hne⟩ := st
    obtain ⟨xs, hq, hx⟩ := hg
    obtain ⟨its, rv, p, hz⟩ := I.tuple hq
    have hh : X.A.in1.handled = none := I.ok.hd hc
    have hl := rv.length
    have hnone : its.toArray[i]? = none := by
      rw [List.getElem?_toArray]
      exact List.getElem?_eq_none (by omega)
    have D : Draws X.prog X.w X.A.in1 it [it, a] i (fun _ _ => True) (fun j h => j = i ∧ h.IsTupleIter it a i ∧ h.IsTuple a its.toArray) :=
      { live := fun _ _ st => let ⟨_, ⟨o, ho, _⟩, _⟩ := st; ⟨o, ho⟩
        frame := fun _ _ _ st hk => ⟨st.1, st.2.1.at fun o e => hk it List.mem_cons_self o e, st.2.2.at fun o e => hk a (List.mem_cons_of_mem _ List.mem_cons_self) o e⟩
        item := fun j s Q E hj st _ => absurd st.1 (Nat.ne_of_lt hj)
        done := fun s Q E st hE => wpAny_nextOf_tuple_end hh st.2.1 st.2.2 hnone hE }
    obtain ⟨f0, f1, f2, f3, f4, f5⟩ := hf it (List.mem_cons_of_mem _ List.mem_cons_self)
    exact wpAny_pyNext_enum_endD D he ⟨rfl, hit, p⟩ fun h' eb => ⟨rfl, I.turned (t' := s.toks) (fun b o hb q => eb b o hb q) f0 f1 f3 f4 f5⟩
  self := fun A i s Q E st h => let ⟨⟨_, he⟩, _⟩ := st; wpAny_pyIter_enum he h
def iEnumT (K : PySem.W.Frag) (ta : TA) : TI := fun σ H R => ta σ H fun vs H1 => ∃ a xs, vs = [.ref a] ∧ SqT K H1 a xs ∧ R (IteT K a) H1
theorem pi_enumT {X : Cx} {e : Expr} {ta : TA} {p pos tpos : Pos} {elts : List Expr} {kk : Nat} (hg : Gl X "enumerate") (hm : X.mg "enumerate" = none) (ha : PA X [e] ta) (hs : starEach [e] X.env = [(false, eval e X.env)] := by rfl) :
    PI X (.Tuple elts kk tpos) (.Call (.Name "enumerate" p) [e] [] pos) (iEnumT X.K ta) := by
  constructor
  intro pins s σ H R I h
  refine Call_ (ld_blt I hg hm boot_enumerate (PyProof.Rows.callWith_type1 (thn (ha.run pos pins s σ H _ I h) fun us s1 got => ?_) hs rfl))
  obtain ⟨vs, H1, I1, r1, a, xs, rfl, hq, q⟩ := got
  obtain ⟨u, rfl, ru⟩ := vals1 r1
  obtain rfl : u = Value.ref a := ru
  obtain ⟨its, rv, pt, hz⟩ := I1.tuple hq
  refine ax_enumCall (begins_tuple a its.toArray) pt fun h' he hi hk => wpAny_pyIter_enum he ?_
  have I2 : Inv X pins σ H1 { s1 with heap := h' } := I1.kept (t' := s1.toks) hk
  refine ⟨s1.heap.objs.size + 1, [s1.heap.objs.size + 1, s1.heap.objs.size], _, _, H1, rfl, I2, turn_enumT a (s1.heap.objs.size + 1) s1.heap.objs.size, ⟨⟨.none, he⟩, ⟨_, hi, rfl, rfl⟩, Nat.succ_ne_self _⟩, fun b hb => ?_, q⟩
  have hle : s1.heap.objs.size ≤ b := by
    rcases List.mem_cons.mp hb with z | z
    · rw [z]; exact Nat.le_add_right _ _
    · rw [List.mem_singleton.mp z]; exact Nat.le_refl _
  exact I1.fpOk hle (I1.hok.fresh hle)
theorem walk_enumT {K : PySem.W.Frag} {a : Addr} {xs : List V} : Walk (IteT K a) xs.length (fun H => SqT K H a xs) (YPair (fun i => some (.int (i : Nat))) (fun i => xs[i]?)) := by
  refine ⟨fun i _ hi q => ⟨xs, xs[i], q, List.getElem?_eq_getElem hi⟩, fun _ q => ⟨xs, q, Nat.le_refl _⟩, fun i H v H' _ q y => ?_⟩
  obtain ⟨T, x, h1, h2, h3, h4⟩ := y
  exact ⟨T, _, x, h1, h2, h3, rfl, h4 xs q⟩
/-! ### xs.extend(t) -/
def rExtT : V → List V → Hp → VK → Prop := fun x vs H Q => ∃ (l b : Addr) (xs zs : List V) (ob : Obj), x = .ref l ∧ vs = [.ref b] ∧ H l = some (.lst xs) ∧ H b = some (.frz ob (.tup zs)) ∧ ob.cls = .type "tuple" ∧ (ob.dict = none ∧ ob.slots = #[]) ∧ xs.length + zs.length ≤ sizeLine ∧ Q .non (upd H l (.lst (xs ++ zs)))
theorem mt_extendT {X : Cx} : MtM X "list.extend" rExtT := by
  intro pins s σ H x vs v us Q I rx rv h
  obtain ⟨l, b, xs, zs, ob, rfl, rfl, hH, hB, hc, ⟨hd, hs⟩, hz, q⟩ := h
  cases rx
  obtain ⟨u, rfl, ru⟩ := rv.one
  cases ru
  obtain ⟨z, its, n, r, hl, e⟩ := I.lstM hH
  obtain ⟨e2, z2, its2, r2, ob2, e3, hc2, n2, hd2⟩ := I.hok b _ hB
  rw [e2] at e3
  cases Option.some.inj e3
  have l1 := r.length
  have l2 := r2.length
  have eo : ob = { cls := .type "tuple", dict := none, data := .seq its2.toArray n2, slots := #[] } := by
    obtain ⟨oc, od, dt, sl⟩ := ob
    dsimp only at hc hd hs hd2
    rw [hc, hd, hs, hd2]
  rw [eo] at e2
  have hsz : its.toArray.size + its2.toArray.size ≤ sizeLine := by
    rw [List.size_toArray, List.size_toArray]
    omega
  have few : ¬ (!its.toArray.isEmpty && Builtin.List.listTooLong (its.toArray.size + its2.toArray.size)) = true := by
    rw [notLongL hsz, Bool.and_false]
    exact Bool.false_ne_true
  refine call_meets F.slot_list_extend ⟨_, e, rfl⟩ F.entry_list_extend (F.args_list_extend_2 _ _) (AutoSeq1.list_extend_list_tuple_0 l its.toArray n b its2.toArray n2 few (by omega) (by omega)) ⟨e, e2, ?_⟩
  refine ⟨.non, _, I.lset (its' := its ++ its2) hH e (by simp) (r.append r2) ?_, rfl, q⟩
  rw [List.length_append]
  omega
end Ax
set_option maxHeartbeats 2000000
/-! A layer of data over the hand layer: values as data, lists of a def's own, the law's bag; what a step leaves. -/
namespace DL
open PySem PySem.Spec PyProof.Rows L2 Ax
/-- the row's program, the World, what is written -/
structure Bk where
  P : Program
  w : World
  K : PySem.W.Frag
instance : CoeOut Bk PySem.W.Frag := ⟨fun b => b.K⟩
structure Bd where
  P : Program
  w : World
  K : PySem.W.Frag
  E : XK
def nE : XK := fun _ _ _ => False
abbrev Bd.k (b : Bd) : Bk := ⟨b.P, b.w, b.K⟩
instance : CoeOut Bd Bk := ⟨Bd.k⟩
instance : CoeOut Bd PySem.W.Frag := ⟨fun b => b.K⟩
inductive D where
  | non | bl (b : Bool) | int (i : Int) | str (x : Str) | lst (ds : List D) | tup (ds : List D) | tpz (ds : List D) | ins (C : Str) (ks : List Str) (ds : List D) | dic (ks : List L2.Key) (ds : List D) | dnk (ks : List NK) (ds : List D)
mutual
def toP : D → PyData
  | .non => .none
  | .bl b => .bool b
  | .int i => .int i
  | .str x => .str x
  | .lst ds => .list (toPs ds)
  | .tup ds => .tuple (toPs ds)
  | .tpz ds => .tuple (toPs ds)
  | .ins _ _ _ => .dict []
  | .dic _ _ => .dict []
  | .dnk _ _ => .dict []
def toPs : List D → List PyData
  | [] => []
  | d :: ds => toP d :: toPs ds
end
mutual
/-- no instance within -/
def pureD : D → Bool
  | .lst ds => pureA ds
  | .tup ds => pureA ds
  | .tpz ds => pureA ds
  | .ins _ _ _ => false
  | .dic _ _ => false
  | .dnk _ _ => false
  | _ => true
def pureA : List D → Bool
  | [] => true
  | d :: ds => pureD d && pureA ds
end
theorem toPs_map : ∀ ds : List D, toPs ds = ds.map toP
  | [] => by simp [toPs]
  | d :: ds => by simp [toPs, toPs_map ds]
/-! ### keys of dicts as data -/
mutual
def dN : NK → D
  | .none => .non
  | .num i => .int i
  | .text x => .str x
  | .tup ks => .tup (dNs ks)
def dNs : List NK → List D
  | [] => []
  | k :: ks => dN k :: dNs ks
end
mutual
inductive Rp (K : Bk) (B : Hp) : V → D → Prop
  | non : Rp K B .non .non
  | bl (b : Bool) : Rp K B (.bl b) (.bl b)
  | int (i : Int) : Rp K B (.int i) (.int i)
  | str (x : Str) : Rp K B (.str x) (.str x)
  | lst {a : Addr} {xs : List V} {ds : List D} : B a = some (.lst xs) → RpA K B xs ds → Rp K B (.ref a) (.lst ds)
  | tup {a : Addr} {xs : List V} {ds : List D} : SqT K B a xs → RpA K B xs ds → Rp K B (.ref a) (.tup ds)
  | tpz {a : Addr} {ob : Obj} {xs : List V} {ds : List D} : B a = some (.frz ob (.tup xs)) → ob.cls = .type "tuple" → ob.dict = none → RpA K B xs ds → Rp K B (.ref a) (.tpz ds)
  | ins {a dx : Addr} {C : Str} {ks : List Str} {xs : List V} {ds : List D} : B a = some (.ins (He.ga K C) dx (ks.zip xs)) → xs.length = ks.length → RpA K B xs ds → Rp K B (.ref a) (.ins C ks ds)
  | dic {a : Addr} {ks : List L2.Key} {xs : List V} {ds : List D} : B a = some (.dK (ks.zip xs)) → xs.length = ks.length → RpA K B xs ds → Rp K B (.ref a) (.dic ks ds)
  | dnk {a : Addr} {ks : List NK} {as : List Addr} {xs : List V} {ds : List D} : B a = some (NdO K.P K.w a (ks.zip (as.zip xs))) → as.length = ks.length → xs.length = ks.length → (∀ k ∈ ks, k.depth ≤ 8) → RpA K B (as.map V.ref) (dNs ks) → RpA K B xs ds → Rp K B (.ref a) (.dnk ks ds)
inductive RpA (K : Bk) (B : Hp) : List V → List D → Prop
  | nil : RpA K B [] []
  | cons {v : V} {vs : List V} {d : D} {ds : List D} : Rp K B v d → RpA K B vs ds → RpA K B (v :: vs) (d :: ds)
end
section
variable {K : Bk} {B B' : Hp}
mutual
theorem Rp.ext (x : Ext B B') : ∀ {v : V} {d : D}, Rp K B v d → Rp K B' v d
  | _, _, .non => .non
  | _, _, .bl b => .bl b
  | _, _, .int i => .int i
  | _, _, .str s => .str s
  | _, _, .lst h g => .lst (x _ _ h) (RpA.ext x g)
  | _, _, .tup h g => .tup (h.ext x) (RpA.ext x g)
  | _, _, .tpz h e1 e2 g => .tpz (x _ _ h) e1 e2 (RpA.ext x g)
  | _, _, .ins h e g => .ins (x _ _ h) e (RpA.ext x g)
  | _, _, .dic h e g => .dic (x _ _ h) e (RpA.ext x g)
  | _, _, .dnk h e1 e2 e3 g1 g2 => .dnk (x _ _ h) e1 e2 e3 (RpA.ext x g1) (RpA.ext x g2)
theorem RpA.ext (x : Ext B B') : ∀ {vs : List V} {ds : List D}, RpA K B vs ds → RpA K B' vs ds
  | _, _, .nil => .nil
  | _, _, .cons h g => .cons (Rp.ext x h) (RpA.ext x g)
end
mutual
theorem Rp.dp : ∀ {v : V} {d : D}, Rp K B v d → pureD d = true → Dp K B v (toP d)
  | _, _, .non, _ => .non
  | _, _, .bl b, _ => .bl b
  | _, _, .int i, _ => .int i
  | _, _, .str s, _ => .str s
  | _, _, .lst h g, p => .lst (SqL.of h) (RpA.dp g (by simpa [pureD] using p))
  | _, _, .tup h g, p => .tup h (RpA.dp g (by simpa [pureD] using p))
  | _, _, .tpz h _ _ g, p => .tup (.inl (.inr ⟨_, h⟩)) (RpA.dp g (by simpa [pureD] using p))
  | _, _, .ins _ _ _, p => by simp [pureD] at p
  | _, _, .dic _ _ _, p => by simp [pureD] at p
  | _, _, .dnk _ _ _ _ _ _, p => by simp [pureD] at p
theorem RpA.dp : ∀ {vs : List V} {ds : List D}, RpA K B vs ds → pureA ds = true → DpAll K B vs (toPs ds)
  | _, _, .nil, _ => by simp only [toPs]; exact .nil
  | _, _, .cons h g, p => by
    simp only [pureA, Bool.and_eq_true] at p
    simp only [toPs]
    exact .cons (Rp.dp h p.1) (RpA.dp g p.2)
end
theorem RpA.len : ∀ {vs : List V} {ds : List D}, RpA K B vs ds → vs.length = ds.length
  | _, _, .nil => rfl
  | _, _, .cons _ g => congrArg (· + 1) (RpA.len g)
theorem RpA.get : ∀ {vs : List V} {ds : List D}, RpA K B vs ds → ∀ {i : Nat} {v : V}, vs[i]? = some v → ∃ d, ds[i]? = some d ∧ Rp K B v d
  | _, _, .nil, i, v, h => by simp at h
  | _, _, .cons h g, 0, v, e => by
    simp only [List.getElem?_cons_zero, Option.some.injEq] at e
    subst e
    exact ⟨_, by simp, h⟩
  | _, _, .cons h g, i + 1, v, e => by
    simp only [List.getElem?_cons_succ] at e ⊢
    exact RpA.get g e
theorem RpA.getD : ∀ {vs : List V} {ds : List D}, RpA K B vs ds → ∀ {i : Nat} {d : D}, ds[i]? = some d → ∃ v, vs[i]? = some v ∧ Rp K B v d
  | _, _, .nil, i, v, h => by simp at h
  | _, _, .cons h g, 0, v, e => by
    simp only [List.getElem?_cons_zero, Option.some.injEq] at e
    subst e
    exact ⟨_, by simp, h⟩
  | _, _, .cons h g, i + 1, v, e => by
    simp only [List.getElem?_cons_succ] at e ⊢
    exact RpA.getD g e
theorem RpA.app : ∀ {vs ws : List V} {ds es : List D}, RpA K B vs ds → RpA K B ws es → RpA K B (vs ++ ws) (ds ++ es)
  | _, _, _, _, .nil, g => g
  | _, _, _, _, .cons h t, g => .cons h (RpA.app t g)
theorem RpA.snoc {vs : List V} {ds : List D} {v : V} {d : D} (h : RpA K B vs ds) (g : Rp K B v d) : RpA K B (vs ++ [v]) (ds ++ [d]) := h.app (.cons g .nil)
theorem RpA.take : ∀ {vs : List V} {ds : List D} (n : Nat), RpA K B vs ds → RpA K B (vs.take n) (ds.take n)
  | _, _, 0, _ => .nil
  | _, _, _ + 1, .nil => .nil
  | _, _, n + 1, .cons h t => .cons h (RpA.take n t)
theorem RpA.drop : ∀ {vs : List V} {ds : List D} (n : Nat), RpA K B vs ds → RpA K B (vs.drop n) (ds.drop n)
  | _, _, 0, h => h
  | _, _, _ + 1, .nil => .nil
  | _, _, n + 1, .cons _ t => RpA.drop n t
theorem RpA.erase : ∀ {vs : List V} {ds : List D} (n : Nat), RpA K B vs ds → RpA K B (vs.eraseIdx n) (ds.eraseIdx n)
  | _, _, _, .nil => .nil
  | _, _, 0, .cons _ t => t
  | _, _, n + 1, .cons h t => .cons h (RpA.erase n t)
theorem RpA.set {v : V} {d : D} (r : Rp K B v d) : ∀ {vs : List V} {ds : List D} (n : Nat), RpA K B vs ds → RpA K B (vs.set n v) (ds.set n d)
  | _, _, _, .nil => .nil
  | _, _, 0, .cons _ t => .cons r t
  | _, _, n + 1, .cons h t => .cons h (RpA.set r n t)
theorem RpA.rev : ∀ {vs : List V} {ds : List D}, RpA K B vs ds → RpA K B vs.reverse ds.reverse
  | _, _, .nil => .nil
  | _, _, .cons h t => by
    rw [List.reverse_cons, List.reverse_cons]
    exact (RpA.rev t).snoc h
end
/-! ### keys as data -/
mutual
theorem toP_dN : ∀ k : NK, toP (dN k) = nkD k
  | .none => by simp [dN, toP, nkD]
  | .num i => by simp [dN, toP, nkD]
  | .text x => by simp [dN, toP, nkD]
  | .tup ks => by simp [dN, toP, nkD, toPs_dN ks]
theorem toPs_dN : ∀ ks : List NK, toPs (dNs ks) = nkDs ks
  | [] => by simp [dNs, toPs, nkDs]
  | k :: ks => by simp [dNs, toPs, nkDs, toP_dN k, toPs_dN ks]
end
mutual
theorem pure_dN : ∀ k : NK, pureD (dN k) = true
  | .none => by simp [dN, pureD]
  | .num i => by simp [dN, pureD]
  | .text x => by simp [dN, pureD]
  | .tup ks => by simp [dN, pureD, pure_dNs ks]
theorem pure_dNs : ∀ ks : List NK, pureA (dNs ks) = true
  | [] => by simp [dNs, pureA]
  | k :: ks => by simp [dNs, pureA, pure_dN k, pure_dNs ks]
end
/-! ### what a def knows: its slots as data -/
inductive En where
  | val (d : D) | own (ds : List D) | dct (kvs : List (NK × D)) | dck (kvs : List (L2.Key × D)) | obj (a : Addr) (C : Str) (ks : List Str) (ds : List D) | bag
def En.isOwn : En → Bool
  | .own _ => true
  | .dct _ => true
  | .dck _ => true
  | .obj _ _ _ _ => true
  | _ => false
structure Stt where
  r : List (Option En)
  n : Nat
inductive W where
  | dat (d : D) | loc (i : Nat) | new (ds : List D)
structure Fx where
  bd : Bd
  b : Addr
  c : Addr
  ms : List Int
  on : Bool
abbrev Fx.P (F : Fx) : Program := F.bd.P
abbrev Fx.w (F : Fx) : World := F.bd.w
abbrev Fx.K (F : Fx) : Bk := F.bd.k
def BagAt (H : Hp) (b c : Addr) (ms : List Int) (n : Nat) : Prop := ∃ t r : Int, H b = some (.lst [.ref c, .int t, .int r]) ∧ H c = some (.lst (ms.map V.int)) ∧ b ≠ c ∧ 0 ≤ t ∧ t ≤ n ∧ 0 ≤ r ∧ ms ≠ [] ∧ ms.length ≤ 63 ∧ ∀ m ∈ ms, 0 ≤ m
theorem BagAt.ext {H H' : Hp} {b c : Addr} {ms : List Int} {n : Nat} (h : BagAt H b c ms n) (x : Ext H H') : BagAt H' b c ms n := by
  obtain ⟨t, r, h1, h2, h3⟩ := h
  exact ⟨t, r, x _ _ h1, x _ _ h2, h3⟩
theorem BagAt.mono {H : Hp} {b c : Addr} {ms : List Int} {n m : Nat} (h : BagAt H b c ms n) (x : n ≤ m) : BagAt H b c ms m := by
  obtain ⟨t, r, h1, h2, h3, h4, h5, h6⟩ := h
  exact ⟨t, r, h1, h2, h3, h4, by omega, h6⟩
theorem BagAt.at_ {H H' : Hp} {b c : Addr} {ms : List Int} {n : Nat} (h : BagAt H b c ms n) (e1 : H' b = H b) (e2 : H' c = H c) : BagAt H' b c ms n := by
  obtain ⟨t, r, h1, h2, h3⟩ := h
  exact ⟨t, r, e1.trans h1, e2.trans h2, h3⟩
structure Cf where
  B : Hp
  H : Hp
  σ : L2.St
  s : Stt
def Own (c : Cf) (a : Addr) : Prop := ∃ (i : Nat) (e : En), c.s.r[i]? = some (some e) ∧ e.isOwn = true ∧ c.σ[i]? = some (some (V.ref a))
def MutA (F : Fx) (c : Cf) (a : Addr) : Prop := Own c a ∨ (F.on = true ∧ a = F.b)
/-- an entry of a dict with tuples as keys, of one with whole numbers and texts -/
def KtR (K : Bk) (B : Hp) (p : NK × Addr × V) (q : NK × D) : Prop := p.1 = q.1 ∧ p.1.depth ≤ 8 ∧ Rp K B (.ref p.2.1) (dN q.1) ∧ Rp K B p.2.2 q.2
def KkR (K : Bk) (B : Hp) (p : L2.Key × V) (q : L2.Key × D) : Prop := p.1 = q.1 ∧ Rp K B p.2 q.2
/-- what stands at l, a thing of one's own -/
def OwR (F : Fx) (B : Hp) (l : Addr) : En → HO → Prop
  | .own ds, o => ∃ vs, o = .lst vs ∧ RpA F.K B vs ds
  | .dct kvs, o => ∃ ks, o = NdO F.P F.w l ks ∧ Paired (KtR F.K B) ks kvs
  | .dck kvs, o => ∃ ks, o = .dK ks ∧ Paired (KkR F.K B) ks kvs
  | .obj a C ks ds, o => l = a ∧ ∃ dx vs, o = .ins (He.ga F.K C) dx (ks.zip vs) ∧ vs.length = ks.length ∧ RpA F.K B vs ds
  | _, _ => False
theorem Paired.imp' {α β : Type} {R S : α → β → Prop} (h : ∀ a b, R a b → S a b) : ∀ {as : List α} {bs : List β}, Paired R as bs → Paired S as bs
  | _, _, .nil => .nil
  | _, _, .cons r t => .cons (h _ _ r) (Paired.imp' h t)
theorem OwR.ext {F : Fx} {B B' : Hp} {l : Addr} {e : En} {o : HO} (h : OwR F B l e o) (x : Ext B B') : OwR F B' l e o := by
  cases e with
  | own ds => obtain ⟨vs, h1, h2⟩ := h; exact ⟨vs, h1, h2.ext x⟩
  | dct kvs => obtain ⟨ks, h1, h2⟩ := h; exact ⟨ks, h1, Paired.imp' (fun p q ⟨a, c, d, e⟩ => ⟨a, c, d.ext x, e.ext x⟩) h2⟩
  | dck kvs => obtain ⟨ks, h1, h2⟩ := h; exact ⟨ks, h1, Paired.imp' (fun p q ⟨a, e⟩ => ⟨a, e.ext x⟩) h2⟩
  | obj a C ks ds => obtain ⟨h0, dx, vs, h1, h2, h3⟩ := h; exact ⟨h0, dx, vs, h1, h2, h3.ext x⟩
  | _ => exact h.elim
theorem OwR.isOwn {F : Fx} {B : Hp} {l : Addr} {e : En} {o : HO} (h : OwR F B l e o) : e.isOwn = true := by
  cases e with
  | own ds => rfl
  | dct kvs => rfl
  | dck kvs => rfl
  | obj a C ks ds => rfl
  | _ => exact h.elim
def OwE (F : Fx) (c : Cf) (i : Nat) (e : En) : Prop := ∃ l o, c.σ[i]? = some (some (.ref l)) ∧ c.H l = some o ∧ OwR F c.B l e o ∧ c.B l = none ∧ (F.on = true → l ≠ F.b ∧ l ≠ F.c)
def EnR (F : Fx) (c : Cf) (i : Nat) (e : En) : Prop := match e with
  | .val d => ∃ v, c.σ[i]? = some (some v) ∧ Rp F.K c.B v d
  | .bag => F.on = true ∧ c.σ[i]? = some (some (.ref F.b))
  | .own ds => OwE F c i (.own ds)
  | .dct kvs => OwE F c i (.dct kvs)
  | .dck kvs => OwE F c i (.dck kvs)
  | .obj a C ks ds => OwE F c i (.obj a C ks ds)
theorem EnR.own {F : Fx} {c : Cf} {i : Nat} {e : En} (h : EnR F c i e) (o : e.isOwn = true) : OwE F c i e := by
  cases e with
  | val d => cases o
  | bag => cases o
  | _ => exact h
structure Rep (F : Fx) (c : Cf) : Prop where
  le : Ext c.B c.H
  len : c.σ.length = c.s.r.length
  at_ : ∀ (i : Nat) (e : En), c.s.r[i]? = some (some e) → EnR F c i e
  sep : ∀ (i j : Nat) (ei ej : En) (l : Addr), c.s.r[i]? = some (some ei) → ei.isOwn = true → c.s.r[j]? = some (some ej) → ej.isOwn = true → c.σ[i]? = some (some (V.ref l)) → c.σ[j]? = some (some (V.ref l)) → i = j
  bag : F.on = true → BagAt c.H F.b F.c F.ms c.s.n ∧ c.B F.b = none ∧ c.B F.c = none
structure Go (F : Fx) (c c' : Cf) : Prop where
  b : Ext c.B c'.B
  fr : ∀ a o, c.H a = some o → ¬ MutA F c a → c'.H a = some o
  nb : ∀ a, c'.B a ≠ none → c.B a = none → c.H a = none ∨ Own c a
  ow : ∀ a, Own c' a → Own c a ∨ c.H a = none
  dom : ∀ a, c.H a ≠ none → c'.H a ≠ none
theorem Go.rfl' {F : Fx} {c : Cf} : Go F c c := ⟨Ext.rfl', fun _ _ h _ => h, fun a h q => absurd q h, fun _ h => .inl h, fun _ h => h⟩
theorem Go.trans {F : Fx} {c c1 c2 : Cf} (g : Go F c c1) (h : Go F c1 c2) : Go F c c2 where
  b := g.b.trans h.b
  fr a o e n := h.fr a o (g.fr a o e n) fun m => by
    rcases m with m | m
    · rcases g.ow a m with q | q
      · exact n (.inl q)
      · rw [q] at e; cases e
    · exact n (.inr m)
  nb a e n := by
    by_cases q : c1.B a = none
    · rcases h.nb a e q with z | z
      · left
        cases e2 : c.H a with
        | none => rfl
        | some o => exact absurd z (g.dom a (by rw [e2]; exact fun x => nomatch x))
      · rcases g.ow a z with y | y
        · exact .inr y
        · exact .inl y
    · exact g.nb a q n
  ow a m := by
    rcases h.ow a m with q | q
    · exact g.ow a q
    · right
      cases e2 : c.H a with
      | none => rfl
      | some o => exact absurd q (g.dom a (by rw [e2]; exact fun x => nomatch x))
  dom a e := h.dom a (g.dom a e)
theorem Go.hnone {F : Fx} {c c' : Cf} (g : Go F c c') {a : Addr} (h : c'.H a = none) : c.H a = none := by
  cases e2 : c.H a with
  | none => rfl
  | some o => exact absurd h (g.dom a (by rw [e2]; exact fun x => nomatch x))
structure GoE (F : Fx) (c c' : Cf) : Prop where
  go : Go F c c'
  σ : c'.σ = c.σ
  kp : ∀ (i : Nat) (e : En), c.s.r[i]? = some (some e) → ∃ e', c'.s.r[i]? = some (some e')
theorem GoE.rfl' {F : Fx} {c : Cf} : GoE F c c := ⟨Go.rfl', rfl, fun _ e h => ⟨e, h⟩⟩
theorem GoE.trans {F : Fx} {c c1 c2 : Cf} (g : GoE F c c1) (h : GoE F c1 c2) : GoE F c c2 :=
  ⟨g.go.trans h.go, h.σ.trans g.σ, fun i e q => let ⟨e', q'⟩ := g.kp i e q; h.kp i e' q'⟩
/-- what a value is; H0: the heap at the beginning -/
def Den (F : Fx) (H0 : Hp) (c : Cf) (v : V) : W → Prop
  | .dat d => Rp F.K c.B v d
  | .loc i => c.σ[i]? = some (some v) ∧ ∃ e, c.s.r[i]? = some (some e)
  | .new ds => ∃ l vs, v = .ref l ∧ c.H l = some (.lst vs) ∧ RpA F.K c.B vs ds ∧ c.B l = none ∧ ¬ Own c l ∧ (F.on = true → l ≠ F.b ∧ l ≠ F.c) ∧ H0 l = none
theorem Den.keep {F : Fx} {H0 : Hp} {c c' : Cf} {v : V} {w : W} (h : Den F H0 c v w) (g : GoE F c c') : Den F H0 c' v w := by
  cases w with
  | dat d => exact Rp.ext g.go.b h
  | loc i =>
    obtain ⟨h1, e, h2⟩ := h
    exact ⟨by rw [g.σ]; exact h1, g.kp i e h2⟩
  | new ds =>
    obtain ⟨l, vs, h1, h2, h3, h4, h5, h6, h7⟩ := h
    refine ⟨l, vs, h1, g.go.fr l _ h2 (fun m => ?_), h3.ext g.go.b, ?_, fun m => ?_, h6, h7⟩
    · rcases m with m | ⟨m1, m2⟩
      · exact h5 m
      · exact (h6 m1).1 m2
    · cases q : c'.B l with
      | none => rfl
      | some o =>
        rcases g.go.nb l (by rw [q]; exact fun x => nomatch x) h4 with z | z
        · rw [h2] at z; cases z
        · exact absurd z h5
    · rcases g.go.ow l m with z | z
      · exact h5 z
      · rw [h2] at z; cases z
theorem Den.back {F : Fx} {c c1 c' : Cf} {v : V} {w : W} (h : Den F c1.H c' v w) (g : Go F c c1) : Den F c.H c' v w := by
  cases w with
  | dat d => exact h
  | loc i => exact h
  | new ds =>
    obtain ⟨l, vs, h1, h2, h3, h4, h5, h6, h7⟩ := h
    exact ⟨l, vs, h1, h2, h3, h4, h5, h6, g.hnone h7⟩
/-- a value as data, as it stands now -/
def rd : W → Stt → Option D
  | .dat d, _ => some d
  | .loc i, s => match s.r[i]? with
    | some (some (.val d)) => some d
    | some (some (.own ds)) => some (.lst ds)
    | _ => none
  | .new ds, _ => some (.lst ds)
/-- a value that reads as data: told for good, or a list of one's own -/
def Rq (F : Fx) (c : Cf) (v : V) (d : D) : Prop := Rp F.K c.B v d ∨ ∃ l vs ds, v = .ref l ∧ d = .lst ds ∧ c.H l = some (.lst vs) ∧ RpA F.K c.B vs ds
theorem rd_ok {F : Fx} {H0 : Hp} {c : Cf} {v : V} {w : W} {d : D} (R : Rep F c) (h : Den F H0 c v w) (e : rd w c.s = some d) : Rq F c v d := by
  cases w with
  | dat d' =>
    cases Option.some.inj e
    exact .inl h
  | loc i =>
    obtain ⟨h1, en, h2⟩ := h
    simp only [rd, h2] at e
    have q := R.at_ i en h2
    cases en with
    | val d' =>
      cases Option.some.inj e
      obtain ⟨v', q1, q2⟩ := q
      rw [h1] at q1
      cases q1
      exact .inl q2
    | own ds =>
      cases Option.some.inj e
      obtain ⟨l, o, q1, q2, ⟨vs, rfl, q3⟩, _⟩ := q
      rw [h1] at q1
      cases q1
      exact .inr ⟨l, vs, ds, rfl, rfl, q2, q3⟩
    | _ => cases e
  | new ds =>
    cases Option.some.inj e
    obtain ⟨l, vs, h1, h2, h3, _⟩ := h
    exact .inr ⟨l, vs, ds, h1, rfl, h2, h3⟩
theorem Rq.rp {F : Fx} {c : Cf} {v : V} {d : D} (R : Rep F c) (h : Rq F c v d) : Rp F.K c.H v d := by
  rcases h with h | ⟨l, vs, ds, rfl, rfl, h1, h2⟩
  · exact h.ext R.le
  · exact .lst h1 (h2.ext R.le)
theorem Rq.lst {F : Fx} {c : Cf} {v : V} {ds : List D} (R : Rep F c) (h : Rq F c v (.lst ds)) : ∃ a vs, v = .ref a ∧ c.H a = some (.lst vs) ∧ RpA F.K c.B vs ds := by
  rcases h with h | ⟨l, vs, ds', rfl, e, h1, h2⟩
  · cases h with
    | lst h1 h2 => exact ⟨_, _, rfl, R.le _ _ h1, h2⟩
  · cases e
    exact ⟨l, vs, rfl, h1, h2⟩
theorem Rq.tup {F : Fx} {c : Cf} {v : V} {ds : List D} (R : Rep F c) (h : Rq F c v (.tup ds)) : ∃ a vs, v = .ref a ∧ SqT F.K c.H a vs ∧ RpA F.K c.B vs ds := by
  rcases h with h | ⟨l, vs, ds', rfl, e, h1, h2⟩
  · cases h with
    | tup h1 h2 => exact ⟨_, _, rfl, h1.ext R.le, h2⟩
  · cases e
theorem Rq.tpz {F : Fx} {c : Cf} {v : V} {ds : List D} (R : Rep F c) (h : Rq F c v (.tpz ds)) : ∃ a ob vs, v = .ref a ∧ c.H a = some (.frz ob (.tup vs)) ∧ ob.cls = .type "tuple" ∧ ob.dict = none ∧ SqT F.K c.H a vs ∧ RpA F.K c.B vs ds ∧ Rp F.K c.B v (.tpz ds) := by
  rcases h with h | ⟨l, vs, ds', rfl, e, h1, h2⟩
  · cases h with
    | tpz h1 h2 h3 h4 => exact ⟨_, _, _, rfl, R.le _ _ h1, h2, h3, .inl (.inr ⟨_, R.le _ _ h1⟩), h4, .tpz h1 h2 h3 h4⟩
  · cases e
theorem Rq.int {F : Fx} {c : Cf} {v : V} {i : Int} (h : Rq F c v (.int i)) : v = .int i := by
  rcases h with h | ⟨l, vs, ds', rfl, e, h1, h2⟩
  · cases h; rfl
  · cases e
theorem Rq.bl {F : Fx} {c : Cf} {v : V} {i : Bool} (h : Rq F c v (.bl i)) : v = .bl i := by
  rcases h with h | ⟨l, vs, ds', rfl, e, h1, h2⟩
  · cases h; rfl
  · cases e
theorem Rq.str {F : Fx} {c : Cf} {v : V} {i : Str} (h : Rq F c v (.str i)) : v = .str i := by
  rcases h with h | ⟨l, vs, ds', rfl, e, h1, h2⟩
  · cases h; rfl
  · cases e
theorem Rq.non {F : Fx} {c : Cf} {v : V} (h : Rq F c v .non) : v = .non := by
  rcases h with h | ⟨l, vs, ds', rfl, e, h1, h2⟩
  · cases h; rfl
  · cases e
/-! ### new things -/
section
variable {F : Fx} {c : Cf}
theorem Own.ofEq {c c' : Cf} {a : Addr} (h : Own c' a) (e1 : c'.σ = c.σ) (e2 : c'.s = c.s) : Own c a := by
  obtain ⟨i, ds, h1, h0, h2⟩ := h
  exact ⟨i, ds, by rw [← e2]; exact h1, h0, by rw [← e1]; exact h2⟩
/-- a new thing told for good -/
theorem Rep.putB (R : Rep F c) {p : Addr} {o : HO} (hp : c.H p = none) : Rep F { c with B := upd c.B p o, H := upd c.H p o } ∧ GoE F c { c with B := upd c.B p o, H := upd c.H p o } := by
  have hB : c.B p = none := by
    cases q : c.B p with
    | none => rfl
    | some u => rw [R.le _ _ q] at hp; cases hp
  have xB : Ext c.B (upd c.B p o) := Ext.upd hB
  have xH : Ext c.H (upd c.H p o) := Ext.upd hp
  refine ⟨⟨?_, R.len, ?_, R.sep, ?_⟩, ⟨⟨xB, fun a u e _ => xH a u e, fun a e n => ?_, fun a h => .inl (h.ofEq rfl rfl), fun a h => ?_⟩, rfl, fun i e h => ⟨e, h⟩⟩⟩
  · intro a u e
    show (upd c.H p o) a = some u
    by_cases z : a = p
    · have e' : (upd c.B p o) a = some u := e
      rw [z, upd_same] at e' ⊢
      exact e'
    · have e' : (upd c.B p o) a = some u := e
      rw [upd_ne z] at e' ⊢
      exact R.le a u e'
  · intro i e h
    have q := R.at_ i e h
    cases e with
    | val d => obtain ⟨v, q1, q2⟩ := q; exact ⟨v, q1, q2.ext xB⟩
    | bag => exact q
    | _ =>
      obtain ⟨l, vs, q1, q2, q3, q4, q5⟩ := q
      refine ⟨l, vs, q1, xH _ _ q2, q3.ext xB, ?_, q5⟩
      show (upd c.B p o) l = none
      rw [upd_ne (ne_of_none q2 hp)]
      exact q4
  · intro on
    obtain ⟨q1, q2, q3⟩ := R.bag on
    obtain ⟨t, r, h1, h2, _⟩ := id q1
    refine ⟨q1.ext xH, ?_, ?_⟩
    · show (upd c.B p o) F.b = none
      rw [upd_ne (ne_of_none h1 hp)]
      exact q2
    · show (upd c.B p o) F.c = none
      rw [upd_ne (ne_of_none h2 hp)]
      exact q3
  · left
    have e' : (upd c.B p o) a ≠ none := e
    by_cases z : a = p
    · rw [z]; exact hp
    · rw [upd_ne z] at e'
      exact absurd n e'
  · show (upd c.H p o) a ≠ none
    by_cases z : a = p
    · rw [z, upd_same]; exact fun x => nomatch x
    · rw [upd_ne z]; exact h
/-- a new thing that is not told of yet -/
theorem Rep.putH (R : Rep F c) {p : Addr} {o : HO} (hp : c.H p = none) : Rep F { c with H := upd c.H p o } ∧ GoE F c { c with H := upd c.H p o } := by
  have xH : Ext c.H (upd c.H p o) := Ext.upd hp
  refine ⟨⟨R.le.trans xH, R.len, ?_, R.sep, ?_⟩, ⟨⟨Ext.rfl', fun a u e _ => xH a u e, fun a e n => absurd n e, fun a h => .inl (h.ofEq rfl rfl), fun a h => ?_⟩, rfl, fun i e h => ⟨e, h⟩⟩⟩
  · intro i e h
    have q := R.at_ i e h
    cases e with
    | val d => exact q
    | bag => exact q
    | _ =>
      obtain ⟨l, vs, q1, q2, q3, q4, q5⟩ := q
      exact ⟨l, vs, q1, xH _ _ q2, q3, q4, q5⟩
  · intro on
    obtain ⟨q1, q2, q3⟩ := R.bag on
    exact ⟨q1.ext xH, q2, q3⟩
  · show (upd c.H p o) a ≠ none
    by_cases z : a = p
    · rw [z, upd_same]; exact fun x => nomatch x
    · rw [upd_ne z]; exact h
theorem Rep.notB (R : Rep F c) {p : Addr} (hp : c.H p = none) : c.B p = none := by
  cases q : c.B p with
  | none => rfl
  | some u => rw [R.le _ _ q] at hp; cases hp
theorem Rep.notOwn (R : Rep F c) {p : Addr} (hp : c.H p = none) : ¬ Own c p := fun ⟨i, ds, h1, h0, h2⟩ => by
  obtain ⟨l, vs, q1, q2, _⟩ := (R.at_ i _ h1).own h0
  rw [h2] at q1
  cases q1
  rw [hp] at q2
  cases q2
theorem Rep.notBag (R : Rep F c) {p : Addr} (hp : c.H p = none) (on : F.on = true) : p ≠ F.b ∧ p ≠ F.c := by
  obtain ⟨⟨t, r, h1, h2, _⟩, _, _⟩ := R.bag on
  exact ⟨(ne_of_none h1 hp).symm, (ne_of_none h2 hp).symm⟩
theorem Rep.newT (R : Rep F c) {p : Addr} {vs : List V} {ds : List D} (hp : c.H p = none) (hv : RpA F.K c.B vs ds) :
    ∃ c', c'.H = upd c.H p (.tup vs) ∧ c'.s = c.s ∧ Rep F c' ∧ GoE F c c' ∧ Rp F.K c'.B (.ref p) (.tup ds) := by
  obtain ⟨R', G⟩ := R.putB (o := .tup vs) hp
  exact ⟨{ c with B := upd c.B p (.tup vs), H := upd c.H p (.tup vs) }, rfl, rfl, R', G, .tup (SqT.of upd_same) (hv.ext G.go.b)⟩
theorem Rep.newL (R : Rep F c) {p : Addr} {vs : List V} {ds : List D} (hp : c.H p = none) (hv : RpA F.K c.B vs ds) :
    ∃ c', c'.H = upd c.H p (.lst vs) ∧ c'.s = c.s ∧ c'.B = c.B ∧ Rep F c' ∧ GoE F c c' ∧ Den F c.H c' (.ref p) (.new ds) := by
  obtain ⟨R', G⟩ := R.putH (o := .lst vs) hp
  exact ⟨{ c with H := upd c.H p (.lst vs) }, rfl, rfl, rfl, R', G, p, vs, rfl, upd_same, hv, R.notB hp, fun m => R.notOwn hp (m.ofEq rfl rfl), R.notBag hp, hp⟩
/-- a new list is told for good from now on -/
theorem Rep.fixN (R : Rep F c) {c0 : Cf} (g : GoE F c0 c) {v : V} {ds : List D} (h : Den F c0.H c v (.new ds)) :
    ∃ c', c'.H = c.H ∧ c'.s = c.s ∧ c'.σ = c.σ ∧ Ext c.B c'.B ∧ Rep F c' ∧ GoE F c0 c' ∧ Rp F.K c'.B v (.lst ds) := by
  obtain ⟨l, vs, rfl, h2, h3, h4, h5, h6, h7⟩ := h
  have xB : Ext c.B (upd c.B l (.lst vs)) := Ext.upd h4
  refine ⟨{ c with B := upd c.B l (.lst vs) }, rfl, rfl, rfl, xB, ⟨?_, R.len, ?_, R.sep, ?_⟩, ⟨⟨g.go.b.trans xB, g.go.fr, ?_, fun a h => g.go.ow a (h.ofEq rfl rfl), g.go.dom⟩, g.σ, g.kp⟩, .lst upd_same (h3.ext xB)⟩
  · intro a u e
    have e' : (upd c.B l (.lst vs)) a = some u := e
    show c.H a = some u
    by_cases z : a = l
    · rw [z, upd_same] at e'
      rw [z, h2]; exact e'
    · rw [upd_ne z] at e'
      exact R.le a u e'
  · intro i e h
    have q := R.at_ i e h
    cases e with
    | val d => obtain ⟨v, q1, q2⟩ := q; exact ⟨v, q1, q2.ext xB⟩
    | bag => exact q
    | _ =>
      obtain ⟨l', vs', q1, q2, q3, q4, q5⟩ := q
      refine ⟨l', vs', q1, q2, q3.ext xB, ?_, q5⟩
      show (upd c.B l (.lst vs)) l' = none
      rw [upd_ne (fun z => h5 ⟨i, _, h, rfl, by rw [← z]; exact q1⟩)]
      exact q4
  · intro on
    obtain ⟨q1, q2, q3⟩ := R.bag on
    refine ⟨q1, ?_, ?_⟩
    · show (upd c.B l (.lst vs)) F.b = none
      rw [upd_ne (h6 on).1.symm]; exact q2
    · show (upd c.B l (.lst vs)) F.c = none
      rw [upd_ne (h6 on).2.symm]; exact q3
  · intro a e n
    have e' : (upd c.B l (.lst vs)) a ≠ none := e
    by_cases z : a = l
    · rw [z]; exact .inl h7
    · rw [upd_ne z] at e'
      exact g.go.nb a e' n
/-- a list of one's own is told for good from now on -/
theorem Rep.fixL (R : Rep F c) {i : Nat} {ds : List D} {v : V} (h : c.s.r[i]? = some (some (.own ds))) (hv : c.σ[i]? = some (some v)) :
    ∃ c', c'.H = c.H ∧ c'.s = { c.s with r := c.s.r.set i (some (.val (.lst ds))) } ∧ Rep F c' ∧ GoE F c c' ∧ Rp F.K c'.B v (.lst ds) := by
  obtain ⟨l, o, q1, q2, ⟨vs, rfl, q3⟩, q4, q5⟩ := R.at_ i _ h
  rw [hv] at q1
  cases q1
  have hi : i < c.s.r.length := (List.getElem?_eq_some_iff.mp h).1
  have xB : Ext c.B (upd c.B l (.lst vs)) := Ext.upd q4
  have own' : ∀ (j : Nat) (e : En), (c.s.r.set i (some (.val (.lst ds))))[j]? = some (some e) → e.isOwn = true → j ≠ i ∧ c.s.r[j]? = some (some e) := by
    intro j ds' hj ho
    by_cases z : j = i
    · rw [z, List.getElem?_set_self hi] at hj
      cases hj
      cases ho
    · rw [List.getElem?_set_ne (Ne.symm z)] at hj
      exact ⟨z, hj⟩
  refine ⟨{ c with B := upd c.B l (.lst vs), s := { c.s with r := c.s.r.set i (some (.val (.lst ds))) } }, rfl, rfl, ⟨?_, ?_, ?_, ?_, ?_⟩, ⟨⟨xB, fun a u e _ => e, ?_, ?_, fun _ e => e⟩, rfl, ?_⟩, .lst upd_same (q3.ext xB)⟩
  · intro a u e
    have e' : (upd c.B l (.lst vs)) a = some u := e
    show c.H a = some u
    by_cases z : a = l
    · rw [z, upd_same] at e'
      rw [z, q2]; exact e'
    · rw [upd_ne z] at e'
      exact R.le a u e'
  · show c.σ.length = (c.s.r.set i _).length
    rw [List.length_set]; exact R.len
  · intro j e hj
    have hj' : (c.s.r.set i (some (.val (.lst ds))))[j]? = some (some e) := hj
    by_cases z : j = i
    · rw [z, List.getElem?_set_self hi] at hj'
      cases hj'
      rw [z]
      exact ⟨_, hv, .lst upd_same (q3.ext xB)⟩
    · rw [List.getElem?_set_ne (Ne.symm z)] at hj'
      have q := R.at_ j e hj'
      cases e with
      | val d => obtain ⟨v, q1, q2⟩ := q; exact ⟨v, q1, q2.ext xB⟩
      | bag => exact q
      | _ =>
        obtain ⟨l', vs', p1, p2, p3, p4, p5⟩ := q
        refine ⟨l', vs', p1, p2, p3.ext xB, ?_, p5⟩
        show (upd c.B l (.lst vs)) l' = none
        rw [upd_ne (fun y => z (R.sep j i _ _ l hj' rfl h rfl (by rw [← y]; exact p1) hv))]
        exact p4
  · intro j k dj dk l' h1 o1 h2 o2 h3 h4
    exact R.sep j k dj dk l' (own' j dj h1 o1).2 o1 (own' k dk h2 o2).2 o2 h3 h4
  · intro on
    obtain ⟨p1, p2, p3⟩ := R.bag on
    refine ⟨p1, ?_, ?_⟩
    · show (upd c.B l (.lst vs)) F.b = none
      rw [upd_ne (q5 on).1.symm]; exact p2
    · show (upd c.B l (.lst vs)) F.c = none
      rw [upd_ne (q5 on).2.symm]; exact p3
  · intro a e n
    have e' : (upd c.B l (.lst vs)) a ≠ none := e
    by_cases z : a = l
    · rw [z]; exact .inr ⟨i, _, h, rfl, hv⟩
    · rw [upd_ne z] at e'
      exact absurd n e'
  · rintro a ⟨j, ds', h1, h0, h2⟩
    exact .inl ⟨j, ds', (own' j ds' h1 h0).2, h0, h2⟩
  · intro j e hj
    show ∃ e', (c.s.r.set i (some (.val (.lst ds))))[j]? = some (some e')
    by_cases z : j = i
    · rw [z, List.getElem?_set_self hi]; exact ⟨_, rfl⟩
    · rw [List.getElem?_set_ne (Ne.symm z)]; exact ⟨e, hj⟩
theorem Rep.fixO (R : Rep F c) {i : Nat} {e0 : En} {d0 : D} {v : V} (h : c.s.r[i]? = some (some e0)) (ho0 : e0.isOwn = true) (hd : ∀ (B : Hp) (l : Addr) (o : HO), OwR F B l e0 o → B l = none → Rp F.K (upd B l o) (.ref l) d0) (hv : c.σ[i]? = some (some v)) :
    ∃ c', c'.H = c.H ∧ c'.s = { c.s with r := c.s.r.set i (some (.val d0)) } ∧ Rep F c' ∧ GoE F c c' ∧ Rp F.K c'.B v d0 := by
  obtain ⟨l, o, q1, q2, q3, q4, q5⟩ := (R.at_ i _ h).own ho0
  rw [hv] at q1
  cases q1
  have hi : i < c.s.r.length := (List.getElem?_eq_some_iff.mp h).1
  have xB : Ext c.B (upd c.B l o) := Ext.upd q4
  have own' : ∀ (j : Nat) (e : En), (c.s.r.set i (some (.val d0)))[j]? = some (some e) → e.isOwn = true → j ≠ i ∧ c.s.r[j]? = some (some e) := by
    intro j ds' hj ho
    by_cases z : j = i
    · rw [z, List.getElem?_set_self hi] at hj
      cases hj
      cases ho
    · rw [List.getElem?_set_ne (Ne.symm z)] at hj
      exact ⟨z, hj⟩
  refine ⟨{ c with B := upd c.B l o, s := { c.s with r := c.s.r.set i (some (.val d0)) } }, rfl, rfl, ⟨?_, ?_, ?_, ?_, ?_⟩, ⟨⟨xB, fun a u e _ => e, ?_, ?_, fun _ e => e⟩, rfl, ?_⟩, hd _ _ _ q3 q4⟩
  · intro a u e
    have e' : (upd c.B l o) a = some u := e
    show c.H a = some u
    by_cases z : a = l
    · rw [z, upd_same] at e'
      rw [z, q2]; exact e'
    · rw [upd_ne z] at e'
      exact R.le a u e'
  · show c.σ.length = (c.s.r.set i _).length
    rw [List.length_set]; exact R.len
  · intro j e hj
    have hj' : (c.s.r.set i (some (.val d0)))[j]? = some (some e) := hj
    by_cases z : j = i
    · rw [z, List.getElem?_set_self hi] at hj'
      cases hj'
      rw [z]
      exact ⟨_, hv, hd _ _ _ q3 q4⟩
    · rw [List.getElem?_set_ne (Ne.symm z)] at hj'
      have q := R.at_ j e hj'
      cases e with
      | val d => obtain ⟨v, q1, q2⟩ := q; exact ⟨v, q1, q2.ext xB⟩
      | bag => exact q
      | _ =>
        obtain ⟨l', vs', p1, p2, p3, p4, p5⟩ := q
        refine ⟨l', vs', p1, p2, p3.ext xB, ?_, p5⟩
        show (upd c.B l o) l' = none
        rw [upd_ne (fun y => z (R.sep j i _ _ l hj' rfl h ho0 (by rw [← y]; exact p1) hv))]
        exact p4
  · intro j k dj dk l' h1 o1 h2 o2 h3 h4
    exact R.sep j k dj dk l' (own' j dj h1 o1).2 o1 (own' k dk h2 o2).2 o2 h3 h4
  · intro on
    obtain ⟨p1, p2, p3⟩ := R.bag on
    refine ⟨p1, ?_, ?_⟩
    · show (upd c.B l o) F.b = none
      rw [upd_ne (q5 on).1.symm]; exact p2
    · show (upd c.B l o) F.c = none
      rw [upd_ne (q5 on).2.symm]; exact p3
  · intro a e n
    have e' : (upd c.B l o) a ≠ none := e
    by_cases z : a = l
    · rw [z]; exact .inr ⟨i, _, h, ho0, hv⟩
    · rw [upd_ne z] at e'
      exact absurd n e'
  · rintro a ⟨j, ds', h1, h0, h2⟩
    exact .inl ⟨j, ds', (own' j ds' h1 h0).2, h0, h2⟩
  · intro j e hj
    show ∃ e', (c.s.r.set i (some (.val d0)))[j]? = some (some e')
    by_cases z : j = i
    · rw [z, List.getElem?_set_self hi]; exact ⟨_, rfl⟩
    · rw [List.getElem?_set_ne (Ne.symm z)]; exact ⟨e, hj⟩
end
theorem kk_split {K : Bk} {B : Hp} : ∀ {ks : List (L2.Key × V)} {kvs : List (L2.Key × D)}, Paired (KkR K B) ks kvs → (kvs.map (·.1)).zip (ks.map (·.2)) = ks ∧ (ks.map (·.2)).length = (kvs.map (·.1)).length ∧ RpA K B (ks.map (·.2)) (kvs.map (·.2))
  | _, _, .nil => ⟨rfl, rfl, .nil⟩
  | _, _, .cons (a := p) (b := q) h t => by
    obtain ⟨h1, h2⟩ := h
    obtain ⟨t1, t2, t3⟩ := kk_split t
    refine ⟨?_, ?_, .cons h2 t3⟩
    · simp only [List.map_cons, List.zip_cons_cons, t1]
      rw [← h1]
    · simp only [List.map_cons, List.length_cons, t2]
theorem kk_dic {K : Bk} {B : Hp} {l : Addr} {o : HO} {ks : List (L2.Key × V)} {kvs : List (L2.Key × D)} (e : o = .dK ks) (h : Paired (KkR K B) ks kvs) (b : B l = none) : Rp K (upd B l o) (.ref l) (.dic (kvs.map (·.1)) (kvs.map (·.2))) := by
  obtain ⟨t1, t2, t3⟩ := kk_split h
  subst e
  exact .dic (by rw [upd_same, t1]) t2 (t3.ext (Ext.upd b))
/-- a value told for good -/
def frz : W → Stt → Option (D × Stt)
  | .dat d, s => some (d, s)
  | .loc i, s => match s.r[i]? with
    | some (some (.val d)) => some (d, s)
    | some (some (.own ds)) => some (.lst ds, { s with r := s.r.set i (some (.val (.lst ds))) })
    | some (some (.dck kvs)) => some (.dic (kvs.map (·.1)) (kvs.map (·.2)), { s with r := s.r.set i (some (.val (.dic (kvs.map (·.1)) (kvs.map (·.2))))) })
    | _ => none
  | .new ds, s => some (.lst ds, s)
theorem frz_ok {F : Fx} {c c0 : Cf} {v : V} {w : W} {d : D} {s' : Stt} (R : Rep F c) (g : GoE F c0 c) (h : Den F c0.H c v w) (e : frz w c.s = some (d, s')) :
    ∃ c', c'.H = c.H ∧ c'.s = s' ∧ c'.σ = c.σ ∧ Ext c.B c'.B ∧ Rep F c' ∧ GoE F c0 c' ∧ Rp F.K c'.B v d := by
  cases w with
  | dat d' =>
    simp only [frz, Option.some.injEq, Prod.mk.injEq] at e
    obtain ⟨rfl, rfl⟩ := e
    exact ⟨c, rfl, rfl, rfl, Ext.rfl', R, g, h⟩
  | loc i =>
    obtain ⟨h1, en, h2⟩ := h
    simp only [frz, h2] at e
    cases en with
    | val d' =>
      simp only [Option.some.injEq, Prod.mk.injEq] at e
      obtain ⟨rfl, rfl⟩ := e
      obtain ⟨v', q1, q2⟩ := R.at_ i _ h2
      rw [h1] at q1
      cases q1
      exact ⟨c, rfl, rfl, rfl, Ext.rfl', R, g, q2⟩
    | own ds =>
      simp only [Option.some.injEq, Prod.mk.injEq] at e
      obtain ⟨rfl, rfl⟩ := e
      obtain ⟨c', e1, e2, R', G, r⟩ := R.fixL h2 h1
      exact ⟨c', e1, e2, G.σ, G.go.b, R', g.trans G, r⟩
    | dck kvs =>
      simp only [Option.some.injEq, Prod.mk.injEq] at e
      obtain ⟨rfl, rfl⟩ := e
      obtain ⟨c', e1, e2, R', G, r⟩ := R.fixO h2 rfl (fun B l o ⟨ks, e, q⟩ b => kk_dic e q b) h1
      exact ⟨c', e1, e2, G.σ, G.go.b, R', g.trans G, r⟩
    | _ => cases e
  | new ds =>
    simp only [frz, Option.some.injEq, Prod.mk.injEq] at e
    obtain ⟨rfl, rfl⟩ := e
    exact R.fixN g h
end DL
set_option maxHeartbeats 2000000
/-! Readings told over data: expressions, tests, arguments, statements, loops. -/
namespace DL
open PySem PySem.Spec PyProof.Rows L2 Ax
abbrev GX := Stt → (W → Stt → Prop) → Prop
abbrev GB := Stt → (Bool → Stt → Prop) → Prop
abbrev GA := Stt → (List W → Stt → Prop) → Prop
abbrev GI := Stt → (List D → Stt → Prop) → Prop
structure EndsD where
  nx : Stt → Prop
  rt : W → Stt → Prop
  bk : Stt → Prop := fun _ => False
  ct : Stt → Prop := fun _ => False
  ex : Str → List Str → List D → Prop := fun _ _ _ => False
abbrev GS := Stt → EndsD → Prop
def SE (K : Bd) (t : TE) (g : GX) : Prop := ∀ F : Fx, F.bd = K → ∀ (c : Cf) (Φ : W → Stt → Prop) (Q : VK), Rep F c → g c.s Φ → (∀ c' v w, Rep F c' → GoE F c c' → Den F c.H c' v w → Φ w c'.s → Q v c'.H) → t c.σ c.H Q
def SB (K : Bd) (t : TT) (g : GB) : Prop := ∀ F : Fx, F.bd = K → ∀ (c : Cf) (Φ : Bool → Stt → Prop) (Q : Bool → Hp → Prop), Rep F c → g c.s Φ → (∀ c' b, Rep F c' → GoE F c c' → Φ b c'.s → Q b c'.H) → t c.σ c.H Q
def Den2 (F : Fx) (c : Cf) (v : V) : W → Prop
  | .dat d => Rp F.K c.B v d
  | .loc i => c.σ[i]? = some (some v) ∧ ∃ e, c.s.r[i]? = some (some e)
  | .new _ => False
theorem Den2.keep {F : Fx} {c c' : Cf} {v : V} {w : W} (h : Den2 F c v w) (g : GoE F c c') : Den2 F c' v w := by
  cases w with
  | dat d => exact Rp.ext g.go.b h
  | loc i => exact ⟨by rw [g.σ]; exact h.1, let ⟨_, e, q⟩ := h; g.kp i e q⟩
  | new ds => exact h.elim
theorem Den2.den {F : Fx} {H0 : Hp} {c : Cf} {v : V} {w : W} (h : Den2 F c v w) : Den F H0 c v w := by
  cases w with
  | dat d => exact h
  | loc i => exact h
  | new ds => exact h.elim
abbrev DenA (F : Fx) (c : Cf) : List V → List W → Prop := Paired (Den2 F c)
theorem DenA.keep {F : Fx} {c c' : Cf} (g : GoE F c c') : ∀ {vs : List V} {ws : List W}, DenA F c vs ws → DenA F c' vs ws
  | _, _, .nil => .nil
  | _, _, .cons h t => .cons (h.keep g) (DenA.keep g t)
def SA (K : Bd) (t : TA) (g : GA) : Prop := ∀ F : Fx, F.bd = K → ∀ (c : Cf) (Φ : List W → Stt → Prop) (Q : List V → Hp → Prop), Rep F c → g c.s Φ → (∀ c' vs ws, Rep F c' → GoE F c c' → DenA F c' vs ws → Φ ws c'.s → Q vs c'.H) → t c.σ c.H Q
/-- an error at d of class C with fields ks, ds, let by Ψ, is let by the def's own E -/
def XOut (F : Fx) (c : Cf) (Ψ : Str → List Str → List D → Prop) : Prop := ∀ (C : Str) (d : Addr) (ks : List Str) (vs : List V) (ds : List D), c.H d = some (.xd (ks.zip vs)) → vs.length = ks.length → RpA F.K c.B vs ds → Ψ C ks ds → F.bd.E (.ref (He.ga F.K C)) (some d) c.H
structure EndsOk (F : Fx) (c : Cf) (E : Ends) (De : EndsD) : Prop where
  nx : ∀ c', Rep F c' → Go F c c' → De.nx c'.s → E.nx c'.σ c'.H
  rt : ∀ c' v w, Rep F c' → Go F c c' → Den F c.H c' v w → De.rt w c'.s → E.rt v c'.H
  bk : ∀ c', Rep F c' → Go F c c' → De.bk c'.s → E.bk c'.σ c'.H
  ct : ∀ c', Rep F c' → Go F c c' → De.ct c'.s → E.ct c'.σ c'.H
  ex : ∀ c', Rep F c' → Go F c c' → XOut F c' De.ex
def SS (K : Bd) (t : TS) (g : GS) : Prop := ∀ F : Fx, F.bd = K → ∀ (c : Cf) (E : Ends) (De : EndsD), Rep F c → g c.s De → EndsOk F c E De → t E c.σ c.H
theorem EndsOk.go {F : Fx} {c c1 : Cf} {E : Ends} {De : EndsD} (h : EndsOk F c E De) (g : Go F c c1) : EndsOk F c1 E De :=
  ⟨fun c' r g' q => h.nx c' r (g.trans g') q, fun c' v w r g' d q => h.rt c' v w r (g.trans g') (d.back g) q, fun c' r g' q => h.bk c' r (g.trans g') q, fun c' r g' q => h.ct c' r (g.trans g') q, fun c' r g' => h.ex c' r (g.trans g')⟩
section
variable {K : Bd}
theorem SE.run {t : TE} {g : GX} (h : SE K t g) {F : Fx} (hK : F.bd = K) {c : Cf} {σ : L2.St} (e : c.σ = σ) {Φ : W → Stt → Prop} {Q : VK} (R : Rep F c) (p : g c.s Φ) (q : ∀ c' v w, Rep F c' → GoE F c c' → Den F c.H c' v w → Φ w c'.s → Q v c'.H) : t σ c.H Q := by
  subst e
  exact h F hK c Φ Q R p q
theorem SB.run {t : TT} {g : GB} (h : SB K t g) {F : Fx} (hK : F.bd = K) {c : Cf} {σ : L2.St} (e : c.σ = σ) {Φ : Bool → Stt → Prop} {Q : Bool → Hp → Prop} (R : Rep F c) (p : g c.s Φ) (q : ∀ c' b, Rep F c' → GoE F c c' → Φ b c'.s → Q b c'.H) : t σ c.H Q := by
  subst e
  exact h F hK c Φ Q R p q
theorem SA.run {t : TA} {g : GA} (h : SA K t g) {F : Fx} (hK : F.bd = K) {c : Cf} {σ : L2.St} {H : Hp} (e : c.σ = σ) (eH : c.H = H) {Φ : List W → Stt → Prop} {Q : List V → Hp → Prop} (R : Rep F c) (p : g c.s Φ) (q : ∀ c' vs ws, Rep F c' → GoE F c c' → DenA F c' vs ws → Φ ws c'.s → Q vs c'.H) : t σ H Q := by
  subst e eH
  exact h F hK c Φ Q R p q
theorem SS.run {t : TS} {g : GS} (h : SS K t g) {F : Fx} (hK : F.bd = K) {c : Cf} {σ : L2.St} (e : c.σ = σ) {E : Ends} {De : EndsD} (R : Rep F c) (p : g c.s De) (ok : EndsOk F c E De) : t E σ c.H := by
  subst e
  exact h F hK c E De R p ok
theorem EndsOk.nxE {F : Fx} {c c' : Cf} {E : Ends} {De : EndsD} (ok : EndsOk F c E De) (R : Rep F c') (g : GoE F c c') (p : De.nx c'.s) : E.nx c.σ c'.H := by
  have q := ok.nx c' R g.go p
  rw [g.σ] at q
  exact q
/-! ### expressions -/
def gName (i : Nat) : GX := fun s Φ => match s.r[i]? with
  | some (some (.val d)) => Φ (.dat d) s
  | some (some _) => Φ (.loc i) s
  | _ => False
theorem se_name (i : Nat) : SE K (tVar i) (gName i) := by
  intro F hK c Φ Q R h q
  unfold gName at h
  split at h
  · rename_i d e
    obtain ⟨v, h1, h2⟩ := R.at_ i _ e
    exact ⟨v, h1, q c v (.dat d) R GoE.rfl' h2 h⟩
  · rename_i en e1 e
    have z := R.at_ i _ e
    cases en with
    | val d => exact absurd rfl (e1 d)
    | bag => exact ⟨_, z.2, q c _ (.loc i) R GoE.rfl' ⟨z.2, _, e⟩ h⟩
    | _ =>
      obtain ⟨l, vs, h1, _⟩ := z
      exact ⟨_, h1, q c _ (.loc i) R GoE.rfl' ⟨h1, _, e⟩ h⟩
  · exact h.elim
def gDat (d : D) : GX := fun s Φ => Φ (.dat d) s
theorem se_const {v : V} {d : D} (h : ∀ B : Hp, Rp K B v d) : SE K (tC v) (gDat d) := by
  intro F hK c Φ Q R p q
  exact q c v (.dat d) R GoE.rfl' (by subst hK; exact h c.B) p
theorem se_int {i : Int} : SE K (tC (.int i)) (gDat (.int i)) := se_const fun _ => .int i
theorem se_str {x : Str} : SE K (tC (.str x)) (gDat (.str x)) := se_const fun _ => .str x
theorem se_non : SE K (tC .non) (gDat .non) := se_const fun _ => .non
theorem se_bl {b : Bool} : SE K (tC (.bl b)) (gDat (.bl b)) := se_const fun _ => .bl b
/-- a two-place operation -/
def OpS (K : Bd) (r : R2) (f : D → D → Option W) : Prop := ∀ F : Fx, F.bd = K → ∀ (c : Cf) (x y : V) (d e : D) (w : W) (Q : VK), Rep F c → Rq F c x d → Rq F c y e → f d e = some w →
  (∀ c' v, Rep F c' → GoE F c c' → c'.s = c.s → Den F c.H c' v w → Q v c'.H) → r x y c.H Q
def gBin (f : D → D → Option W) (g1 g2 : GX) : GX := fun s Φ => g1 s fun w1 s1 => g2 s1 fun w2 s2 => ∃ d e w, rd w1 s2 = some d ∧ rd w2 s2 = some e ∧ f d e = some w ∧ Φ w s2
theorem se_bin {r : R2} {f : D → D → Option W} {ta tb : TE} {g1 g2 : GX} (ho : OpS K r f) (ha : SE K ta g1) (hb : SE K tb g2) : SE K (tOp r ta tb) (gBin f g1 g2) := by
  intro F hK c Φ Q R p q
  refine ha F hK c _ _ R p fun c1 v1 w1 R1 G1 D1 p1 => ?_
  refine hb.run hK G1.σ R1 p1 fun c2 v2 w2 R2 G2 D2 p2 => ?_
  obtain ⟨d, e, w, e1, e2, e3, p3⟩ := p2
  refine ho F hK c2 _ _ d e w _ R2 (rd_ok R2 (D1.keep G2) e1) (rd_ok R2 D2 e2) e3 fun c3 v R3 G3 es D3 => ?_
  exact q c3 v w R3 ((G1.trans G2).trans G3) (D3.back (G1.trans G2).go) (es ▸ p3)
/-- a one-place operation -/
def UnS (K : Bd) (r : V → Hp → VK → Prop) (f : D → Option W) : Prop := ∀ F : Fx, F.bd = K → ∀ (c : Cf) (x : V) (d : D) (w : W) (Q : VK), Rep F c → Rq F c x d → f d = some w →
  (∀ c' v, Rep F c' → GoE F c c' → c'.s = c.s → Den F c.H c' v w → Q v c'.H) → r x c.H Q
def gUn (f : D → Option W) (g1 : GX) : GX := fun s Φ => g1 s fun w1 s1 => ∃ d w, rd w1 s1 = some d ∧ f d = some w ∧ Φ w s1
theorem se_un {r : V → Hp → VK → Prop} {f : D → Option W} {ta : TE} {g1 : GX} (ho : UnS K r f) (ha : SE K ta g1) : SE K (tUn r ta) (gUn f g1) := by
  intro F hK c Φ Q R p q
  refine ha F hK c _ _ R p fun c1 v1 w1 R1 G1 D1 p1 => ?_
  obtain ⟨d, w, e1, e3, p3⟩ := p1
  refine ho F hK c1 _ d w _ R1 (rd_ok R1 D1 e1) e3 fun c3 v R3 G3 es D3 => ?_
  exact q c3 v w R3 (G1.trans G3) (D3.back G1.go) (es ▸ p3)
def gAnd (g1 g2 : GX) : GX := fun s Φ => g1 s fun w s1 => ∃ b, rd w s1 = some (.bl b) ∧ if b = true then g2 s1 Φ else Φ (.dat (.bl false)) s1
def gOr (g1 g2 : GX) : GX := fun s Φ => g1 s fun w s1 => ∃ b, rd w s1 = some (.bl b) ∧ if b = true then Φ (.dat (.bl true)) s1 else g2 s1 Φ
theorem se_and {ta tb : TE} {g1 g2 : GX} (ha : SE K ta g1) (hb : SE K tb g2) : SE K (tAndV ta tb) (gAnd g1 g2) := by
  intro F hK c Φ Q R p q
  refine ha F hK c _ _ R p fun c1 v1 w1 R1 G1 D1 p1 => ?_
  obtain ⟨b, e, p1⟩ := p1
  refine ⟨b, (rd_ok R1 D1 e).bl, ?_⟩
  cases b with
  | true => exact hb.run hK G1.σ R1 p1 fun c2 v w R2 G2 D2 p2 => q c2 v w R2 (G1.trans G2) (D2.back G1.go) p2
  | false => exact q c1 _ (.dat (.bl false)) R1 G1 (Rp.bl false) p1
theorem se_or {ta tb : TE} {g1 g2 : GX} (ha : SE K ta g1) (hb : SE K tb g2) : SE K (tOrV ta tb) (gOr g1 g2) := by
  intro F hK c Φ Q R p q
  refine ha F hK c _ _ R p fun c1 v1 w1 R1 G1 D1 p1 => ?_
  obtain ⟨b, e, p1⟩ := p1
  refine ⟨b, (rd_ok R1 D1 e).bl, ?_⟩
  cases b with
  | false => exact hb.run hK G1.σ R1 p1 fun c2 v w R2 G2 D2 p2 => q c2 v w R2 (G1.trans G2) (D2.back G1.go) p2
  | true => exact q c1 _ (.dat (.bl true)) R1 G1 (Rp.bl true) p1
def gNot (g1 : GX) : GX := fun s Φ => g1 s fun w s1 => ∃ b, rd w s1 = some (.bl b) ∧ Φ (.dat (.bl (!b))) s1
theorem se_not {ta : TE} {g1 : GX} (ha : SE K ta g1) : SE K (tNotV ta) (gNot g1) := by
  intro F hK c Φ Q R p q
  refine ha F hK c _ _ R p fun c1 v1 w1 R1 G1 D1 p1 => ?_
  obtain ⟨b, e, p1⟩ := p1
  exact ⟨b, (rd_ok R1 D1 e).bl, q c1 _ (.dat (.bl (!b))) R1 G1 (Rp.bl (!b)) p1⟩
def isNonD : D → Bool
  | .non => true
  | _ => false
def gIsN (g1 : GX) : GX := fun s Φ => g1 s fun w s1 => ∃ d, rd w s1 = some d ∧ Φ (.dat (.bl (isNonD d))) s1
def gNotN (g1 : GX) : GX := fun s Φ => g1 s fun w s1 => ∃ d, rd w s1 = some d ∧ Φ (.dat (.bl (!isNonD d))) s1
theorem non_iff {F : Fx} {c : Cf} {v : V} {d : D} (h : Rq F c v d) : decide (v = .non) = isNonD d := by
  rcases h with h | ⟨l, vs, ds, rfl, rfl, _⟩
  · cases h <;> rfl
  · rfl
theorem se_isN {ta : TE} {g1 : GX} (ha : SE K ta g1) : SE K (tIsN ta) (gIsN g1) := by
  intro F hK c Φ Q R p q
  refine ha F hK c _ _ R p fun c1 v1 w1 R1 G1 D1 p1 => ?_
  obtain ⟨d, e, p1⟩ := p1
  rw [non_iff (rd_ok R1 D1 e)]
  exact q c1 _ (.dat (.bl (isNonD d))) R1 G1 (Rp.bl _) p1
theorem se_notN {ta : TE} {g1 : GX} (ha : SE K ta g1) : SE K (tNotN ta) (gNotN g1) := by
  intro F hK c Φ Q R p q
  refine ha F hK c _ _ R p fun c1 v1 w1 R1 G1 D1 p1 => ?_
  obtain ⟨d, e, p1⟩ := p1
  rw [non_iff (rd_ok R1 D1 e)]
  exact q c1 _ (.dat (.bl (!isNonD d))) R1 G1 (Rp.bl _) p1
def gIf (gt : GB) (g1 g2 : GX) : GX := fun s Φ => gt s fun b s1 => if b = true then g1 s1 Φ else g2 s1 Φ
theorem se_if {tt : TT} {ta tb : TE} {gt : GB} {g1 g2 : GX} (ht : SB K tt gt) (ha : SE K ta g1) (hb : SE K tb g2) : SE K (tIf tt ta tb) (gIf gt g1 g2) := by
  intro F hK c Φ Q R p q
  refine ht F hK c _ _ R p fun c1 b R1 G1 p1 => ?_
  cases b with
  | true => exact ha.run hK G1.σ R1 p1 fun c2 v w R2 G2 D2 p2 => q c2 v w R2 (G1.trans G2) (D2.back G1.go) p2
  | false => exact hb.run hK G1.σ R1 p1 fun c2 v w R2 G2 D2 p2 => q c2 v w R2 (G1.trans G2) (D2.back G1.go) p2
/-! ### tests -/
def gTv (g : GX) : GB := fun s Φ => g s fun w s1 => ∃ b, rd w s1 = some (.bl b) ∧ Φ b s1
theorem sb_val {t : TE} {g : GX} (h : SE K t g) : SB K (tB t) (gTv g) := by
  intro F hK c Φ Q R p q
  refine h F hK c _ _ R p fun c1 v1 w1 R1 G1 D1 p1 => ?_
  obtain ⟨b, e, p1⟩ := p1
  exact ⟨b, (rd_ok R1 D1 e).bl, q c1 b R1 G1 p1⟩
theorem sb_test {t : TE} {g : GX} (h : SE K t g) : SB K (tTest t) (gTv g) := by
  intro F hK c Φ Q R p q
  refine h F hK c _ _ R p fun c1 v1 w1 R1 G1 D1 p1 => ?_
  obtain ⟨b, e, p1⟩ := p1
  exact ⟨b, (rd_ok R1 D1 e).bl, q c1 b R1 G1 p1⟩
def gTAnd (g1 g2 : GB) : GB := fun s Φ => g1 s fun b s1 => if b = true then g2 s1 Φ else Φ false s1
def gTOr (g1 g2 : GB) : GB := fun s Φ => g1 s fun b s1 => if b = true then Φ true s1 else g2 s1 Φ
def gTNot (g1 : GB) : GB := fun s Φ => g1 s fun b s1 => Φ (!b) s1
def gYes : GB := fun s Φ => Φ true s
theorem sb_and {t u : TT} {g1 g2 : GB} (ha : SB K t g1) (hb : SB K u g2) : SB K (tAnd t u) (gTAnd g1 g2) := by
  intro F hK c Φ Q R p q
  refine ha F hK c _ _ R p fun c1 b R1 G1 p1 => ?_
  cases b with
  | true => exact hb.run hK G1.σ R1 p1 fun c2 b R2 G2 p2 => q c2 b R2 (G1.trans G2) p2
  | false => exact q c1 false R1 G1 p1
theorem sb_or {t u : TT} {g1 g2 : GB} (ha : SB K t g1) (hb : SB K u g2) : SB K (tOr t u) (gTOr g1 g2) := by
  intro F hK c Φ Q R p q
  refine ha F hK c _ _ R p fun c1 b R1 G1 p1 => ?_
  cases b with
  | false => exact hb.run hK G1.σ R1 p1 fun c2 b R2 G2 p2 => q c2 b R2 (G1.trans G2) p2
  | true => exact q c1 true R1 G1 p1
theorem sb_not {t : TT} {g1 : GB} (ha : SB K t g1) : SB K (tNot t) (gTNot g1) := by
  intro F hK c Φ Q R p q
  exact ha F hK c _ _ R p fun c1 b R1 G1 p1 => q c1 _ R1 G1 p1
theorem sb_yes : SB K tYes gYes := by
  intro F hK c Φ Q R p q
  exact q c true R GoE.rfl' p
/-! ### arguments -/
def fixW : W → W
  | .new ds => .dat (.lst ds)
  | w => w
def gaNil : GA := fun s Φ => Φ [] s
def gaCons (g : GX) (ga : GA) : GA := fun s Φ => g s fun w s1 => ga s1 fun ws s2 => Φ (fixW w :: ws) s2
theorem sa_nil : SA K tNil gaNil := by
  intro F hK c Φ Q R p q
  exact q c [] [] R GoE.rfl' .nil p
theorem fix_ok {F : Fx} {c c0 : Cf} {v : V} {w : W} (R : Rep F c) (g : GoE F c0 c) (h : Den F c0.H c v w) : ∃ c', c'.H = c.H ∧ c'.s = c.s ∧ c'.σ = c.σ ∧ Rep F c' ∧ GoE F c0 c' ∧ Den2 F c' v (fixW w) := by
  cases w with
  | dat d => exact ⟨c, rfl, rfl, rfl, R, g, h⟩
  | loc i => exact ⟨c, rfl, rfl, rfl, R, g, h⟩
  | new ds =>
    obtain ⟨c', e1, e2, e3, _, R', G, r⟩ := R.fixN g h
    exact ⟨c', e1, e2, e3, R', G, r⟩
theorem sa_cons {ta : TE} {t : TA} {g : GX} {ga : GA} (ha : SE K ta g) (hr : SA K t ga) : SA K (tCons ta t) (gaCons g ga) := by
  intro F hK c Φ Q R p q
  refine ha F hK c _ _ R p fun c1 v1 w1 R1 G1 D1 p1 => ?_
  obtain ⟨c2, e1, e2, e3, R2, G2, D2⟩ := fix_ok R1 G1 D1
  refine hr.run hK (e3.trans G1.σ) e1 R2 (by rw [e2]; exact p1) fun c3 vs ws R3 G3 D3 p3 => ?_
  exact q c3 _ _ R3 (G2.trans G3) (.cons (D2.keep G3) D3) p3
def rdA : List W → Stt → Option (List D)
  | [], _ => some []
  | w :: ws, s => match rd w s, rdA ws s with
    | some d, some ds => some (d :: ds)
    | _, _ => none
theorem rdA_ok {F : Fx} {c : Cf} (R : Rep F c) : ∀ {vs : List V} {ws : List W} {ds : List D}, DenA F c vs ws → rdA ws c.s = some ds → Paired (Rq F c) vs ds
  | _, _, _, .nil, e => by cases Option.some.inj e; exact .nil
  | _, _, ds, .cons (a := v) (b := w) (l₁ := vs) (l₂ := ws) h t, e => by
    simp only [rdA] at e
    split at e
    · rename_i d ds' e1 e2
      cases Option.some.inj e
      exact .cons (rd_ok R (h.den (H0 := c.H)) e1) (rdA_ok R t e2)
    · cases e
def frzA : List W → Stt → Option (List D × Stt)
  | [], s => some ([], s)
  | w :: ws, s => match frz w s with
    | some (d, s1) => match frzA ws s1 with
      | some (ds, s2) => some (d :: ds, s2)
      | none => none
    | none => none
theorem frz2_ok {F : Fx} {c : Cf} {v : V} {w : W} {d : D} {s' : Stt} (R : Rep F c) (h : Den2 F c v w) (e : frz w c.s = some (d, s')) :
    ∃ c', c'.H = c.H ∧ c'.s = s' ∧ Rep F c' ∧ GoE F c c' ∧ Rp F.K c'.B v d := by
  obtain ⟨c', e1, e2, _, _, R', G, r⟩ := frz_ok R GoE.rfl' (h.den (H0 := c.H)) e
  exact ⟨c', e1, e2, R', G, r⟩
theorem frzA_ok {F : Fx} : ∀ {c : Cf} {vs : List V} {ws : List W} {ds : List D} {s' : Stt}, Rep F c → DenA F c vs ws → frzA ws c.s = some (ds, s') →
    ∃ c', c'.H = c.H ∧ c'.s = s' ∧ Rep F c' ∧ GoE F c c' ∧ RpA F.K c'.B vs ds
  | c, _, _, ds, s', R, .nil, e => by
    simp only [frzA, Option.some.injEq, Prod.mk.injEq] at e
    obtain ⟨rfl, rfl⟩ := e
    exact ⟨c, rfl, rfl, R, GoE.rfl', .nil⟩
  | c, _, _, ds, s', R, .cons (a := v) (b := w) (l₁ := vs) (l₂ := ws) h t, e => by
    simp only [frzA] at e
    split at e
    · rename_i d s1 e1
      split at e
      · rename_i ds' s2 e2
        simp only [Option.some.injEq, Prod.mk.injEq] at e
        obtain ⟨rfl, rfl⟩ := e
        obtain ⟨c1, q1, q2, R1, G1, r1⟩ := frz2_ok R h e1
        obtain ⟨c2, p1, p2, R2, G2, r2⟩ := frzA_ok R1 (DenA.keep G1 t) (by rw [q2]; exact e2)
        exact ⟨c2, p1.trans q1, p2, R2, G1.trans G2, .cons (r1.ext G2.go.b) r2⟩
      · cases e
    · cases e
theorem DenA.len {F : Fx} {c : Cf} {vs : List V} {ws : List W} (h : DenA F c vs ws) : vs.length = ws.length := Paired.length h
def gTup (ga : GA) : GX := fun s Φ => ga s fun ws s1 => ∃ ds s2, frzA ws s1 = some (ds, s2) ∧ ws.length ≤ 1000 ∧ Φ (.dat (.tup ds)) s2
def gLst (ga : GA) : GX := fun s Φ => ga s fun ws s1 => ∃ ds s2, frzA ws s1 = some (ds, s2) ∧ ws.length ≤ 1000 ∧ Φ (.new ds) s2
theorem le_line {n : Nat} (h : n ≤ 1000) : n ≤ sizeLine := by rw [sizeLine_eq]; omega
theorem se_tup {t : TA} {ga : GA} (h : SA K t ga) : SE K (tTup t) (gTup ga) := by
  intro F hK c Φ Q R p q
  refine h F hK c _ _ R p fun c1 vs ws R1 G1 D1 p1 => ?_
  obtain ⟨ds, s2, e, hl, p2⟩ := p1
  refine ⟨le_line (by rw [D1.len]; exact hl), fun p hp => ?_⟩
  obtain ⟨c2, e1, e2, R2, G2, r⟩ := frzA_ok R1 D1 e
  rw [← e1] at hp ⊢
  obtain ⟨c3, e3, e4, R3, G3, r3⟩ := R2.newT hp r
  rw [← e3]
  exact q c3 _ (.dat (.tup ds)) R3 ((G1.trans G2).trans G3) r3 (by rw [e4, e2]; exact p2)
theorem se_lst {t : TA} {ga : GA} (h : SA K t ga) : SE K (tLst t) (gLst ga) := by
  intro F hK c Φ Q R p q
  refine h F hK c _ _ R p fun c1 vs ws R1 G1 D1 p1 => ?_
  obtain ⟨ds, s2, e, hl, p2⟩ := p1
  refine ⟨le_line (by rw [D1.len]; exact hl), fun p hp => ?_⟩
  obtain ⟨c2, e1, e2, R2, G2, r⟩ := frzA_ok R1 D1 e
  rw [← e1] at hp ⊢
  obtain ⟨c3, e3, e4, _, R3, G3, r3⟩ := R2.newL hp r
  rw [← e3]
  exact q c3 _ _ R3 ((G1.trans G2).trans G3) (r3.back (G1.trans G2).go) (by rw [e4, e2]; exact p2)
/-- a built-in called -/
def ClS (K : Bd) (r : List V → Hp → VK → Prop) (f : List D → Option W) : Prop := ∀ F : Fx, F.bd = K → ∀ (c : Cf) (xs : List V) (ds : List D) (w : W) (Q : VK), Rep F c → Paired (Rq F c) xs ds → f ds = some w →
  (∀ c' v, Rep F c' → GoE F c c' → c'.s = c.s → Den F c.H c' v w → Q v c'.H) → r xs c.H Q
def gCl (f : List D → Option W) (ga : GA) : GX := fun s Φ => ga s fun ws s1 => ∃ ds w, rdA ws s1 = some ds ∧ f ds = some w ∧ Φ w s1
theorem se_cl {r : List V → Hp → VK → Prop} {f : List D → Option W} {t : TA} {ga : GA} (ho : ClS K r f) (h : SA K t ga) : SE K (tCB r t) (gCl f ga) := by
  intro F hK c Φ Q R p q
  refine h F hK c _ _ R p fun c1 vs ws R1 G1 D1 p1 => ?_
  obtain ⟨ds, w, e1, e2, p2⟩ := p1
  refine ho F hK c1 vs ds w _ R1 (rdA_ok R1 D1 e1) e2 fun c2 v R2 G2 es D2 => ?_
  exact q c2 v w R2 (G1.trans G2) (D2.back G1.go) (es ▸ p2)
/-! ### statements -/
def gsNil : GS := fun s De => De.nx s
def gsSeq (a b : GS) : GS := fun s De => a s { De with nx := fun s' => b s' De }
theorem ss_nil : SS K tNext gsNil := by
  intro F hK c E De R p ok
  exact ok.nx c R Go.rfl' p
theorem ss_seq {t u : TS} {a b : GS} (h1 : SS K t a) (h2 : SS K u b) : SS K (tSeq t u) (gsSeq a b) := by
  intro F hK c E De R p ok
  refine h1 F hK c _ _ R p ⟨fun c' R' G' p' => ?_, ok.rt, ok.bk, ok.ct, ok.ex⟩
  exact h2 F hK c' E De R' p' (ok.go G')
def gsRet (g : GX) : GS := fun s De => g s De.rt
theorem ss_ret {t : TE} {g : GX} (h : SE K t g) : SS K (tRet t) (gsRet g) := by
  intro F hK c E De R p ok
  exact h F hK c _ _ R p fun c' v w R' G' D' p' => ok.rt c' v w R' G'.go D' p'
def gsRetN : GS := fun s De => De.rt (.dat .non) s
theorem ss_retN : SS K tRetN gsRetN := by
  intro F hK c E De R p ok
  exact ok.rt c .non (.dat .non) R Go.rfl' Rp.non p
def gsIf (gt : GB) (a b : GS) : GS := fun s De => gt s fun k s1 => if k = true then a s1 De else b s1 De
theorem ss_if {tt : TT} {t u : TS} {gt : GB} {a b : GS} (ht : SB K tt gt) (h1 : SS K t a) (h2 : SS K u b) : SS K (tIfS tt t u) (gsIf gt a b) := by
  intro F hK c E De R p ok
  refine ht F hK c _ _ R p fun c1 k R1 G1 p1 => ?_
  cases k with
  | true => exact h1.run hK G1.σ R1 p1 (ok.go G1.go)
  | false => exact h2.run hK G1.σ R1 p1 (ok.go G1.go)
def gsDrop (g : GX) : GS := fun s De => g s fun _ s1 => De.nx s1
theorem ss_drop {t : TE} {g : GX} (h : SE K t g) : SS K (tDrop t) (gsDrop g) := by
  intro F hK c E De R p ok
  refine h F hK c _ _ R p fun c' v w R' G' D' p' => ?_
  exact ok.nxE R' G' p'
def gsBrk : GS := fun s De => De.bk s
def gsCnt : GS := fun s De => De.ct s
theorem ss_brk : SS K tBreak gsBrk := by
  intro F hK c E De R p ok
  exact ok.bk c R Go.rfl' p
theorem ss_cnt : SS K tCont gsCnt := by
  intro F hK c E De R p ok
  exact ok.ct c R Go.rfl' p
/-! ### slots -/
def Stt.put (s : Stt) (i : Nat) (e : En) : Stt := { s with r := s.r.set i (some e) }
theorem get_set {α : Type} {l : List α} {i j : Nat} {x y : α} (h : (l.set i x)[j]? = some y) : (j = i ∧ y = x ∧ i < l.length) ∨ (j ≠ i ∧ l[j]? = some y) := by
  by_cases z : j = i
  · subst z
    by_cases q : j < l.length
    · rw [List.getElem?_set_self q] at h
      exact .inl ⟨rfl, (Option.some.inj h).symm, q⟩
    · rw [List.getElem?_eq_none (by rw [List.length_set]; omega)] at h
      cases h
  · rw [List.getElem?_set_ne (Ne.symm z)] at h
    exact .inr ⟨z, h⟩
/-- slot i holds v from now on, told as e -/
theorem Rep.setE {F : Fx} {c : Cf} {i : Nat} {v : V} {e : En} (R : Rep F c) (hv : i < c.σ.length → EnR F { c with σ := c.σ.set i (some v), s := c.s.put i e } i e)
    (hs : ∀ l, e.isOwn = true → v = .ref l → ¬ Own c l) : Rep F { c with σ := c.σ.set i (some v), s := c.s.put i e } ∧ (∀ a, Own { c with σ := c.σ.set i (some v), s := c.s.put i e } a → Own c a ∨ (e.isOwn = true ∧ v = .ref a)) := by
  have at1 : ∀ {j : Nat} {x : En}, (c.s.r.set i (some e))[j]? = some (some x) → (j = i ∧ x = e ∧ i < c.σ.length) ∨ (j ≠ i ∧ c.s.r[j]? = some (some x)) := by
    intro j x h
    rcases get_set h with ⟨a, b, q⟩ | q
    · exact .inl ⟨a, Option.some.inj b, by rw [R.len]; exact q⟩
    · exact .inr q
  have σ1 : ∀ {j : Nat}, j ≠ i → (c.σ.set i (some v))[j]? = c.σ[j]? := fun z => List.getElem?_set_ne (Ne.symm z)
  have σ2 : i < c.σ.length → (c.σ.set i (some v))[i]? = some (some v) := fun q => List.getElem?_set_self q
  refine ⟨⟨R.le, ?_, ?_, ?_, R.bag⟩, ?_⟩
  · show (c.σ.set i (some v)).length = (c.s.r.set i (some e)).length
    rw [List.length_set, List.length_set, R.len]
  · intro j x h
    rcases at1 h with ⟨rfl, rfl, q⟩ | ⟨z, q⟩
    · exact hv q
    · have y := R.at_ j x q
      cases x with
      | val d => obtain ⟨u, y1, y2⟩ := y; exact ⟨u, (σ1 z).trans y1, y2⟩
      | bag => exact ⟨y.1, (σ1 z).trans y.2⟩
      | _ => obtain ⟨l, vs, y1, y2⟩ := y; exact ⟨l, vs, (σ1 z).trans y1, y2⟩
  · intro j k dj dk l h1 o1 h2 o2 h3 h4
    rcases at1 h1 with ⟨rfl, e1, q1⟩ | ⟨z1, q1⟩ <;> rcases at1 h2 with ⟨rfl, e2, q2⟩ | ⟨z2, q2⟩
    · rfl
    · have h3' : (c.σ.set j (some v))[j]? = some (some (V.ref l)) := h3
      have h4' : (c.σ.set j (some v))[k]? = some (some (V.ref l)) := h4
      rw [σ2 q1] at h3'
      rw [σ1 z2] at h4'
      cases h3'
      exact absurd ⟨k, dk, q2, o2, h4'⟩ (hs _ (e1 ▸ o1) rfl)
    · have h3' : (c.σ.set k (some v))[j]? = some (some (V.ref l)) := h3
      have h4' : (c.σ.set k (some v))[k]? = some (some (V.ref l)) := h4
      rw [σ2 q2] at h4'
      rw [σ1 z1] at h3'
      cases h4'
      exact absurd ⟨j, dj, q1, o1, h3'⟩ (hs _ (e2 ▸ o2) rfl)
    · exact R.sep j k dj dk l q1 o1 q2 o2 ((σ1 z1).symm.trans h3) ((σ1 z2).symm.trans h4)
  · rintro a ⟨j, ds, h1, h0, h2⟩
    rcases at1 h1 with ⟨rfl, e1, q1⟩ | ⟨z1, q1⟩
    · have h2' : (c.σ.set j (some v))[j]? = some (some (V.ref a)) := h2
      rw [σ2 q1] at h2'
      cases h2'
      exact .inr ⟨e1 ▸ h0, rfl⟩
    · exact .inl ⟨j, ds, q1, h0, (σ1 z1).symm.trans h2⟩
theorem Rep.setV {F : Fx} {c : Cf} {i : Nat} {v : V} {d : D} (R : Rep F c) (hv : Rp F.K c.B v d) : Rep F { c with σ := c.σ.set i (some v), s := c.s.put i (.val d) } ∧ Go F c { c with σ := c.σ.set i (some v), s := c.s.put i (.val d) } := by
  obtain ⟨h1, h2⟩ := R.setE (i := i) (v := v) (e := .val d) (fun q => ⟨v, List.getElem?_set_self q, hv⟩) (fun l e => by cases e)
  refine ⟨h1, ⟨Ext.rfl', fun a o e _ => e, fun a e n => absurd n e, fun a m => ?_, fun a e => e⟩⟩
  rcases h2 a m with q | ⟨e, _⟩
  · exact .inl q
  · cases e
def gsSet (i : Nat) (g : GX) : GS := fun s De => g s fun w s1 => ∃ d s2, frz w s1 = some (d, s2) ∧ De.nx (s2.put i (.val d))
theorem ss_set {i : Nat} {t : TE} {g : GX} (h : SE K t g) : SS K (tAsg t (L2.gName i)) (gsSet i g) := by
  intro F hK c E De R p ok
  refine h F hK c _ _ R p fun c1 v w R1 G1 D1 p1 => ?_
  obtain ⟨d, s2, e, p2⟩ := p1
  obtain ⟨c2, e1, e2, e3, _, R2, G2, r⟩ := frz_ok R1 G1 D1 e
  obtain ⟨R3, G3⟩ := R2.setV (i := i) r
  have q := ok.nx _ R3 (G2.go.trans G3) (by rw [e2]; exact p2)
  show E.nx (c.σ.set i (some v)) c1.H
  rw [← G1.σ, ← e3, ← e1]
  exact q
def gsOwn (i : Nat) (g : GX) : GS := fun s De => g s fun w s1 => ∃ ds, w = .new ds ∧ De.nx (s1.put i (.own ds))
theorem ss_own {i : Nat} {t : TE} {g : GX} (h : SE K t g) : SS K (tAsg t (L2.gName i)) (gsOwn i g) := by
  intro F hK c E De R p ok
  refine h F hK c _ _ R p fun c1 v w R1 G1 D1 p1 => ?_
  obtain ⟨ds, rfl, p2⟩ := p1
  obtain ⟨l, vs, rfl, h2, h3, h4, h5, h6, h7⟩ := D1
  obtain ⟨R3, hO⟩ := R1.setE (i := i) (v := .ref l) (e := .own ds) (fun q => ⟨l, .lst vs, List.getElem?_set_self q, h2, ⟨vs, rfl, h3⟩, h4, h6⟩) (fun l' _ e => by cases e; exact h5)
  have q := ok.nx { c1 with σ := c1.σ.set i (some (.ref l)), s := c1.s.put i (.own ds) } R3 ⟨G1.go.b, G1.go.fr, G1.go.nb, fun a m => by
    rcases hO a m with z | ⟨_, z⟩
    · exact G1.go.ow a z
    · cases z; exact .inr h7, G1.go.dom⟩ p2
  show E.nx (c.σ.set i (some (.ref l))) c1.H
  rw [← G1.σ]
  exact q
/-- the thing of slot i becomes another one -/
theorem Rep.updE {F : Fx} {c : Cf} {i : Nat} {l : Addr} {e e' : En} {o' : HO} (R : Rep F c) (hi : c.s.r[i]? = some (some e)) (ho : e.isOwn = true) (hl : c.σ[i]? = some (some (.ref l))) (hv : OwR F c.B l e' o') :
    Rep F { c with H := upd c.H l o', s := c.s.put i e' } ∧ GoE F c { c with H := upd c.H l o', s := c.s.put i e' } := by
  obtain ⟨l1, vs, q1, q2, q3, q4, q5⟩ := (R.at_ i _ hi).own ho
  rw [hl] at q1
  cases q1
  have ho' := hv.isOwn
  have hlen : i < c.s.r.length := (List.getElem?_eq_some_iff.mp hi).1
  have at1 : ∀ {j : Nat} {x : En}, (c.s.r.set i (some e'))[j]? = some (some x) → (j = i ∧ x = e') ∨ (j ≠ i ∧ c.s.r[j]? = some (some x)) := by
    intro j x h
    rcases get_set h with ⟨a, b, q⟩ | q
    · exact .inl ⟨a, Option.some.inj b⟩
    · exact .inr q
  have own1 : ∀ {j : Nat} {x : En}, (c.s.r.set i (some e'))[j]? = some (some x) → x.isOwn = true → ∃ y, c.s.r[j]? = some (some y) ∧ y.isOwn = true := by
    intro j dj h hx
    rcases at1 h with ⟨rfl, _⟩ | ⟨_, q⟩
    · exact ⟨_, hi, ho⟩
    · exact ⟨_, q, hx⟩
  have R' : Rep F { c with H := upd c.H l o', s := c.s.put i e' } := by
    refine ⟨?_, ?_, ?_, ?_, ?_⟩
    · intro a u e
      show (upd c.H l o') a = some u
      rw [upd_ne (ne_of_none e q4)]
      exact R.le a u e
    · show c.σ.length = (c.s.r.set i _).length
      rw [List.length_set]; exact R.len
    · intro j x h
      rcases at1 h with ⟨rfl, rfl⟩ | ⟨z, q⟩
      · have key : OwE F { c with H := upd c.H l o', s := c.s.put j x } j x := ⟨l, o', hl, upd_same, hv, q4, q5⟩
        cases x with
        | val d => cases ho'
        | bag => cases ho'
        | _ => exact key
      · have y := R.at_ j x q
        cases x with
        | val d => exact y
        | bag => exact y
        | _ =>
          obtain ⟨l', vsj, y1, y2, y3⟩ := y
          refine ⟨l', vsj, y1, ?_, y3⟩
          show (upd c.H l o') l' = some vsj
          rw [upd_ne (fun e => z (R.sep j i _ _ l q rfl hi ho (by rw [← e]; exact y1) hl))]
          exact y2
    · intro j k dj dk l' h1 o1 h2 o2 h3 h4
      obtain ⟨_, z1, z1'⟩ := own1 h1 o1
      obtain ⟨_, z2, z2'⟩ := own1 h2 o2
      exact R.sep j k _ _ l' z1 z1' z2 z2' h3 h4
    · intro on
      obtain ⟨p1, p2, p3⟩ := R.bag on
      refine ⟨p1.at_ ?_ ?_, p2, p3⟩
      · show (upd c.H l o') F.b = c.H F.b
        rw [upd_ne (q5 on).1.symm]
      · show (upd c.H l o') F.c = c.H F.c
        rw [upd_ne (q5 on).2.symm]
  have G : Go F c { c with H := upd c.H l o', s := c.s.put i e' } := by
    refine ⟨Ext.rfl', fun a u q n => ?_, fun a e n => absurd n e, ?_, fun a q => ?_⟩
    · show (upd c.H l o') a = some u
      rw [upd_ne (fun z => n (.inl ⟨i, e, hi, ho, by rw [z]; exact hl⟩))]
      exact q
    · rintro a ⟨j, dj, h1, h0, h2⟩
      obtain ⟨dk, z, z'⟩ := own1 h1 h0
      exact .inl ⟨j, dk, z, z', h2⟩
    · show (upd c.H l o') a ≠ none
      by_cases z : a = l
      · rw [z, upd_same]; exact fun x => nomatch x
      · rw [upd_ne z]; exact q
  refine ⟨R', G, rfl, fun j e1 h => ?_⟩
  by_cases z : j = i
  · subst z
    exact ⟨e', List.getElem?_set_self hlen⟩
  · exact ⟨e1, (List.getElem?_set_ne (Ne.symm z)).trans h⟩
end
end DL
set_option maxHeartbeats 2000000
/-! Targets, walks, loops, comprehensions over data. -/
namespace DL
open PySem PySem.Spec PyProof.Rows L2 Ax
section
variable {K : Bd}
/-! ### targets -/
structure ST (K : Bd) (tg : TG) (is : List Nat) (f : D → Stt → Option Stt) : Prop where
  run : ∀ F : Fx, F.bd = K → ∀ (c : Cf) (v : V) (d : D) (s' : Stt) (Q : L2.St → Hp → Prop), Rep F c → Rp F.K c.B v d → f d c.s = some s' →
    (∀ c', Rep F c' → Go F c c' → c'.s = s' → c'.H = c.H → c'.σ.length = c.σ.length → (∀ j, j ∉ is → c'.σ[j]? = c.σ[j]?) → Q c'.σ c'.H) → tg v c.σ c.H Q
  keep : ∀ d s s', f d s = some s' → s'.n = s.n ∧ s'.r.length = s.r.length ∧ ∀ j, j ∉ is → s'.r[j]? = s.r[j]?
structure STs (K : Bd) (tg : TGs) (is : List Nat) (f : List D → Stt → Option Stt) : Prop where
  run : ∀ F : Fx, F.bd = K → ∀ (c : Cf) (vs : List V) (ds : List D) (s' : Stt) (Q : L2.St → Hp → Prop), Rep F c → RpA F.K c.B vs ds → f ds c.s = some s' →
    (∀ c', Rep F c' → Go F c c' → c'.s = s' → c'.H = c.H → c'.σ.length = c.σ.length → (∀ j, j ∉ is → c'.σ[j]? = c.σ[j]?) → Q c'.σ c'.H) → tg vs c.σ c.H Q
  keep : ∀ ds s s', f ds s = some s' → s'.n = s.n ∧ s'.r.length = s.r.length ∧ ∀ j, j ∉ is → s'.r[j]? = s.r[j]?
def tgName (i : Nat) : D → Stt → Option Stt := fun d s => some (s.put i (.val d))
theorem st_name (i : Nat) : ST K (L2.gName i) [i] (tgName i) := by
  refine ⟨fun F hK c v d s' Q R hv e q => ?_, fun d s s' e => ?_⟩
  · cases Option.some.inj e
    obtain ⟨R1, G1⟩ := R.setV (i := i) hv
    refine q _ R1 G1 rfl rfl (by simp) fun j hj => ?_
    exact List.getElem?_set_ne (fun z => hj (by simp [z]))
  · cases Option.some.inj e
    exact ⟨rfl, by simp [Stt.put], fun j hj => List.getElem?_set_ne (fun z => hj (by simp [z]))⟩
def tgNil : List D → Stt → Option Stt
  | [], s => some s
  | _, _ => none
def tgCons (f : D → Stt → Option Stt) (g : List D → Stt → Option Stt) : List D → Stt → Option Stt
  | d :: ds, s => match f d s with
    | some s1 => g ds s1
    | none => none
  | [], _ => none
theorem st_nil : STs K gNil [] tgNil := by
  refine ⟨fun F hK c vs ds s' Q R hv e q => ?_, fun ds s s' e => ?_⟩
  · cases hv with
    | nil =>
      cases Option.some.inj e
      exact ⟨rfl, q c R Go.rfl' rfl rfl rfl fun _ _ => rfl⟩
    | cons h t => cases e
  · cases ds with
    | nil => cases Option.some.inj e; exact ⟨rfl, rfl, fun _ _ => rfl⟩
    | cons d ds => cases e
theorem st_cons {t : TG} {u : TGs} {is js : List Nat} {f : D → Stt → Option Stt} {g : List D → Stt → Option Stt} (h1 : ST K t is f) (h2 : STs K u js g) : STs K (gCons t u) (is ++ js) (tgCons f g) := by
  refine ⟨fun F hK c vs ds s' Q R hv e q => ?_, fun ds s s' e => ?_⟩
  · cases hv with
    | nil => cases e
    | @cons v vs d ds h t =>
      simp only [tgCons] at e
      split at e
      · rename_i s1 e1
        refine ⟨v, vs, rfl, h1.run F hK c v d s1 _ R h e1 fun c1 R1 G1 q1 qH q2 q3 => ?_⟩
        refine h2.run F hK c1 vs ds s' _ R1 (t.ext G1.b) (by rw [q1]; exact e) fun c2 R2 G2 p1 pH p2 p3 => ?_
        refine q c2 R2 (G1.trans G2) p1 (pH.trans qH) (p2.trans q2) fun j hj => ?_
        rw [List.mem_append, not_or] at hj
        exact (p3 j hj.2).trans (q3 j hj.1)
      · cases e
  · cases ds with
    | nil => cases e
    | cons d ds =>
      simp only [tgCons] at e
      split at e
      · rename_i s1 e1
        obtain ⟨a1, a2, a3⟩ := h1.keep _ _ _ e1
        obtain ⟨b1, b2, b3⟩ := h2.keep _ _ _ e
        refine ⟨b1.trans a1, b2.trans a2, fun j hj => ?_⟩
        rw [List.mem_append, not_or] at hj
        exact (b3 j hj.2).trans (a3 j hj.1)
      · cases e
def tgTup (n : Nat) (g : List D → Stt → Option Stt) : D → Stt → Option Stt
  | .tup ds, s => if ds.length = n then g ds s else none
  | _, _ => none
theorem st_tup {n : Nat} {u : TGs} {is : List Nat} {g : List D → Stt → Option Stt} (h : STs K u is g) : ST K (L2.gTup K n u) is (tgTup n g) := by
  refine ⟨fun F hK c v d s' Q R hv e q => ?_, fun d s s' e => ?_⟩
  · cases hv with
    | @tup a xs ds h1 h2 =>
      simp only [tgTup] at e
      split at e
      · rename_i hl
        refine ⟨a, xs, rfl, by rw [← hK]; exact h1.ext R.le, by rw [h2.len]; exact hl, ?_⟩
        exact h.run F hK c xs ds s' Q R h2 e q
      · cases e
    | _ => cases e
  · cases d with
    | tup ds =>
      simp only [tgTup] at e
      split at e
      · exact h.keep _ _ _ e
      · cases e
    | _ => cases e
/-- x, y = e -/
def gsAsg (f : D → Stt → Option Stt) (g : GX) : GS := fun s De => g s fun w s1 => ∃ d s2 s3, frz w s1 = some (d, s2) ∧ f d s2 = some s3 ∧ De.nx s3
theorem ss_asg {t : TE} {tg : TG} {is : List Nat} {f : D → Stt → Option Stt} {g : GX} (h : SE K t g) (ht : ST K tg is f) : SS K (tAsg t tg) (gsAsg f g) := by
  intro F hK c E De R p ok
  refine h F hK c _ _ R p fun c1 v w R1 G1 D1 p1 => ?_
  obtain ⟨d, s2, s3, e, e', p2⟩ := p1
  obtain ⟨c2, e1, e2, e3, _, R2, G2, r⟩ := frz_ok R1 G1 D1 e
  have key := ht.run F hK c2 v d s3 E.nx R2 r (by rw [e2]; exact e') fun c3 R3 G3 q1 qH _ _ => ok.nx c3 R3 (G2.go.trans G3) (by rw [q1]; exact p2)
  rw [e3, e1, G1.σ] at key
  exact key
/-! ### walks -/
structure WalkD (F : Fx) (B0 : Hp) (J : It) (ds : List D) : Prop where
  ex : ∃ Y, Walk J ds.length (fun H => Ext B0 H) Y ∧ ∀ (i : Nat) (x : V) (c : Cf) (H' : Hp), Rep F c → Ext B0 c.B → i < ds.length → Y i c.H x H' →
    ∃ c' d, c'.H = H' ∧ c'.s = c.s ∧ c'.σ = c.σ ∧ Rep F c' ∧ Go F c c' ∧ ds[i]? = some d ∧ Rp F.K c'.B x d
def SI (K : Bd) (wi : TI) (g : GI) : Prop := ∀ F : Fx, F.bd = K → ∀ (c : Cf) (Φ : List D → Stt → Prop) (R : It → Hp → Prop), Rep F c → g c.s Φ → (∀ c' J ds, Rep F c' → GoE F c c' → WalkD F c'.B J ds → Φ ds c'.s → R J c'.H) → wi c.σ c.H R
theorem SI.run {wi : TI} {g : GI} (h : SI K wi g) {F : Fx} (hK : F.bd = K) {c : Cf} {σ : L2.St} (e : c.σ = σ) {Φ : List D → Stt → Prop} {R : It → Hp → Prop} (Rc : Rep F c) (p : g c.s Φ) (q : ∀ c' J ds, Rep F c' → GoE F c c' → WalkD F c'.B J ds → Φ ds c'.s → R J c'.H) : wi σ c.H R := by
  subst e
  exact h F hK c Φ R Rc p q
def loopF (f : D → Stt → Option Stt) (b : GS) : List D → Stt → EndsD → Prop
  | [], s, De => De.nx s
  | d :: ds, s, De => ∃ s1, f d s = some s1 ∧ b s1 { nx := fun s2 => loopF f b ds s2 De, ct := fun s2 => loopF f b ds s2 De, bk := De.nx, rt := De.rt, ex := De.ex }
def gsFor (gi : GI) (f : D → Stt → Option Stt) (b : GS) : GS := fun s De => gi s fun ds s1 => loopF f b ds s1 De
theorem ss_for {wi : TI} {tg : TG} {tb : TS} {gi : GI} {is : List Nat} {f : D → Stt → Option Stt} {b : GS} (hi : SI K wi gi) (ht : ST K tg is f) (hb : SS K tb b) : SS K (tFor wi tg tb) (gsFor gi f b) := by
  intro F hK c E De R p ok
  refine hi F hK c _ _ R p fun c1 J ds R1 G1 W p1 => ?_
  obtain ⟨Y, hw, hY⟩ := W.ex
  refine for_it hw (fun i σ H => ∃ c2, c2.σ = σ ∧ c2.H = H ∧ Rep F c2 ∧ Go F c1 c2 ∧ loopF f b (ds.drop i) c2.s De) ⟨c1, G1.σ, rfl, R1, Go.rfl', p1⟩ ?_ ?_ ?_
  · rintro i σ H hi ⟨c2, rfl, rfl, R2, G2, _⟩
    exact G2.b.trans R2.le
  · rintro i x σ H H' hi ⟨c2, rfl, rfl, R2, G2, p2⟩ y
    obtain ⟨c3, d, eH, es, eσ, R3, G3, hd, r⟩ := hY i x c2 H' R2 G2.b hi y
    have hdr : ds.drop i = d :: ds.drop (i + 1) := by
      rw [List.drop_eq_getElem_cons hi]
      have := List.getElem?_eq_getElem hi
      rw [hd] at this
      rw [← Option.some.inj this]
    rw [hdr] at p2
    obtain ⟨s1, e1, p3⟩ := p2
    rw [← eH, ← eσ]
    refine ht.run F hK c3 x d s1 _ R3 r (by rw [es]; exact e1) fun c4 R4 G4 q1 qH _ _ => ?_
    have G14 := (G2.trans G3).trans G4
    refine hb F hK c4 _ { nx := fun s2 => loopF f b (ds.drop (i + 1)) s2 De, ct := fun s2 => loopF f b (ds.drop (i + 1)) s2 De, bk := De.nx, rt := De.rt, ex := De.ex } R4 (by rw [q1]; exact p3) ⟨fun c5 R5 G5 p5 => ⟨c5, rfl, rfl, R5, G14.trans G5, p5⟩, fun c5 v w R5 G5 D5 p5 => ?_, fun c5 R5 G5 p5 => ?_, fun c5 R5 G5 p5 => ⟨c5, rfl, rfl, R5, G14.trans G5, p5⟩, fun c5 R5 G5 => ok.ex c5 R5 ((G1.go.trans G14).trans G5)⟩
    · exact ok.rt c5 v w R5 ((G1.go.trans G14).trans G5) (D5.back (G1.go.trans G14)) p5
    · exact ok.nx c5 R5 ((G1.go.trans G14).trans G5) p5
  · rintro σ H ⟨c2, rfl, rfl, R2, G2, p2⟩
    rw [List.drop_length] at p2
    exact ok.nx c2 R2 (G1.go.trans G2) p2
/-! ### what is walked -/
def itemsD : D → Option (List D)
  | .lst ds => some ds
  | .tup ds => some ds
  | .tpz ds => some ds
  | _ => none
def giSeq (g : GX) : GI := fun s Φ => g s fun w s1 => ∃ d s2 ds, frz w s1 = some (d, s2) ∧ itemsD d = some ds ∧ Φ ds s2
def iSeq (K : PySem.W.Frag) (te : TE) : TI := fun σ H R => te σ H fun x H1 => (∃ a, x = .ref a ∧ (∃ xs, SqL K H1 a xs) ∧ R (Itl K a) H1) ∨ (∃ a, x = .ref a ∧ (∃ xs, SqT K H1 a xs) ∧ R (Itt K a) H1)
theorem pi_seq {X : Cx} {tg l : Expr} {tl : TE} (hl : PE X l tl) : PI X tg l (iSeq X.K tl) := by
  refine ⟨fun pins s σ H R I h => ?_⟩
  have key : wpAny (model X.prog X.w) X.A (eval l X.env) (fun v s1 => (∃ x H1, Inv X pins σ H1 s1 ∧ RelV x v ∧ (∃ a, x = .ref a ∧ (∃ xs, SqL X.K H1 a xs) ∧ R (Itl X.K a) H1)) ∨ (∃ x H1, Inv X pins σ H1 s1 ∧ RelV x v ∧ (∃ a, x = .ref a ∧ (∃ xs, SqT X.K H1 a xs) ∧ R (Itt X.K a) H1))) X.xe s :=
    thn (hl.run pins s σ H _ I h) fun v s1 ⟨x, H1, I1, r, q⟩ => q.elim (fun q => .inl ⟨x, H1, I1, r, q⟩) fun q => .inr ⟨x, H1, I1, r, q⟩
  refine thn key fun v s1 q => ?_
  rcases q with ⟨x, H1, I1, r, q⟩ | ⟨x, H1, I1, r, q⟩
  · obtain ⟨a, rfl, ⟨xs, hs⟩, hR⟩ := q
    obtain rfl : v = Value.ref a := r
    obtain ⟨its, rv, p, hz⟩ := I1.list hs
    refine wpAny_pyIter_list p.isList ?_
    exact pi_one (tk := s1.toks) I1 _ (turn_list a s1.heap.objs.size) ⟨_, Heap.get?_push_size _ rfl, rfl, rfl⟩ hR
  · obtain ⟨a, rfl, ⟨xs, hs⟩, hR⟩ := q
    obtain rfl : v = Value.ref a := r
    obtain ⟨its, rv, p, hz⟩ := I1.tuple hs
    refine wpAny_pyIter_tuple p ?_
    exact pi_one (tk := s1.toks) I1 _ (turn_tuple a s1.heap.objs.size) ⟨_, Heap.get?_push_size _ rfl, rfl, rfl⟩ hR
theorem wd_list {F : Fx} {B : Hp} {a : Addr} {vs : List V} {ds : List D} (h : SqL F.K B a vs) (r : RpA F.K B vs ds) : WalkD F B (Itl F.K a) ds := by
  refine ⟨YAt vs, ?_, fun i x c H' R x0 hi y => ?_⟩
  · rw [← r.len]
    exact walk_list.mono (fun H e => h.ext e) fun _ _ _ _ _ _ y => y
  · obtain ⟨rfl, hx⟩ := y
    obtain ⟨d, h1, h2⟩ := r.get hx
    exact ⟨c, d, rfl, rfl, rfl, R, Go.rfl', h1, h2.ext x0⟩
theorem wd_tup {F : Fx} {B : Hp} {a : Addr} {vs : List V} {ds : List D} (h : SqT F.K B a vs) (r : RpA F.K B vs ds) : WalkD F B (Itt F.K a) ds := by
  refine ⟨YAt vs, ?_, fun i x c H' R x0 hi y => ?_⟩
  · rw [← r.len]
    exact walk_tup.mono (fun H e => h.ext e) fun _ _ _ _ _ _ y => y
  · obtain ⟨rfl, hx⟩ := y
    obtain ⟨d, h1, h2⟩ := r.get hx
    exact ⟨c, d, rfl, rfl, rfl, R, Go.rfl', h1, h2.ext x0⟩
theorem si_seq {t : TE} {g : GX} (h : SE K t g) : SI K (iSeq K t) (giSeq g) := by
  intro F hK c Φ Rr R p q
  refine h F hK c _ _ R p fun c1 v w R1 G1 D1 p1 => ?_
  obtain ⟨d, s2, ds, e, e', p2⟩ := p1
  obtain ⟨c2, e1, e2, e3, _, R2, G2, r⟩ := frz_ok R1 G1 D1 e
  subst hK
  cases r with
  | @lst a xs ds' h1 h2 =>
    cases Option.some.inj e'
    exact .inl ⟨a, rfl, ⟨xs, by rw [← e1]; exact SqL.of (R2.le _ _ h1)⟩, by rw [← e1]; exact q c2 _ ds R2 G2 (wd_list (SqL.of h1) h2) (by rw [e2]; exact p2)⟩
  | @tup a xs ds' h1 h2 =>
    cases Option.some.inj e'
    exact .inr ⟨a, rfl, ⟨xs, by rw [← e1]; exact h1.ext R2.le⟩, by rw [← e1]; exact q c2 _ ds R2 G2 (wd_tup h1 h2) (by rw [e2]; exact p2)⟩
  | @tpz a ob xs ds' h1 _ _ h2 =>
    cases Option.some.inj e'
    have h1 : SqT F.K c2.B a xs := .inl (.inr ⟨_, h1⟩)
    exact .inr ⟨a, rfl, ⟨xs, by rw [← e1]; exact h1.ext R2.le⟩, by rw [← e1]; exact q c2 _ ds R2 G2 (wd_tup h1 h2) (by rw [e2]; exact p2)⟩
  | _ => cases e'
/-- lo, lo + 1, .. -/
def rangeD (lo : Int) (n : Nat) : List D := (List.range n).map fun i => D.int (lo + (i : Nat))
theorem wd_range {F : Fx} {B : Hp} (lo : Int) (n : Nat) : WalkD F B (Itr lo n) (rangeD lo n) := by
  have hl : (rangeD lo n).length = n := by simp [rangeD]
  refine ⟨YFn fun i => .int (lo + (i : Nat)), ?_, fun i x c H' R x0 hi y => ?_⟩
  · rw [hl]
    exact walk_range.mono (fun H e => trivial) fun _ _ _ _ _ _ y => y
  · obtain ⟨rfl, rfl⟩ := y
    rw [hl] at hi
    exact ⟨c, .int (lo + (i : Nat)), rfl, rfl, rfl, R, Go.rfl', by simp [rangeD, hi], .int _⟩
def giRange1 (ga : GA) : GI := fun s Φ => ga s fun ws s1 => ∃ j : Int, rdA ws s1 = some [.int j] ∧ (-(2 ^ 62) ≤ j ∧ j < 2 ^ 62) ∧ Φ (rangeD 0 j.toNat) s1
theorem si_range1 {t : TA} {ga : GA} (h : SA K t ga) : SI K (iRng1 t) (giRange1 ga) := by
  intro F hK c Φ Rr R p q
  refine h F hK c _ _ R p fun c1 vs ws R1 G1 D1 p1 => ?_
  obtain ⟨j, e, hj, p2⟩ := p1
  have z := rdA_ok R1 D1 e
  cases z with
  | cons a t =>
    cases t
    have a := a.int
    subst a
    exact ⟨j, rfl, hj.1, hj.2, q c1 _ _ R1 G1 (wd_range 0 j.toNat) p2⟩
def giRange2 (ga : GA) : GI := fun s Φ => ga s fun ws s1 => ∃ i j : Int, rdA ws s1 = some [.int i, .int j] ∧ (-(2 ^ 62) ≤ i ∧ i < 2 ^ 62 ∧ -(2 ^ 62) ≤ j ∧ j < 2 ^ 62) ∧ Φ (rangeD i (j - i).toNat) s1
theorem si_range2 {t : TA} {ga : GA} (h : SA K t ga) : SI K (iRng2 t) (giRange2 ga) := by
  intro F hK c Φ Rr R p q
  refine h F hK c _ _ R p fun c1 vs ws R1 G1 D1 p1 => ?_
  obtain ⟨i, j, e, hj, p2⟩ := p1
  have z := rdA_ok R1 D1 e
  cases z with
  | cons a t =>
    cases t with
    | cons b u =>
      cases u
      have a := a.int
      have b := b.int
      subst a b
      exact ⟨i, j, rfl, hj, q c1 _ _ R1 G1 (wd_range i _) p2⟩
/-! ### pairs made in the walk -/
theorem wd_pairs {F : Fx} {B : Hp} {J : It} {n : Nat} {xs ys : Nat → Option V} {ps : List (D × D)} (hn : ps.length = n) (hw : Walk J n (fun H => Ext B H) (YPair xs ys)) (h : ∀ i x y, i < n → xs i = some x → ys i = some y → ∃ p, ps[i]? = some p ∧ Rp F.K B x p.1 ∧ Rp F.K B y p.2) :
    WalkD F B J (ps.map fun p => D.tup [p.1, p.2]) := by
  subst hn
  refine ⟨YPair xs ys, by rw [List.length_map]; exact hw, fun i v c H' R x0 hi z => ?_⟩
  rw [List.length_map] at hi
  obtain ⟨T, x, y, rfl, hT, rfl, h1, h2⟩ := z
  obtain ⟨p, hp, r1, r2⟩ := h i x y hi h1 h2
  obtain ⟨c', e1, e2, R', G, r⟩ := R.newT hT (.cons (r1.ext x0) (.cons (r2.ext x0) .nil))
  exact ⟨c', _, e1, e2, G.σ, R', G.go, by rw [List.getElem?_map, hp]; rfl, r⟩
def enumD (k : Nat) : List D → List (D × D)
  | [] => []
  | d :: ds => (.int (k : Nat), d) :: enumD (k + 1) ds
theorem enumD_get (k : Nat) : ∀ (ds : List D) (i : Nat), (enumD k ds)[i]? = ds[i]?.map fun d => (D.int ((k + i : Nat) : Int), d)
  | [], i => by simp [enumD]
  | d :: ds, 0 => by simp [enumD]
  | d :: ds, i + 1 => by
    simp only [enumD, List.getElem?_cons_succ]
    rw [enumD_get (k + 1) ds i]
    have : k + 1 + i = k + (i + 1) := by omega
    rw [this]
theorem enumD_len (k : Nat) (ds : List D) : (enumD k ds).length = ds.length := by
  induction ds generalizing k with
  | nil => rfl
  | cons d ds ih => simp [enumD, ih]
def giEnum (ga : GA) : GI := fun s Φ => ga s fun ws s1 => ∃ w d s2 ds, ws = [w] ∧ frz w s1 = some (d, s2) ∧ itemsD d = some ds ∧ Φ ((enumD 0 ds).map fun p => D.tup [p.1, p.2]) s2
def iEnumA (K : PySem.W.Frag) (ta : TA) : TI := fun σ H R => ta σ H fun vs H1 => (∃ a xs, vs = [.ref a] ∧ SqL K H1 a xs ∧ R (Ite K a) H1) ∨ (∃ a xs, vs = [.ref a] ∧ SqT K H1 a xs ∧ R (IteT K a) H1)
theorem pi_enumA {X : Cx} {e : Expr} {ta : TA} {p pos tpos : Pos} {elts : List Expr} {kk : Nat} (hg : Gl X "enumerate") (hm : X.mg "enumerate" = none) (ha : PA X [e] ta) (hs : starEach [e] X.env = [(false, eval e X.env)] := by rfl) :
    PI X (.Tuple elts kk tpos) (.Call (.Name "enumerate" p) [e] [] pos) (iEnumA X.K ta) := by
  refine ⟨fun pins s σ H R I h => ?_⟩
  refine Call_ (ld_blt I hg hm boot_enumerate (PyProof.Rows.callWith_type1 (thn (ha.run pos pins s σ H _ I h) fun us s1 ⟨vs, H1, I1, r1, q1⟩ => ?_) hs rfl))
  rcases q1 with ⟨a, xs, rfl, hq, q⟩ | ⟨a, xs, rfl, hq, q⟩
  · obtain ⟨u, rfl, ru⟩ := vals1 r1
    obtain rfl : u = Value.ref a := ru
    obtain ⟨its, rv, p', hz⟩ := I1.list hq
    refine call_enumerate_list p'.isList fun h' he hit hsz hk => wpAny_pyIter_enum he ?_
    have I2 : Inv X pins σ H1 { s1 with heap := h' } := I1.kept (t' := s1.toks) hk
    refine ⟨s1.heap.objs.size + 1, [s1.heap.objs.size + 1, s1.heap.objs.size], _, _, H1, rfl, I2, turn_enum a (s1.heap.objs.size + 1) s1.heap.objs.size, ⟨⟨.none, he⟩, hit, Nat.succ_ne_self _⟩, fun b hb => ?_, q⟩
    have e' : b = s1.heap.objs.size + 1 ∨ b = s1.heap.objs.size := by simpa using hb
    have hle : s1.heap.objs.size ≤ b := by
      rcases e' with z | z
      · rw [z]; exact Nat.le_add_right _ _
      · rw [z]; exact Nat.le_refl _
    exact I1.fpOk hle (I1.hok.fresh hle)
  · obtain ⟨u, rfl, ru⟩ := vals1 r1
    obtain rfl : u = Value.ref a := ru
    obtain ⟨its, rv, pt, hz⟩ := I1.tuple hq
    refine ax_enumCall (begins_tuple a its.toArray) pt fun h' he hi hk => wpAny_pyIter_enum he ?_
    have I2 : Inv X pins σ H1 { s1 with heap := h' } := I1.kept (t' := s1.toks) hk
    refine ⟨s1.heap.objs.size + 1, [s1.heap.objs.size + 1, s1.heap.objs.size], _, _, H1, rfl, I2, turn_enumT a (s1.heap.objs.size + 1) s1.heap.objs.size, ⟨⟨.none, he⟩, ⟨_, hi, rfl, rfl⟩, Nat.succ_ne_self _⟩, fun b hb => ?_, q⟩
    have hle : s1.heap.objs.size ≤ b := by
      rcases List.mem_cons.mp hb with z | z
      · rw [z]; exact Nat.le_add_right _ _
      · rw [List.mem_singleton.mp z]; exact Nat.le_refl _
    exact I1.fpOk hle (I1.hok.fresh hle)
theorem si_enum {t : TA} {ga : GA} (h : SA K t ga) : SI K (iEnumA K t) (giEnum ga) := by
  intro F hK c Φ Rr R p q
  refine h F hK c _ _ R p fun c1 vs ws R1 G1 D1 p1 => ?_
  obtain ⟨w, d, s2, ds, rfl, e, e', p2⟩ := p1
  cases D1 with
  | @cons v _ vs _ dw t =>
    cases t
    obtain ⟨c2, e1, e2, R2, G2, r⟩ := frz2_ok R1 dw e
    subst hK
    cases r with
    | @lst a xs ds' h1 h2 =>
      cases Option.some.inj e'
      refine .inl ⟨a, xs, rfl, by rw [← e1]; exact SqL.of (R2.le _ _ h1), ?_⟩
      rw [← e1]
      refine q c2 _ _ R2 (G1.trans G2) (wd_pairs (n := xs.length) (by rw [enumD_len 0 ds, h2.len]) (walk_enum.mono (fun H e => SqL.of (e _ _ h1)) fun _ _ _ _ _ _ y => y) fun i x y hi hx hy => ?_) (by rw [e2]; exact p2)
      obtain ⟨d', g1, g2⟩ := h2.get hy
      cases Option.some.inj hx
      exact ⟨(D.int ((0 + i : Nat) : Int), d'), by rw [enumD_get 0, g1]; rfl, by show Rp F.K c2.B (.int (i : Nat)) (.int ((0 + i : Nat) : Int)); rw [Nat.zero_add]; exact .int _, g2⟩
    | @tup a xs ds' h1 h2 =>
      cases Option.some.inj e'
      refine .inr ⟨a, xs, rfl, by rw [← e1]; exact h1.ext R2.le, ?_⟩
      rw [← e1]
      refine q c2 _ _ R2 (G1.trans G2) (wd_pairs (n := xs.length) (by rw [enumD_len 0 ds, h2.len]) (walk_enumT.mono (fun H e => h1.ext e) fun _ _ _ _ _ _ y => y) fun i x y hi hx hy => ?_) (by rw [e2]; exact p2)
      obtain ⟨d', g1, g2⟩ := h2.get hy
      cases Option.some.inj hx
      exact ⟨(D.int ((0 + i : Nat) : Int), d'), by rw [enumD_get 0, g1]; rfl, by show Rp F.K c2.B (.int (i : Nat)) (.int ((0 + i : Nat) : Int)); rw [Nat.zero_add]; exact .int _, g2⟩
    | @tpz a ob xs ds' h1 _ _ h2 =>
      cases Option.some.inj e'
      have h1 : SqT F.K c2.B a xs := .inl (.inr ⟨_, h1⟩)
      refine .inr ⟨a, xs, rfl, by rw [← e1]; exact h1.ext R2.le, ?_⟩
      rw [← e1]
      refine q c2 _ _ R2 (G1.trans G2) (wd_pairs (n := xs.length) (by rw [enumD_len 0 ds, h2.len]) (walk_enumT.mono (fun H e => h1.ext e) fun _ _ _ _ _ _ y => y) fun i x y hi hx hy => ?_) (by rw [e2]; exact p2)
      obtain ⟨d', g1, g2⟩ := h2.get hy
      cases Option.some.inj hx
      exact ⟨(D.int ((0 + i : Nat) : Int), d'), by rw [enumD_get 0, g1]; rfl, by show Rp F.K c2.B (.int (i : Nat)) (.int ((0 + i : Nat) : Int)); rw [Nat.zero_add]; exact .int _, g2⟩
    | _ => cases e'
end
end DL
set_option maxHeartbeats 2000000
/-! List comprehensions over data. -/
namespace DL
open PySem PySem.Spec PyProof.Rows L2 Ax
def wipeS (r : List (Option En)) : List Nat → List (Option En)
  | [] => r
  | v :: vs => (wipeS r vs).set v none
def backS (r0 r1 : List (Option En)) : List Nat → List (Option En)
  | [] => r1
  | v :: vs => (backS r0 r1 vs).set v ((r0[v]?).getD none)
theorem wipeS_len (r : List (Option En)) : ∀ vs, (wipeS r vs).length = r.length
  | [] => rfl
  | v :: vs => by rw [wipeS, List.length_set, wipeS_len r vs]
theorem backS_len (r0 r1 : List (Option En)) : ∀ vs, (backS r0 r1 vs).length = r1.length
  | [] => rfl
  | v :: vs => by rw [backS, List.length_set, backS_len r0 r1 vs]
theorem set_self' {α : Type} {l : List α} {j : Nat} {x y : α} (h : (l.set j x)[j]? = some y) : y = x := by
  rcases get_set h with ⟨_, e, _⟩ | ⟨z, _⟩
  · exact e
  · exact absurd rfl z
theorem wipeS_get {r : List (Option En)} {j : Nat} {e : En} : ∀ {vs : List Nat}, (wipeS r vs)[j]? = some (some e) → j ∉ vs ∧ r[j]? = some (some e)
  | [], h => ⟨by simp, h⟩
  | v :: vs, h => by
    rw [wipeS] at h
    rcases get_set h with ⟨_, e, _⟩ | ⟨z, q⟩
    · cases e
    · obtain ⟨a, b⟩ := wipeS_get q
      exact ⟨by simp [z, a], b⟩
theorem wipeS_out {r : List (Option En)} {j : Nat} : ∀ {vs : List Nat}, j ∉ vs → (wipeS r vs)[j]? = r[j]?
  | [], _ => rfl
  | v :: vs, h => by
    rw [List.mem_cons, not_or] at h
    rw [wipeS, List.getElem?_set_ne (Ne.symm h.1)]
    exact wipeS_out h.2
theorem backS_out {r0 r1 : List (Option En)} {j : Nat} : ∀ {vs : List Nat}, j ∉ vs → (backS r0 r1 vs)[j]? = r1[j]?
  | [], _ => rfl
  | v :: vs, h => by
    rw [List.mem_cons, not_or] at h
    rw [backS, List.getElem?_set_ne (Ne.symm h.1)]
    exact backS_out h.2
theorem backS_in {r0 r1 : List (Option En)} {j : Nat} (hl : r0.length = r1.length) : ∀ {vs : List Nat}, j ∈ vs → (backS r0 r1 vs)[j]? = r0[j]?
  | v :: vs, h => by
    rw [backS]
    by_cases c : j = v
    · subst c
      by_cases q : j < r0.length
      · rw [List.getElem?_set_self (by rw [backS_len, ← hl]; exact q), List.getElem?_eq_getElem q]
        rfl
      · rw [List.getElem?_eq_none (by rw [List.length_set, backS_len, ← hl]; omega), List.getElem?_eq_none (by omega)]
    · rw [List.getElem?_set_ne (Ne.symm c)]
      rcases List.mem_cons.mp h with z | z
      · exact absurd z c
      · exact backS_in hl z
theorem wipe_out {σ : L2.St} {j : Nat} : ∀ {vs : List Nat}, j ∉ vs → (wipe σ vs)[j]? = σ[j]?
  | [], _ => rfl
  | v :: vs, h => by
    rw [List.mem_cons, not_or] at h
    rw [wipe, List.getElem?_set_ne (Ne.symm h.1)]
    exact wipe_out h.2
theorem wipe_in {σ : L2.St} {j : Nat} : ∀ {vs : List Nat}, j ∈ vs → (wipe σ vs)[j]? = σ[j]?.map fun _ => none
  | v :: vs, h => by
    rw [wipe]
    by_cases c : j = v
    · subst c
      by_cases q : j < σ.length
      · rw [List.getElem?_set_self (by rw [wipe_length]; exact q), List.getElem?_eq_getElem q]
        rfl
      · rw [List.getElem?_eq_none (by rw [List.length_set, wipe_length]; omega), List.getElem?_eq_none (by omega)]
        rfl
    · rw [List.getElem?_set_ne (Ne.symm c)]
      rcases List.mem_cons.mp h with z | z
      · exact absurd z c
      · exact wipe_in z
theorem wipe_same {σ σ' : L2.St} {vs : List Nat} (hl : σ'.length = σ.length) (h : ∀ j, j ∉ vs → σ'[j]? = σ[j]?) : wipe σ' vs = wipe σ vs := by
  apply List.ext_getElem?
  intro j
  by_cases c : j ∈ vs
  · rw [wipe_in c, wipe_in c]
    by_cases q : j < σ.length
    · rw [List.getElem?_eq_getElem q, List.getElem?_eq_getElem (by omega)]
      rfl
    · rw [List.getElem?_eq_none (by omega), List.getElem?_eq_none (by omega)]
  · rw [wipe_out c, wipe_out c]
    exact h j c
theorem wipe_wipe {σ : L2.St} {vs : List Nat} : wipe (wipe σ vs) vs = wipe σ vs := wipe_same (wipe_length _ _) fun j c => wipe_out c
def Stt.wipe (s : Stt) (vs : List Nat) : Stt := { s with r := wipeS s.r vs }
def Stt.back (s0 s1 : Stt) (vs : List Nat) : Stt := { s1 with r := backS s0.r s1.r vs }
def loopC (f : D → Stt → Option Stt) (gc : GB) (ge : GX) (vs : List Nat) : List D → List D → Stt → (List D → Stt → Prop) → Prop
  | [], acc, s, Φ => Φ acc s
  | d :: ds, acc, s, Φ => ∃ s1, f d (s.wipe vs) = some s1 ∧ gc s1 fun b s2 => if b = true then ge s2 fun w s3 => ∃ e s4, frz w s3 = some (e, s4) ∧ loopC f gc ge vs ds (acc ++ [e]) s4 Φ else loopC f gc ge vs ds acc s2 Φ
def gLc (gi : GI) (f : D → Stt → Option Stt) (gc : GB) (ge : GX) (vs : List Nat) : GX := fun s Φ => gi s fun ds s1 => ds.length ≤ 1000000 ∧ loopC f gc ge vs ds [] s1 fun acc s2 => Φ (.new acc) (s1.back s2 vs)
section
variable {K : Bd} {F : Fx}
/-- fewer slots known -/
theorem Rep.wipe {c : Cf} (R : Rep F c) (vs : List Nat) : Rep F { c with σ := L2.wipe c.σ vs, s := c.s.wipe vs } ∧ Go F c { c with σ := L2.wipe c.σ vs, s := c.s.wipe vs } := by
  have g : ∀ {j : Nat} {e : En}, (wipeS c.s.r vs)[j]? = some (some e) → j ∉ vs ∧ c.s.r[j]? = some (some e) := fun h => wipeS_get h
  refine ⟨⟨R.le, ?_, ?_, ?_, R.bag⟩, ⟨Ext.rfl', fun a o e _ => e, fun a e n => absurd n e, ?_, fun a e => e⟩⟩
  · show (L2.wipe c.σ vs).length = (wipeS c.s.r vs).length
    rw [wipe_length, wipeS_len, R.len]
  · intro j e h
    obtain ⟨n, q⟩ := g h
    have y := R.at_ j e q
    have σe : (L2.wipe c.σ vs)[j]? = c.σ[j]? := wipe_out n
    cases e with
    | val d => obtain ⟨v, y1, y2⟩ := y; exact ⟨v, σe.trans y1, y2⟩
    | bag => exact ⟨y.1, σe.trans y.2⟩
    | _ => obtain ⟨l, vs, y1, y2⟩ := y; exact ⟨l, vs, σe.trans y1, y2⟩
  · intro i j di dj l h1 o1 h2 o2 h3 h4
    obtain ⟨n1, q1⟩ := g h1
    obtain ⟨n2, q2⟩ := g h2
    exact R.sep i j di dj l q1 o1 q2 o2 ((wipe_out n1).symm.trans h3) ((wipe_out n2).symm.trans h4)
  · rintro a ⟨j, dj, h1, h0, h2⟩
    obtain ⟨n1, q1⟩ := g h1
    exact .inl ⟨j, dj, q1, h0, (wipe_out n1).symm.trans h2⟩
/-- the own slots come back -/
theorem Rep.back {c0 c1 : Cf} {vs : List Nat} (R0 : Rep F c0) (hσ : L2.wipe c1.σ vs = L2.wipe c0.σ vs) (R1 : Rep F c1) (G : Go F { c0 with σ := L2.wipe c0.σ vs, s := c0.s.wipe vs } { c1 with σ := L2.wipe c1.σ vs, s := c1.s.wipe vs }) (hl : c1.s.r.length = c0.s.r.length) :
    Rep F { c1 with σ := c0.σ, s := c0.s.back c1.s vs } ∧ Go F c0 { c1 with σ := c0.σ, s := c0.s.back c1.s vs } := by
  have σl : c1.σ.length = c0.σ.length := by rw [R1.len, R0.len, hl]
  have σo : ∀ {j : Nat}, j ∉ vs → c1.σ[j]? = c0.σ[j]? := fun {j} n => by
    have := congrArg (fun l => l[j]?) hσ
    simp only [wipe_out n] at this
    exact this
  -- what is not own in the block
  have notIn : ∀ {j : Nat} {dj : En} {l : Addr}, j ∈ vs → c0.s.r[j]? = some (some dj) → dj.isOwn = true → c0.σ[j]? = some (some (.ref l)) → ¬ Own { c0 with σ := L2.wipe c0.σ vs, s := c0.s.wipe vs } l := by
    rintro j dj l hj h1 o1 h2 ⟨i, di, h3, h0, h4⟩
    obtain ⟨n, q⟩ := wipeS_get h3
    have h4' : c0.σ[i]? = some (some (V.ref l)) := (wipe_out n).symm.trans h4
    have := R0.sep i j di dj l q h0 h1 o1 h4' h2
    rw [this] at n
    exact n hj
  have cases1 : ∀ {j : Nat} {e : En}, (backS c0.s.r c1.s.r vs)[j]? = some (some e) → (j ∈ vs ∧ c0.s.r[j]? = some (some e)) ∨ (j ∉ vs ∧ c1.s.r[j]? = some (some e)) := by
    intro j e h
    by_cases c : j ∈ vs
    · rw [backS_in hl.symm c] at h
      exact .inl ⟨c, h⟩
    · rw [backS_out c] at h
      exact .inr ⟨c, h⟩
  -- an own list of a slot that comes back
  have kept : ∀ {j : Nat} {dj : En}, j ∈ vs → c0.s.r[j]? = some (some dj) → dj.isOwn = true → ∃ l ws, c0.σ[j]? = some (some (.ref l)) ∧ c1.H l = some ws ∧ OwR F c1.B l dj ws ∧ c1.B l = none ∧ (F.on = true → l ≠ F.b ∧ l ≠ F.c) ∧ c0.H l = some ws := by
    intro j dj hj h o1
    obtain ⟨l, ws, q1, q2, q3, q4, q5⟩ := (R0.at_ j _ h).own o1
    have nm : ¬ MutA F { c0 with σ := L2.wipe c0.σ vs, s := c0.s.wipe vs } l := fun m => by
      rcases m with m | ⟨m1, m2⟩
      · exact notIn hj h o1 q1 m
      · exact (q5 m1).1 m2
    refine ⟨l, ws, q1, G.fr l _ q2 nm, q3.ext G.b, ?_, q5, q2⟩
    cases q : c1.B l with
    | none => rfl
    | some o =>
      rcases G.nb l (by show c1.B l ≠ none; rw [q]; exact fun x => nomatch x) q4 with z | z
      · have z' : c0.H l = none := z
        rw [q2] at z'; cases z'
      · exact absurd z (notIn hj h o1 q1)
  have ownC : ∀ {j : Nat} {dj : En} {l : Addr}, j ∉ vs → c1.s.r[j]? = some (some dj) → dj.isOwn = true → c0.σ[j]? = some (some (.ref l)) → Own { c1 with σ := L2.wipe c1.σ vs, s := c1.s.wipe vs } l := by
    intro j dj l n h1 o1 h2
    refine ⟨j, dj, (wipeS_out n).trans h1, o1, ?_⟩
    exact (wipe_out n).trans ((σo n).trans h2)
  refine ⟨⟨R1.le, ?_, ?_, ?_, R1.bag⟩, ⟨G.b, fun a o e n => G.fr a o e fun m => n ?_, fun a e n => ?_, ?_, G.dom⟩⟩
  · show c0.σ.length = (backS c0.s.r c1.s.r vs).length
    rw [backS_len, hl, R0.len]
  · intro j e h
    rcases cases1 h with ⟨hj, q⟩ | ⟨n, q⟩
    · cases e with
      | val d =>
        obtain ⟨v, y1, y2⟩ := R0.at_ j _ q
        exact ⟨v, y1, y2.ext G.b⟩
      | bag => exact R0.at_ j _ q
      | _ =>
        obtain ⟨l, ws, y1, y2, y3, y4, y5, _⟩ := kept hj q rfl
        exact ⟨l, ws, y1, y2, y3, y4, y5⟩
    · have y := R1.at_ j e q
      cases e with
      | val d => obtain ⟨v, y1, y2⟩ := y; exact ⟨v, (σo n).symm.trans y1, y2⟩
      | bag => exact ⟨y.1, (σo n).symm.trans y.2⟩
      | _ => obtain ⟨l, ws, y1, y2⟩ := y; exact ⟨l, ws, (σo n).symm.trans y1, y2⟩
  · intro i j di dj l h1 o1 h2 o2 h3 h4
    rcases cases1 h1 with ⟨i1, q1⟩ | ⟨i1, q1⟩ <;> rcases cases1 h2 with ⟨j1, q2⟩ | ⟨j1, q2⟩
    · exact R0.sep i j di dj l q1 o1 q2 o2 h3 h4
    · exfalso
      rcases G.ow l (ownC j1 q2 o2 h4) with z | z
      · exact notIn i1 q1 o1 h3 z
      · obtain ⟨l', ws, y1, _, _, _, _, y6⟩ := kept i1 q1 o1
        have h3' : c0.σ[i]? = some (some (V.ref l)) := h3
        rw [h3'] at y1
        cases y1
        have z' : c0.H l = none := z
        rw [y6] at z'; cases z'
    · exfalso
      rcases G.ow l (ownC i1 q1 o1 h3) with z | z
      · exact notIn j1 q2 o2 h4 z
      · obtain ⟨l', ws, y1, _, _, _, _, y6⟩ := kept j1 q2 o2
        have h4' : c0.σ[j]? = some (some (V.ref l)) := h4
        rw [h4'] at y1
        cases y1
        have z' : c0.H l = none := z
        rw [y6] at z'; cases z'
    · exact R1.sep i j di dj l q1 o1 q2 o2 ((σo i1).trans h3) ((σo j1).trans h4)
  · rcases m with ⟨j, dj, m1, m0, m2⟩ | m
    · obtain ⟨n1, q1⟩ := wipeS_get m1
      exact .inl ⟨j, dj, q1, m0, (wipe_out n1).symm.trans m2⟩
    · exact .inr m
  · rcases G.nb a e n with z | ⟨j, dj, m1, m0, m2⟩
    · exact .inl z
    · obtain ⟨n1, q1⟩ := wipeS_get m1
      exact .inr ⟨j, dj, q1, m0, (wipe_out n1).symm.trans m2⟩
  · rintro a ⟨j, dj, h1, h0, h2⟩
    rcases cases1 h1 with ⟨j1, q1⟩ | ⟨j1, q1⟩
    · exact .inl ⟨j, dj, q1, h0, h2⟩
    · rcases G.ow a (ownC j1 q1 h0 h2) with ⟨i, di, m1, m0, m2⟩ | z
      · obtain ⟨n1, q1⟩ := wipeS_get m1
        exact .inl ⟨i, di, q1, m0, (wipe_out n1).symm.trans m2⟩
      · exact .inr z
/-- a thing beside, left out -/
theorem Rep.del {c : Cf} {p : Addr} (R : Rep F c) (hB : c.B p = none) (hO : ¬ Own c p) (hb : F.on = true → p ≠ F.b ∧ p ≠ F.c) : Rep F { c with H := L2.del c.H p } := by
  refine ⟨?_, R.len, ?_, R.sep, ?_⟩
  · intro a o e
    show (L2.del c.H p) a = some o
    rw [del_ne (ne_of_none e hB)]
    exact R.le a o e
  · intro j e h
    have y := R.at_ j e h
    cases e with
    | val d => exact y
    | bag => exact y
    | _ =>
      obtain ⟨l, ws, y1, y2, y3⟩ := y
      refine ⟨l, ws, y1, ?_, y3⟩
      show (L2.del c.H p) l = some ws
      rw [del_ne (fun z => hO ⟨j, _, h, rfl, by rw [← z]; exact y1⟩)]
      exact y2
  · intro on
    obtain ⟨q1, q2, q3⟩ := R.bag on
    refine ⟨q1.at_ ?_ ?_, q2, q3⟩
    · exact del_ne (hb on).1.symm
    · exact del_ne (hb on).2.symm
theorem Rep.hext {c : Cf} (R : Rep F c) {H' : Hp} (x : Ext c.H H') : Rep F { c with H := H' } := by
  refine ⟨R.le.trans x, R.len, fun j e h => ?_, R.sep, fun on => ?_⟩
  · have y := R.at_ j e h
    cases e with
    | val d => exact y
    | bag => exact y
    | _ =>
      obtain ⟨l, ws, y1, y2, y3⟩ := y
      exact ⟨l, ws, y1, x _ _ y2, y3⟩
  · obtain ⟨q1, q2, q3⟩ := R.bag on
    exact ⟨q1.ext x, q2, q3⟩
theorem Go.hext {c c' : Cf} (g : Go F c c') {H' : Hp} (x : Ext c'.H H') : Go F c { c' with H := H' } := by
  refine ⟨g.b, fun a o e n => x _ _ (g.fr a o e n), g.nb, fun a m => g.ow a (m.ofEq rfl rfl), fun a e => ?_⟩
  have := g.dom a e
  cases q : c'.H a with
  | none => exact absurd q this
  | some o => show H' a ≠ none; rw [x _ _ q]; exact fun z => nomatch z
theorem Go.del {c c' : Cf} {p : Addr} (g : Go F c c') (h : ¬ MutA F c p) : Go F { c with H := L2.del c.H p } { c' with H := L2.del c'.H p } := by
  refine ⟨g.b, fun a o e n => ?_, fun a e n => ?_, fun a m => ?_, fun a e => ?_⟩
  · have e' : (L2.del c.H p) a = some o := e
    show (L2.del c'.H p) a = some o
    by_cases z : a = p
    · rw [z, del_same] at e'; cases e'
    · rw [del_ne z] at e' ⊢
      refine g.fr a o e' fun m => n ?_
      rcases m with m | m
      · exact .inl (m.ofEq rfl rfl)
      · exact .inr m
  · rcases g.nb a e n with z | z
    · left
      show (L2.del c.H p) a = none
      by_cases y : a = p
      · rw [y, del_same]
      · rw [del_ne y]; exact z
    · exact .inr (z.ofEq rfl rfl)
  · rcases g.ow a (m.ofEq rfl rfl) with z | z
    · exact .inl (z.ofEq rfl rfl)
    · right
      show (L2.del c.H p) a = none
      by_cases y : a = p
      · rw [y, del_same]
      · rw [del_ne y]; exact z
  · have e' : (L2.del c.H p) a ≠ none := e
    show (L2.del c'.H p) a ≠ none
    by_cases y : a = p
    · rw [y, del_same] at e'; exact absurd rfl e'
    · rw [del_ne y] at e' ⊢
      exact g.dom a e'
theorem backS_wipe (r0 r1 : List (Option En)) (vs : List Nat) (hl : r0.length = r1.length) : backS r0 (wipeS r1 vs) vs = backS r0 r1 vs := by
  apply List.ext_getElem?
  intro j
  by_cases c : j ∈ vs
  · rw [backS_in (by rw [wipeS_len]; exact hl) c, backS_in hl c]
  · rw [backS_out c, backS_out c, wipeS_out c]
theorem wipeS_wipe (r : List (Option En)) (vs : List Nat) : wipeS (wipeS r vs) vs = wipeS r vs := by
  have key : ∀ (l : List (Option En)) (v : Nat) (ws : List Nat), (∀ j, j ∈ ws → l[j]? = l[j]?.map fun _ => none) → wipeS l ws = l := by
    intro l v ws
    induction ws with
    | nil => intro _; rfl
    | cons w ws ih =>
      intro h
      rw [wipeS, ih fun j hj => h j (List.mem_cons_of_mem _ hj)]
      apply List.ext_getElem?
      intro j
      by_cases c : j = w
      · subst c
        have := h j List.mem_cons_self
        by_cases q : j < l.length
        · rw [List.getElem?_set_self q, this, List.getElem?_eq_getElem q]
          rfl
        · rw [List.getElem?_eq_none (by rw [List.length_set]; omega), List.getElem?_eq_none (by omega)]
      · rw [List.getElem?_set_ne (Ne.symm c)]
  refine key _ 0 vs fun j hj => ?_
  -- in the wiped list the place j holds none, if it is there
  by_cases q : j < r.length
  · have hin : ∀ {ws : List Nat}, j ∈ ws → (wipeS r ws)[j]? = some none := by
      intro ws
      induction ws with
      | nil => intro h; cases h
      | cons w ws ih =>
        intro h
        rw [wipeS]
        by_cases c : j = w
        · subst c
          exact List.getElem?_set_self (by rw [wipeS_len]; exact q)
        · rw [List.getElem?_set_ne (Ne.symm c)]
          rcases List.mem_cons.mp h with z | z
          · exact absurd z c
          · exact ih z
    rw [hin hj]
    rfl
  · rw [List.getElem?_eq_none (by rw [wipeS_len]; omega)]
    rfl
theorem wipeStt (s : Stt) (vs : List Nat) : (s.wipe vs).wipe vs = s.wipe vs := by
  unfold Stt.wipe
  simp only [wipeS_wipe]
theorem se_lc {wi : TI} {tg : TG} {is vs : List Nat} {f : D → Stt → Option Stt} {tt : TT} {te : TE} {gi : GI} {gc : GB} {ge : GX} (hi : SI K wi gi) (ht : ST K tg is f) (hc : SB K tt gc) (he : SE K te ge) (hsub : ∀ i ∈ is, i ∈ vs) :
    SE K (tLc wi tg tt te vs) (gLc gi f gc ge vs) := by
  intro F hK c Φ Q R p q
  refine hi.run hK rfl R p fun c1 J ds R1 G1 Wd p1 => ?_
  obtain ⟨hlen, p1⟩ := p1
  intro D hD
  obtain ⟨Y, hw, hY⟩ := Wd.ex
  obtain ⟨Rw, Gw⟩ := R1.wipe vs
  have hσ1 : c1.σ = c.σ := G1.σ
  rw [← hσ1]
  have hDB : c1.B D = none := R1.notB hD
  refine lc_it hw (fun i H => ∃ (B : Hp) (s : Stt) (acc : List V) (accD : List DL.D), H D = some (.lst acc) ∧ RpA F.K B acc accD ∧ acc.length ≤ i ∧ Rep F ⟨B, L2.del H D, L2.wipe c1.σ vs, s.wipe vs⟩ ∧ Go F ⟨c1.B, c1.H, L2.wipe c1.σ vs, c1.s.wipe vs⟩ ⟨B, L2.del H D, L2.wipe c1.σ vs, s.wipe vs⟩ ∧
    s.r.length = c1.s.r.length ∧ (∀ (j : Nat) (e : En), j ∉ vs → c1.s.r[j]? = some (some e) → ∃ e', s.r[j]? = some (some e')) ∧ loopC f gc ge vs (ds.drop i) accD s fun acc s2 => Φ (.new acc) (c1.s.back s2 vs)) ?_ ?_ ?_ ?_
  · refine ⟨c1.B, c1.s, [], [], upd_same, .nil, Nat.le_refl _, ?_, ?_, rfl, fun j e _ h => ⟨e, h⟩, p1⟩
    · rw [del_upd, del_none hD]; exact Rw
    · rw [del_upd, del_none hD]; exact Go.rfl'
  · rintro i H hi ⟨B, s, acc, accD, h1, h2, h3, R2, G2, _⟩
    exact (G2.b.trans R2.le).trans ext_del
  · rintro i x H H' hi ⟨B, s, acc, accD, h1, h2, h3, R2, G2, hl2, kp2, p2⟩ y
    have R3 : Rep F ⟨B, H, L2.wipe c1.σ vs, s.wipe vs⟩ := R2.hext ext_del
    obtain ⟨c4, d, eH4, es4, eσ4, R4, G4, hd, r⟩ := hY i x ⟨B, H, L2.wipe c1.σ vs, s.wipe vs⟩ H' R3 G2.b hi y
    have hdr : ds.drop i = d :: ds.drop (i + 1) := by
      rw [List.drop_eq_getElem_cons hi]
      have := List.getElem?_eq_getElem hi
      rw [hd] at this
      rw [← Option.some.inj this]
    rw [hdr] at p2
    obtain ⟨s1, e1, p3⟩ := p2
    have eσ4' : c4.σ = L2.wipe c1.σ vs := eσ4
    have notM : ¬ MutA F ⟨B, H, L2.wipe c1.σ vs, s.wipe vs⟩ D := fun m => by
      rcases m with m | ⟨m1, m2⟩
      · exact R2.notOwn (p := D) (show (L2.del H D) D = none from del_same) (m.ofEq rfl rfl)
      · exact (R2.notBag (p := D) (show (L2.del H D) D = none from del_same) m1).1 m2
    have hBD : B D = none := R2.notB (p := D) (show (L2.del H D) D = none from del_same)
    -- behind a turn
    have fin : ∀ c8 : Cf, Rep F c8 → Go F ⟨B, H, L2.wipe c1.σ vs, s.wipe vs⟩ c8 → L2.wipe c8.σ vs = L2.wipe c1.σ vs → c8.H D = some (.lst acc) ∧ Rep F ⟨c8.B, L2.del c8.H D, L2.wipe c1.σ vs, c8.s.wipe vs⟩ ∧ Go F ⟨c1.B, c1.H, L2.wipe c1.σ vs, c1.s.wipe vs⟩ ⟨c8.B, L2.del c8.H D, L2.wipe c1.σ vs, c8.s.wipe vs⟩ := by
      intro c8 R8 G8 eσ
      obtain ⟨Rv, Gv⟩ := R8.wipe vs
      rw [eσ] at Rv Gv
      have G9 := G8.trans Gv
      have h8 : c8.H D = some (.lst acc) := G8.fr D _ h1 notM
      have nO : ¬ Own ⟨c8.B, c8.H, L2.wipe c1.σ vs, c8.s.wipe vs⟩ D := fun m => by
        rcases G9.ow D m with z | z
        · exact notM (.inl z)
        · have z' : H D = none := z
          rw [h1] at z'; cases z'
      have nB : c8.B D = none := by
        cases qB : c8.B D with
        | none => rfl
        | some o =>
          rcases G8.nb D (by rw [qB]; exact fun z => nomatch z) hBD with z | z
          · have z' : H D = none := z
            rw [h1] at z'; cases z'
          · exact absurd (.inl z) notM
      exact ⟨h8, Rv.del nB nO fun on => R2.notBag (p := D) (show (L2.del H D) D = none from del_same) on, G2.trans (G9.del notM)⟩
    rw [← eH4, ← eσ4']
    refine ht.run F hK c4 x d s1 _ R4 r (by rw [es4]; exact e1) fun c5 R5 G5 es5 eH5 len5 out5 => ?_
    have w5 : L2.wipe c5.σ vs = L2.wipe c1.σ vs := by
      rw [wipe_same (σ := c4.σ) len5 fun j hj => out5 j fun z => hj (hsub j z), eσ4', wipe_wipe]
    have l5 : c5.σ.length = c1.s.r.length := by rw [len5, eσ4', wipe_length, R1.len]
    refine ⟨by rw [eσ4']; exact w5, ?_⟩
    have k1 := ht.keep _ _ _ e1
    have kp5 : ∀ (j : Nat) (e : En), j ∉ vs → c1.s.r[j]? = some (some e) → ∃ e', c5.s.r[j]? = some (some e') := by
      intro j e hj h
      obtain ⟨e', h'⟩ := kp2 j e hj h
      refine ⟨e', ?_⟩
      rw [es5, k1.2.2 j fun z => hj (hsub j z)]
      exact (wipeS_out hj).trans h'
    refine hc.run hK rfl R5 (by rw [es5]; exact p3) fun c6 b R6 G6 p6 => ?_
    have G46 := (G4.trans G5).trans G6.go
    cases b with
    | true =>
      refine he.run hK G6.σ R6 p6 fun c7 v w R7 G7 D7 p7 => ?_
      obtain ⟨e, s4, ef, p8⟩ := p7
      obtain ⟨c8, eH8, es8, eσ8, x8, R8, G8, r8⟩ := frz_ok R7 G7 D7 ef
      have w8 : L2.wipe c8.σ vs = L2.wipe c1.σ vs := by rw [G8.σ, G6.σ]; exact w5
      obtain ⟨f1, f2, f3⟩ := fin c8 R8 (G46.trans G8.go) w8
      rw [eH8] at f1 f2 f3
      rw [← eσ4'] at f2 f3
      refine ⟨acc, f1, by rw [sizeLine_eq]; omega, c8.B, c8.s, acc ++ [v], accD ++ [e], upd_same, (h2.ext (G46.b.trans G8.go.b)).snoc r8, by rw [List.length_append]; exact Nat.succ_le_succ h3, ?_, ?_, ?_, ?_, by rw [es8]; exact p8⟩
      · rw [del_upd]; exact f2
      · rw [del_upd]; exact f3
      · rw [← R8.len, G8.σ, G6.σ, l5]
      · intro j e hj h
        obtain ⟨e1, q1⟩ := kp5 j e hj h
        obtain ⟨e2, q2⟩ := G6.kp j e1 q1
        exact G8.kp j e2 q2
    | false =>
      have w6 : L2.wipe c6.σ vs = L2.wipe c1.σ vs := by rw [G6.σ]; exact w5
      obtain ⟨f1, f2, f3⟩ := fin c6 R6 G46 w6
      rw [← eσ4'] at f2 f3
      refine ⟨c6.B, c6.s, acc, accD, f1, h2.ext G46.b, by omega, f2, f3, by rw [← R6.len, G6.σ, l5], fun j e hj h => ?_, p6⟩
      obtain ⟨e1, q1⟩ := kp5 j e hj h
      exact G6.kp j e1 q1
  · rintro H ⟨B, s, acc, accD, h1, h2, h3, R2, G2, hl2, kp2, p2⟩
    rw [List.drop_length] at p2
    have wl : (s.wipe vs).r.length = c1.s.r.length := (wipeS_len s.r vs).trans hl2
    obtain ⟨R3, G3⟩ := R1.back (c1 := ⟨B, L2.del H D, L2.wipe c1.σ vs, s.wipe vs⟩) (vs := vs) wipe_wipe R2 (by
      show Go F _ ⟨B, L2.del H D, L2.wipe (L2.wipe c1.σ vs) vs, (s.wipe vs).wipe vs⟩
      rw [wipe_wipe, wipeStt]
      exact G2) wl
    have eb : c1.s.back (s.wipe vs) vs = c1.s.back s vs := by
      unfold Stt.back Stt.wipe
      simp only
      rw [backS_wipe _ _ _ hl2.symm]
    have R4 := R3.hext (H' := H) ext_del
    have G4 := G3.hext (H' := H) ext_del
    have hn : (L2.del H D) D = none := del_same
    refine q ⟨B, H, c1.σ, c1.s.back (s.wipe vs) vs⟩ (.ref D) (.new accD) R4 ⟨G1.go.trans G4, hσ1, fun j e h => ?_⟩ ⟨D, acc, rfl, h1, h2, R2.notB hn, fun m => R3.notOwn (p := D) hn (m.ofEq rfl rfl), R2.notBag hn, G1.go.hnone hD⟩ (by show Φ _ (c1.s.back (s.wipe vs) vs); rw [eb]; exact p2)
    obtain ⟨e1, q1⟩ := G1.kp j e h
    show ∃ e', (backS c1.s.r (s.wipe vs).r vs)[j]? = some (some e')
    by_cases z : j ∈ vs
    · rw [backS_in wl.symm z]; exact ⟨e1, q1⟩
    · rw [backS_out z]
      obtain ⟨e', q2⟩ := kp2 j e1 z q1
      exact ⟨e', (wipeS_out z).trans q2⟩
end
end DL
set_option maxHeartbeats 2000000
/-! Operations and built-ins over data. -/
namespace DL
open PySem PySem.Spec PyProof.Rows L2 Ax
section
variable {K : Bd}
def okD (d : D) : Bool := pureD d && SeqAt.shaped (toP d)
theorem okD_pure {d : D} (h : okD d = true) : pureD d = true := (Bool.and_eq_true_iff.mp h).1
theorem okD_shaped {d : D} (h : okD d = true) : SeqAt.shaped (toP d) = true := (Bool.and_eq_true_iff.mp h).2
/-! ### whole numbers -/
def fI (g : Int → Int → Int) : D → D → Option W
  | .int i, .int j => some (.dat (.int (g i j)))
  | _, _ => none
def fB (g : Int → Int → Bool) : D → D → Option W
  | .int i, .int j => some (.dat (.bl (g i j)))
  | _, _ => none
def fIc (C : Int → Int → Prop) [∀ i j, Decidable (C i j)] (g : Int → Int → Int) : D → D → Option W
  | .int i, .int j => if C i j then some (.dat (.int (g i j))) else none
  | _, _ => none
theorem os_I (g : Int → Int → Int) : OpS K (rI0 fun i j => .int (g i j)) (fI g) := by
  intro F hK c x y d e w Q R hx hy hf q
  cases d with
  | int i => cases e with
    | int j =>
      cases Option.some.inj hf
      exact ⟨i, j, hx.int, hy.int, q c _ R GoE.rfl' rfl (Rp.int _)⟩
    | _ => cases hf
  | _ => cases hf
theorem os_B (g : Int → Int → Bool) : OpS K (rI0 fun i j => .bl (g i j)) (fB g) := by
  intro F hK c x y d e w Q R hx hy hf q
  cases d with
  | int i => cases e with
    | int j =>
      cases Option.some.inj hf
      exact ⟨i, j, hx.int, hy.int, q c _ R GoE.rfl' rfl (Rp.bl _)⟩
    | _ => cases hf
  | _ => cases hf
theorem os_Ic (C : Int → Int → Prop) [∀ i j, Decidable (C i j)] (g : Int → Int → Int) : OpS K (rI C fun i j => .int (g i j)) (fIc C g) := by
  intro F hK c x y d e w Q R hx hy hf q
  cases d with
  | int i => cases e with
    | int j =>
      simp only [fIc] at hf
      split at hf
      · rename_i hc
        cases Option.some.inj hf
        exact ⟨i, j, hx.int, hy.int, hc, q c _ R GoE.rfl' rfl (Rp.int _)⟩
      · cases hf
    | _ => cases hf
  | _ => cases hf
instance (i j : Int) : Decidable (CMul i j) := by unfold CMul; infer_instance
instance (i j : Int) : Decidable (CDiv i j) := by unfold CDiv; infer_instance
instance (i j : Int) : Decidable (CDivN i j) := by unfold CDivN; infer_instance
instance (i j : Int) : Decidable (CPow i j) := by unfold CPow; infer_instance
/-! ### == != in, not in, of data -/
def eqD (d e : D) : Bool := PyData.eqv (toP d) (toP e)
def fEq : D → D → Option W := fun d e => if okD d = true ∧ okD e = true then some (.dat (.bl (eqD d e))) else none
def fNe : D → D → Option W := fun d e => if okD d = true ∧ okD e = true then some (.dat (.bl (!eqD d e))) else none
theorem os_eq : OpS K (rEqD K) fEq := by
  intro F hK c x y d e w Q R hx hy hf q
  simp only [fEq] at hf
  split at hf
  · rename_i h
    cases Option.some.inj hf
    subst hK
    exact ⟨toP d, toP e, (hx.rp R).dp (okD_pure h.1), (hy.rp R).dp (okD_pure h.2), okD_shaped h.1, okD_shaped h.2, q c _ R GoE.rfl' rfl (Rp.bl _)⟩
  · cases hf
theorem os_ne : OpS K (rNeD K) fNe := by
  intro F hK c x y d e w Q R hx hy hf q
  simp only [fNe] at hf
  split at hf
  · rename_i h
    cases Option.some.inj hf
    subst hK
    exact ⟨toP d, toP e, (hx.rp R).dp (okD_pure h.1), (hy.rp R).dp (okD_pure h.2), okD_shaped h.1, okD_shaped h.2, q c _ R GoE.rfl' rfl (Rp.bl _)⟩
  · cases hf
def inD (d : D) (es : List D) : Bool := es.any fun z => eqD z d
theorem inD_toPs (d : D) (es : List D) : ((toPs es).any fun z => PyData.eqv z (toP d)) = inD d es := by
  rw [toPs_map, List.any_map]; rfl
def fIn : D → D → Option W
  | d, .lst es => if okD d = true ∧ okD (.lst es) = true then some (.dat (.bl (inD d es))) else none
  | _, _ => none
def fNotIn : D → D → Option W
  | d, .lst es => if okD d = true ∧ okD (.lst es) = true then some (.dat (.bl (!inD d es))) else none
  | _, _ => none
theorem os_in : OpS K (rInD K) fIn := by
  intro F hK c x y d e w Q R hx hy hf q
  cases e with
  | lst es =>
    simp only [fIn] at hf
    split at hf
    · rename_i h
      cases Option.some.inj hf
      subst hK
      have hy' := (hy.rp R).dp (okD_pure h.2)
      have s2 := okD_shaped h.2
      simp only [toP] at hy' s2
      refine ⟨toP d, toPs es, (hx.rp R).dp (okD_pure h.1), hy', okD_shaped h.1, s2, ?_⟩
      rw [inD_toPs]
      exact q c _ R GoE.rfl' rfl (Rp.bl _)
    · cases hf
  | _ => cases hf
theorem os_notIn : OpS K (rNotInD K) fNotIn := by
  intro F hK c x y d e w Q R hx hy hf q
  cases e with
  | lst es =>
    simp only [fNotIn] at hf
    split at hf
    · rename_i h
      cases Option.some.inj hf
      subst hK
      have hy' := (hy.rp R).dp (okD_pure h.2)
      have s2 := okD_shaped h.2
      simp only [toP] at hy' s2
      refine ⟨toP d, toPs es, (hx.rp R).dp (okD_pure h.1), hy', okD_shaped h.1, s2, ?_⟩
      rw [inD_toPs]
      exact q c _ R GoE.rfl' rfl (Rp.bl _)
    · cases hf
  | _ => cases hf
/-! ### lists and tuples put together -/
def fCat : D → D → Option W
  | .lst ds, .lst es => if ds.length + es.length ≤ 1000000 then some (.new (ds ++ es)) else none
  | _, _ => none
theorem line_m {n : Nat} (h : n ≤ 1000000) : n ≤ sizeLine := by rw [sizeLine_eq]; omega
theorem Den.newL {F : Fx} {c : Cf} (R : Rep F c) {p : Addr} {vs : List V} {ds : List D} (hp : c.H p = none) (hv : RpA F.K c.B vs ds) {Q : VK} (q : ∀ c' v, Rep F c' → GoE F c c' → c'.s = c.s → Den F c.H c' v (.new ds) → Q v c'.H) : Q (.ref p) (upd c.H p (.lst vs)) := by
  obtain ⟨c', e1, e2, _, R', G, D⟩ := R.newL hp hv
  rw [← e1]
  exact q c' _ R' G e2 D
theorem Den.newT {F : Fx} {c : Cf} (R : Rep F c) {p : Addr} {vs : List V} {ds : List D} (hp : c.H p = none) (hv : RpA F.K c.B vs ds) {Q : VK} (q : ∀ c' v, Rep F c' → GoE F c c' → c'.s = c.s → Den F c.H c' v (.dat (.tup ds)) → Q v c'.H) : Q (.ref p) (upd c.H p (.tup vs)) := by
  obtain ⟨c', e1, e2, R', G, D⟩ := R.newT hp hv
  rw [← e1]
  exact q c' _ R' G e2 D
theorem os_cat : OpS K rCat fCat := by
  intro F hK c x y d e w Q R hx hy hf q
  cases d with
  | lst ds => cases e with
    | lst es =>
      simp only [fCat] at hf
      split at hf
      · rename_i h
        cases Option.some.inj hf
        obtain ⟨a, vs, rfl, h1, h2⟩ := hx.lst R
        obtain ⟨b, us, rfl, h3, h4⟩ := hy.lst R
        exact ⟨a, b, vs, us, rfl, rfl, h1, h3, line_m (by rw [h2.len, h4.len]; exact h), fun p hp => Den.newL R hp (h2.app h4) q⟩
      · cases hf
    | _ => cases hf
  | _ => cases hf
def fCatT : D → D → Option W
  | .tup ds, .tup es => if ds.length + es.length ≤ 1000000 then some (.dat (.tup (ds ++ es))) else none
  | _, _ => none
theorem Rq.tupB {F : Fx} {c : Cf} {v : V} {ds : List D} (h : Rq F c v (.tup ds)) : Rp F.K c.B v (.tup ds) := by
  rcases h with h | ⟨l, vs, ds', rfl, e, h1, h2⟩
  · exact h
  · cases e
theorem os_catT : OpS K (rCatA K) fCatT := by
  intro F hK c x y d e w Q R hx hy hf q
  cases d with
  | tup ds => cases e with
    | tup es =>
      simp only [fCatT] at hf
      split at hf
      · rename_i h
        cases Option.some.inj hf
        subst hK
        obtain ⟨a, vs, rfl, h1, h2⟩ := hx.tup R
        obtain ⟨b, us, rfl, h3, h4⟩ := hy.tup R
        refine ⟨a, b, vs, us, rfl, rfl, h1, h3, line_m (by rw [h2.len, h4.len]; exact h), fun z => ?_, fun _ z => ?_, fun _ _ p hp => Den.newT R hp (h2.app h4) q⟩
        · subst z
          cases h2
          exact q c _ R GoE.rfl' rfl hy.tupB
        · subst z
          cases h4
          refine q c _ R GoE.rfl' rfl ?_
          rw [List.append_nil]
          exact hx.tupB
      · cases hf
    | _ => cases hf
  | _ => cases hf
/-- either of two -/
theorem OpR.or {X : Cx} {f : Value → Value → Sem Value} {r r' : R2} (h : OpR X f r) (h' : OpR X f r') : OpR X f (fun x y H Q => r x y H Q ∨ r' x y H Q) := by
  intro pins s σ H x y v u Q I rx ry q
  rcases q with q | q
  · exact h pins s σ H x y v u Q I rx ry q
  · exact h' pins s σ H x y v u Q I rx ry q
def orF (f g : D → D → Option W) : D → D → Option W := fun d e => match f d e with
  | some w => some w
  | none => g d e
theorem OpS.or {r r' : R2} {f g : D → D → Option W} (h : OpS K r f) (h' : OpS K r' g) : OpS K (fun x y H Q => r x y H Q ∨ r' x y H Q) (orF f g) := by
  intro F hK c x y d e w Q R hx hy hf q
  unfold orF at hf
  split at hf
  · rename_i w' e'
    cases Option.some.inj hf
    exact .inl (h F hK c x y d e _ Q R hx hy e' q)
  · exact .inr (h' F hK c x y d e w Q R hx hy hf q)
/-! ### a place of a sequence, a slice -/
def wat (ds : List D) (i : Int) : Option W := (atI ds i).map W.dat
def fIx : D → D → Option W
  | .lst ds, .int i => wat ds i
  | .tup ds, .int i => wat ds i
  | .tpz ds, .int i => wat ds i
  | .str z, .int i => if z.length ≤ 1000000 then (atI z.cps.toList i).map fun c => W.dat (.str ⟨#[c]⟩) else none
  | _, _ => none
theorem atI_rel {F : Fx} {B : Hp} {vs : List V} {ds : List D} (r : RpA F.K B vs ds) {i : Int} {d : D} (h : atI ds i = some d) : ∃ v, atI vs i = some v ∧ Rp F.K B v d := by
  unfold atI at h ⊢
  rw [r.len]
  cases q : ixN ds.length i with
  | none => rw [q] at h; cases h
  | some j =>
    rw [q] at h
    exact r.getD h
theorem os_ix : OpS K (rIx K) fIx := by
  intro F hK c x y d e w Q R hx hy hf q
  subst hK
  cases e with
  | int i =>
    have hy' := hy.int
    subst hy'
    cases d with
    | lst ds =>
      obtain ⟨a, vs, rfl, h1, h2⟩ := hx.lst R
      simp only [fIx, wat] at hf
      obtain ⟨z, e1, e2⟩ := Option.map_eq_some_iff.mp hf
      subst e2
      obtain ⟨v, e3, r⟩ := atI_rel h2 e1
      exact .inl ⟨a, vs, i, v, rfl, rfl, SqL.of h1, e3, q c _ R GoE.rfl' rfl r⟩
    | tup ds =>
      obtain ⟨a, vs, rfl, h1, h2⟩ := hx.tup R
      simp only [fIx, wat] at hf
      obtain ⟨z, e1, e2⟩ := Option.map_eq_some_iff.mp hf
      subst e2
      obtain ⟨v, e3, r⟩ := atI_rel h2 e1
      exact .inr (.inl ⟨a, vs, i, v, rfl, rfl, h1, e3, q c _ R GoE.rfl' rfl r⟩)
    | tpz ds =>
      obtain ⟨a, ob, vs, rfl, _, _, _, h1, h2, _⟩ := hx.tpz R
      simp only [fIx, wat] at hf
      obtain ⟨z, e1, e2⟩ := Option.map_eq_some_iff.mp hf
      subst e2
      obtain ⟨v, e3, r⟩ := atI_rel h2 e1
      exact .inr (.inl ⟨a, vs, i, v, rfl, rfl, h1, e3, q c _ R GoE.rfl' rfl r⟩)
    | str z =>
      have hx' := hx.str
      subst hx'
      simp only [fIx] at hf
      split at hf
      · rename_i hz
        obtain ⟨u, e1, e2⟩ := Option.map_eq_some_iff.mp hf
        subst e2
        exact .inr (.inr ⟨z, i, u, rfl, rfl, line_m hz, e1, q c _ R GoE.rfl' rfl (Rp.str _)⟩)
      · cases hf
    | _ => cases hf
  | _ => cases d <;> cases hf
/-- a slice's ends -/
def SO (K : Bd) (t : TO) (g : Stt → (Option Int → Stt → Prop) → Prop) : Prop := ∀ F : Fx, F.bd = K → ∀ (c : Cf) (Φ : Option Int → Stt → Prop) (Q : Option Int → Hp → Prop), Rep F c → g c.s Φ → (∀ c' b, Rep F c' → GoE F c c' → Φ b c'.s → Q b c'.H) → t c.σ c.H Q
theorem SO.run {t : TO} {g : Stt → (Option Int → Stt → Prop) → Prop} (h : SO K t g) {F : Fx} (hK : F.bd = K) {c : Cf} {σ : L2.St} (e : c.σ = σ) {Φ : Option Int → Stt → Prop} {Q : Option Int → Hp → Prop} (R : Rep F c) (p : g c.s Φ) (q : ∀ c' b, Rep F c' → GoE F c c' → Φ b c'.s → Q b c'.H) : t σ c.H Q := by
  subst e
  exact h F hK c Φ Q R p q
def goNone : Stt → (Option Int → Stt → Prop) → Prop := fun s Φ => Φ none s
def goSome (g : GX) : Stt → (Option Int → Stt → Prop) → Prop := fun s Φ => g s fun w s1 => ∃ i, rd w s1 = some (.int i) ∧ Φ (some i) s1
def cutD (ds : List D) (lo hi : Option Int) : List D := (ds.drop (HT.sIx ds.length 0 lo)).take (HT.sIx ds.length ds.length hi - HT.sIx ds.length 0 lo)
theorem cut_rel {F : Fx} {B : Hp} {vs : List V} {ds : List D} (r : RpA F.K B vs ds) (lo hi : Option Int) : RpA F.K B (cutV vs lo hi) (cutD ds lo hi) := by
  unfold cutV cutD
  rw [r.len]
  exact (r.drop _).take _
def fSl : D → Option Int → Option Int → Option W
  | .lst ds, lo, hi => some (.new (cutD ds lo hi))
  | .tup ds, lo, hi => some (.dat (.tup (cutD ds lo hi)))
  | _, _, _ => none
def rSlB (K : PySem.W.Frag) : V → Option Int → Option Int → Hp → VK → Prop := fun x lo hi H Q => rSlL K x lo hi H Q ∨ rSlA K x lo hi H Q
theorem sl_both {X : Cx} : SlR X (rSlB X.K) := SlR.or sl_list sl_tupA
def gSl (g : GX) (gl gh : Stt → (Option Int → Stt → Prop) → Prop) : GX := fun s Φ => g s fun w s1 => gl s1 fun l s2 => gh s2 fun h s3 => ∃ d w', rd w s3 = some d ∧ fSl d l h = some w' ∧ Φ w' s3
theorem so_none : SO K tNoPart goNone := by
  intro F hK c Φ Q R p q
  exact q c none R GoE.rfl' p
theorem so_some {t : TE} {g : GX} (h : SE K t g) : SO K (tPart t) (goSome g) := by
  intro F hK c Φ Q R p q
  refine h F hK c _ _ R p fun c1 v w R1 G1 D1 p1 => ?_
  obtain ⟨i, e, p2⟩ := p1
  exact ⟨i, (rd_ok R1 D1 e).int, q c1 _ R1 G1 p2⟩
theorem se_sl {te : TE} {tl th : TO} {g : GX} {gl gh : Stt → (Option Int → Stt → Prop) → Prop} (h : SE K te g) (hl : SO K tl gl) (hh : SO K th gh) : SE K (tSl (rSlB K) te tl th) (gSl g gl gh) := by
  intro F hK c Φ Q R p q
  refine h F hK c _ _ R p fun c1 v w R1 G1 D1 p1 => ?_
  refine hl.run hK G1.σ R1 p1 fun c2 l R2 G2 p2 => ?_
  refine hh.run hK (G2.σ.trans G1.σ) R2 p2 fun c3 u R3 G3 p3 => ?_
  obtain ⟨d, w', e1, e2, p4⟩ := p3
  have r := rd_ok R3 ((D1.keep G2).keep G3) e1
  have G := (G1.trans G2).trans G3
  subst hK
  cases d with
  | lst ds =>
    cases Option.some.inj e2
    obtain ⟨a, vs, rfl, h1, h2⟩ := r.lst R3
    refine .inl ⟨a, vs, rfl, SqL.of h1, fun p hp => Den.newL R3 hp (cut_rel h2 l u) fun c' v R' G' es D' => q c' v _ R' (G.trans G') (D'.back G.go) (by rw [es]; exact p4)⟩
  | tup ds =>
    cases Option.some.inj e2
    obtain ⟨a, vs, rfl, h1, h2⟩ := r.tup R3
    refine .inr ⟨a, vs, rfl, h1, fun z => ?_, fun z p hp => Den.newT R3 hp (cut_rel h2 l u) fun c' v R' G' es D' => q c' v (.dat (.tup (cutD ds l u))) R' (G.trans G') D' (by rw [es]; exact p4)⟩
    refine q c3 _ (.dat (.tup (cutD ds l u))) R3 G ?_ p4
    have e : cutD ds l u = ds := by
      unfold cutD
      rw [← h2.len, z.1, z.2, List.drop_zero, Nat.sub_zero, h2.len, List.take_length]
    rw [e]
    exact r.tupB
  | _ => cases e2
/-! ### built-ins -/
def fLen : List D → Option W
  | [.lst ds] => some (.dat (.int (ds.length : Nat)))
  | [.tup ds] => some (.dat (.int (ds.length : Nat)))
  | [.tpz ds] => some (.dat (.int (ds.length : Nat)))
  | [.str z] => if z.length ≤ 1000000 then some (.dat (.int (z.length : Nat))) else none
  | _ => none
def rLenA (K : PySem.W.Frag) : List V → Hp → VK → Prop := fun xs H Q => ∃ x n, xs = [x] ∧ LenV K x H n ∧ Q (.int n) H
theorem cs_len : ClS K (rLenA K) fLen := by
  intro F hK c xs ds w Q R hx hf q
  subst hK
  cases hx with
  | nil => cases hf
  | @cons x d xs ds h t =>
    cases t with
    | cons _ _ => cases d <;> cases hf
    | nil =>
      cases d with
      | lst ds =>
        cases Option.some.inj hf
        obtain ⟨a, vs, rfl, h1, h2⟩ := h.lst R
        exact ⟨.ref a, _, rfl, .inl ⟨vs, SqL.of h1, h2.len.symm⟩, q c _ R GoE.rfl' rfl (Rp.int _)⟩
      | tup ds =>
        cases Option.some.inj hf
        obtain ⟨a, vs, rfl, h1, h2⟩ := h.tup R
        exact ⟨.ref a, _, rfl, .inr ⟨vs, h1, h2.len.symm⟩, q c _ R GoE.rfl' rfl (Rp.int _)⟩
      | tpz ds =>
        cases Option.some.inj hf
        obtain ⟨a, ob, vs, rfl, _, _, _, h1, h2, _⟩ := h.tpz R
        exact ⟨.ref a, _, rfl, .inr ⟨vs, h1, h2.len.symm⟩, q c _ R GoE.rfl' rfl (Rp.int _)⟩
      | str z =>
        simp only [fLen] at hf
        split at hf
        · rename_i hz
          cases Option.some.inj hf
          have e := h.str
          subst e
          exact ⟨.str z, _, rfl, ⟨line_m hz, rfl⟩, q c _ R GoE.rfl' rfl (Rp.int _)⟩
        · cases hf
      | _ => cases hf
def fInt : List D → Option W
  | [.int i] => some (.dat (.int i))
  | [.bl k] => some (.dat (.int (if k then 1 else 0)))
  | _ => none
def rInt1 : List V → Hp → VK → Prop := fun xs H Q => (∃ i, xs = [.int i] ∧ Q (.int i) H) ∨ ∃ k, xs = [.bl k] ∧ Q (.int (if k then 1 else 0)) H
theorem cs_int : ClS K rInt1 fInt := by
  intro F hK c xs ds w Q R hx hf q
  cases hx with
  | nil => cases hf
  | @cons x d xs ds h t =>
    cases t with
    | cons _ _ => cases d <;> cases hf
    | nil =>
      cases d with
      | int i =>
        cases Option.some.inj hf
        have e := h.int
        subst e
        exact .inl ⟨i, rfl, q c _ R GoE.rfl' rfl (Rp.int _)⟩
      | bl i =>
        cases Option.some.inj hf
        have e := h.bl
        subst e
        exact .inr ⟨i, rfl, q c _ R GoE.rfl' rfl (Rp.int _)⟩
      | _ => cases hf
def fAbs : List D → Option W
  | [.int i] => some (.dat (.int (if i < 0 then -i else i)))
  | _ => none
def rAbs : List V → Hp → VK → Prop := fun xs H Q => ∃ i, xs = [.int i] ∧ Q (.int (if i < 0 then -i else i)) H
theorem cs_abs : ClS K rAbs fAbs := by
  intro F hK c xs ds w Q R hx hf q
  cases hx with
  | nil => cases hf
  | @cons x d xs ds h t =>
    cases t with
    | cons _ _ => cases d <;> cases hf
    | nil =>
      cases d with
      | int i =>
        cases Option.some.inj hf
        have e := h.int
        subst e
        exact ⟨i, rfl, q c _ R GoE.rfl' rfl (Rp.int _)⟩
      | _ => cases hf
def allI : List D → Option (List Int)
  | [] => some []
  | .int i :: ds => match allI ds with
    | some ns => some (i :: ns)
    | none => none
  | _ => none
theorem allI_map (ns : List Int) : allI (ns.map D.int) = some ns := by
  induction ns with
  | nil => rfl
  | cons n ns ih => simp [allI, ih]
theorem allI_vs {B : Hp} : ∀ {vs : List V} {ds : List D} {ns : List Int}, RpA K B vs ds → allI ds = some ns → vs = ns.map V.int
  | _, _, ns, .nil, e => by cases Option.some.inj e; rfl
  | _, _, ns, .cons (d := d) (ds := ds) h t, e => by
    cases d with
    | int i =>
      simp only [allI] at e
      split at e
      · rename_i ms e1
        cases Option.some.inj e
        cases h
        rw [allI_vs t e1]
        rfl
      · cases e
    | _ => cases e
def allB : List D → Option (List Bool)
  | [] => some []
  | .bl i :: ds => match allB ds with
    | some ns => some (i :: ns)
    | none => none
  | _ => none
theorem allB_map (ns : List Bool) : allB (ns.map D.bl) = some ns := by
  induction ns with
  | nil => rfl
  | cons n ns ih => simp [allB, ih]
theorem allB_vs {B : Hp} : ∀ {vs : List V} {ds : List D} {ns : List Bool}, RpA K B vs ds → allB ds = some ns → vs = ns.map V.bl
  | _, _, ns, .nil, e => by cases Option.some.inj e; rfl
  | _, _, ns, .cons (d := d) (ds := ds) h t, e => by
    cases d with
    | bl i =>
      simp only [allB] at e
      split at e
      · rename_i ms e1
        cases Option.some.inj e
        cases h
        rw [allB_vs t e1]
        rfl
      · cases e
    | _ => cases e
def fSum : List D → Option W
  | [.lst ds] => (allI ds).map fun ns => .dat (.int ns.sum)
  | _ => none
theorem cs_sum : ClS K (rSum K) fSum := by
  intro F hK c xs ds w Q R hx hf q
  subst hK
  cases hx with
  | nil => cases hf
  | @cons x d xs ds h t =>
    cases t with
    | cons _ _ => cases d <;> cases hf
    | nil =>
      cases d with
      | lst ds =>
        obtain ⟨ns, e1, e2⟩ := Option.map_eq_some_iff.mp hf
        subst e2
        obtain ⟨a, vs, rfl, h1, h2⟩ := h.lst R
        refine ⟨a, ns, rfl, ?_, q c _ R GoE.rfl' rfl (Rp.int _)⟩
        rw [← allI_vs h2 e1]
        exact SqL.of h1
      | _ => cases hf
def fAll : List D → Option W
  | [.lst ds] => (allB ds).map fun ns => .dat (.bl (ns.all id))
  | _ => none
def fAny : List D → Option W
  | [.lst ds] => (allB ds).map fun ns => .dat (.bl (ns.any id))
  | _ => none
theorem cs_all : ClS K (rAll K) fAll := by
  intro F hK c xs ds w Q R hx hf q
  subst hK
  cases hx with
  | nil => cases hf
  | @cons x d xs ds h t =>
    cases t with
    | cons _ _ => cases d <;> cases hf
    | nil =>
      cases d with
      | lst ds =>
        obtain ⟨ns, e1, e2⟩ := Option.map_eq_some_iff.mp hf
        subst e2
        obtain ⟨a, vs, rfl, h1, h2⟩ := h.lst R
        refine ⟨a, ns, rfl, ?_, q c _ R GoE.rfl' rfl (Rp.bl _)⟩
        rw [← allB_vs h2 e1]
        exact SqL.of h1
      | _ => cases hf
theorem cs_any : ClS K (rAny K) fAny := by
  intro F hK c xs ds w Q R hx hf q
  subst hK
  cases hx with
  | nil => cases hf
  | @cons x d xs ds h t =>
    cases t with
    | cons _ _ => cases d <;> cases hf
    | nil =>
      cases d with
      | lst ds =>
        obtain ⟨ns, e1, e2⟩ := Option.map_eq_some_iff.mp hf
        subst e2
        obtain ⟨a, vs, rfl, h1, h2⟩ := h.lst R
        refine ⟨a, ns, rfl, ?_, q c _ R GoE.rfl' rfl (Rp.bl _)⟩
        rw [← allB_vs h2 e1]
        exact SqL.of h1
      | _ => cases hf
def fTuple : List D → Option W
  | [.lst ds] => some (.dat (.tup ds))
  | [.tup ds] => some (.dat (.tup ds))
  | [.tpz ds] => some (.dat (.tpz ds))
  | _ => none
def rTupOf (K : PySem.W.Frag) : List V → Hp → VK → Prop := fun xs H Q => ∃ p ys, xs = [.ref p] ∧ ((SqL K H p ys ∧ ∀ l, H l = none → Q (.ref l) (upd H l (.tup ys))) ∨ (SqT K H p ys ∧ Q (.ref p) H))
theorem cs_tuple : ClS K (rTupOf K) fTuple := by
  intro F hK c xs ds w Q R hx hf q
  subst hK
  cases hx with
  | nil => cases hf
  | @cons x d xs ds h t =>
    cases t with
    | cons _ _ => cases d <;> cases hf
    | nil =>
      cases d with
      | lst ds =>
        cases Option.some.inj hf
        obtain ⟨a, vs, rfl, h1, h2⟩ := h.lst R
        exact ⟨a, vs, rfl, .inl ⟨SqL.of h1, fun l hl => Den.newT R hl h2 q⟩⟩
      | tup ds =>
        cases Option.some.inj hf
        have r := h.tupB
        obtain ⟨a, vs, rfl, h1, h2⟩ := h.tup R
        exact ⟨a, vs, rfl, .inr ⟨h1, q c _ R GoE.rfl' rfl r⟩⟩
      | tpz ds =>
        cases Option.some.inj hf
        obtain ⟨a, ob, vs, rfl, _, _, _, h1, h2, r⟩ := h.tpz R
        exact ⟨a, vs, rfl, .inr ⟨h1, q c _ R GoE.rfl' rfl r⟩⟩
      | _ => cases hf
def fList : List D → Option W
  | [.lst ds] => some (.new ds)
  | [.tup ds] => some (.new ds)
  | [.tpz ds] => some (.new ds)
  | _ => none
def rListOf (K : PySem.W.Frag) : List V → Hp → VK → Prop := fun xs H Q => ∃ p ys, xs = [.ref p] ∧ (SqL K H p ys ∨ SqT K H p ys) ∧ ∀ l, H l = none → Q (.ref l) (upd H l (.lst ys))
theorem cs_list : ClS K (rListOf K) fList := by
  intro F hK c xs ds w Q R hx hf q
  subst hK
  cases hx with
  | nil => cases hf
  | @cons x d xs ds h t =>
    cases t with
    | cons _ _ => cases d <;> cases hf
    | nil =>
      cases d with
      | lst ds =>
        cases Option.some.inj hf
        obtain ⟨a, vs, rfl, h1, h2⟩ := h.lst R
        exact ⟨a, vs, rfl, .inl (SqL.of h1), fun l hl => Den.newL R hl h2 q⟩
      | tup ds =>
        cases Option.some.inj hf
        obtain ⟨a, vs, rfl, h1, h2⟩ := h.tup R
        exact ⟨a, vs, rfl, .inr h1, fun l hl => Den.newL R hl h2 q⟩
      | tpz ds =>
        cases Option.some.inj hf
        obtain ⟨a, ob, vs, rfl, _, _, _, h1, h2, _⟩ := h.tpz R
        exact ⟨a, vs, rfl, .inr h1, fun l hl => Den.newL R hl h2 q⟩
      | _ => cases hf
/-! ### sorted -/
def okS (ds : List D) : Prop := (∀ d ∈ ds, pureD d = true ∧ (toP d).depth ≤ 8) ∧ PySem.W.AllAlike (ds.map toP) ∧ PySem.W.Sortable (ds.map toP)
def leD (d e : D) : Bool := PySem.W.dataLe false toP d e
def sortD (ds : List D) : List D := ds.mergeSort leD
def rpP (K : Bk) (B : Hp) (p : V × D) : Prop := Rp K B p.1 p.2
theorem RpA.zip {B : Hp} : ∀ {vs : List V} {ds : List D}, RpA K B vs ds → ∀ p ∈ vs.zip ds, Rp K B p.1 p.2
  | _, _, .nil, p, h => by cases h
  | _, _, .cons h t, p, hp => by
    rcases List.mem_cons.mp hp with z | z
    · rw [z]; exact h
    · exact RpA.zip t p z
theorem RpA.ofZip {B : Hp} : ∀ {L : List (V × D)}, (∀ p ∈ L, Rp K B p.1 p.2) → RpA K B (L.map (·.1)) (L.map (·.2))
  | [], _ => .nil
  | p :: L, h => .cons (h p List.mem_cons_self) (RpA.ofZip fun q hq => h q (List.mem_cons_of_mem _ hq))
theorem zip_fst {B : Hp} {vs : List V} {ds : List D} (r : RpA K B vs ds) : (vs.zip ds).map (·.1) = vs := List.map_fst_zip (by rw [r.len]; exact Nat.le_refl _)
theorem zip_snd {B : Hp} {vs : List V} {ds : List D} (r : RpA K B vs ds) : (vs.zip ds).map (·.2) = ds := List.map_snd_zip (by rw [r.len]; exact Nat.le_refl _)
/-- sorted(xs): the values go along -/
theorem sort_rel {B : Hp} {vs : List V} {ds : List D} (r : RpA K B vs ds) : RpA K B ((srtD ((vs.zip ds).map fun p => (p.1, toP p.2))).map (·.1)) (sortD ds) := by
  have e1 : srtD ((vs.zip ds).map fun p => (p.1, toP p.2)) = ((vs.zip ds).mergeSort fun a b => leD a.2 b.2).map fun p => (p.1, toP p.2) := by
    unfold srtD
    rw [← PySem.W.sort_maps (fun p : V × D => (p.1, toP p.2))]
    intro a _ b _
    rfl
  have e2 : sortD ds = ((vs.zip ds).mergeSort fun a b => leD a.2 b.2).map (·.2) := by
    unfold sortD
    rw [PySem.W.sort_maps (fun p : V × D => p.2) (s := leD) (fun a _ b _ => rfl), zip_snd r]
  rw [e1, e2, List.map_map]
  have := RpA.ofZip (K := K) (B := B) (L := (vs.zip ds).mergeSort fun a b => leD a.2 b.2) fun p hp => r.zip p ((List.mergeSort_perm _ _).mem_iff.mp hp)
  exact this
def gSorted (ga : GA) : GX := fun s Φ => ga s fun ws s1 => ∃ ds, (rdA ws s1 = some [.lst ds] ) ∧ okS ds ∧ Φ (.new (sortD ds)) s1
theorem se_sorted {t : TA} {ga : GA} (h : SA K t ga) : SE K (tCB (rSortedD K) t) (gSorted ga) := by
  intro F hK c Φ Q R p q
  refine h F hK c _ _ R p fun c1 vs ws R1 G1 D1 p1 => ?_
  obtain ⟨ds, e1, ⟨ok1, ok2, ok3⟩, p2⟩ := p1
  have z := rdA_ok R1 D1 e1
  cases z with
  | @cons x _ xs _ a t =>
    cases t
    subst hK
    obtain ⟨l, us, rfl, h1, h2⟩ := a.lst R1
    have r := h2.ext R1.le
    have m1 : ((us.zip ds).map fun p => (p.1, toP p.2)).map (·.1) = us := by
      rw [List.map_map]
      exact zip_fst h2
    have m2 : ((us.zip ds).map fun p => (p.1, toP p.2)).map (·.2) = ds.map toP := by
      rw [List.map_map]
      have := congrArg (List.map toP) (zip_snd h2)
      rw [List.map_map] at this
      exact this
    have memd : ∀ p ∈ us.zip ds, p.2 ∈ ds := fun p hp => (List.of_mem_zip hp).2
    refine ⟨l, (us.zip ds).map fun p => (p.1, toP p.2), rfl, by rw [m1]; exact SqL.of h1, ?_, by rw [m2]; exact ok2, by rw [m2]; exact ok3, ?_, fun p hp => ?_⟩
    · intro p hp
      obtain ⟨z, hz, rfl⟩ := List.mem_map.mp hp
      exact (r.zip z hz).dp (ok1 _ (memd z hz)).1
    · intro p hp
      obtain ⟨z, hz, rfl⟩ := List.mem_map.mp hp
      exact (ok1 _ (memd z hz)).2
    · exact Den.newL R1 hp (sort_rel h2) fun c' v R' G' es D' => q c' v _ R' (G1.trans G') (D'.back G1.go) (by rw [es]; exact p2)
/-! ### isinstance(x, T), T a built-in type -/
def tyD : D → Option String
  | .non => some "NoneType"
  | .bl _ => some "bool"
  | .int _ => some "int"
  | .str _ => some "str"
  | .lst _ => some "list"
  | .tup _ => some "tuple"
  | .tpz _ => some "tuple"
  | .ins _ _ _ => none
  | .dic _ _ => some "dict"
  | .dnk _ _ => none
def isiD (n : String) (d : D) : Option Bool := match tyD d with
  | some t => kitB t n
  | none => none
def gIsi (n : String) (g : GX) : GX := fun s Φ => g s fun w s1 => ∃ d b, rd w s1 = some d ∧ isiD n d = some b ∧ Φ (.dat (.bl b)) s1
theorem ty_of {F : Fx} {c : Cf} {v : V} {d : D} {t : String} (R : Rep F c) (h : Rq F c v d) (e : tyD d = some t) : TyX F.K c.H v (.type t) := by
  cases d with
  | non => cases Option.some.inj e; rw [h.non]; exact .base .non
  | bl b => cases Option.some.inj e; rw [h.bl]; exact .base (.bl b)
  | int b => cases Option.some.inj e; rw [h.int]; exact .base (.int b)
  | str b => cases Option.some.inj e; rw [h.str]; exact .base (.str b)
  | lst ds =>
    cases Option.some.inj e
    obtain ⟨a, vs, rfl, h1, _⟩ := h.lst R
    exact .base (.lst h1)
  | tup ds =>
    cases Option.some.inj e
    obtain ⟨a, vs, rfl, h1, _⟩ := h.tup R
    rcases h1 with (h1 | ⟨o, h1⟩) | ⟨o, its, n, hk, hc, _⟩
    · exact .base (.tup h1)
    · exact .fTuple h1
    · exact .kTuple hk hc
  | tpz ds =>
    cases Option.some.inj e
    rcases h with h | ⟨l, vs, ds', rfl, e', _⟩
    · cases h with
      | tpz h1 _ _ _ => exact .fTuple (R.le _ _ h1)
    · cases e'
  | ins _ _ _ => cases e
  | dic _ _ =>
    cases Option.some.inj e
    rcases h with h | ⟨l, vs, ds', rfl, e', _⟩
    · cases h with
      | dic h1 _ _ => exact .base (.dK (R.le _ _ h1))
    · cases e'
  | dnk _ _ => cases e
theorem se_isi {n : String} {t : TE} {g : GX} (h : SE K t g) : SE K (tCB (rIsi K) (tCons t (tCons (tC (.ty n)) tNil))) (gIsi n g) := by
  intro F hK c Φ Q R p q
  refine h F hK c _ _ R p fun c1 v w R1 G1 D1 p1 => ?_
  obtain ⟨d, b, e1, e2, p2⟩ := p1
  subst hK
  unfold isiD at e2
  split at e2
  · rename_i t et
    exact ⟨v, .ty n, .type t, .type n, b, rfl, .ty n, ty_of R1 (rd_ok R1 D1 e1) et, kit_ty e2, q c1 _ (.dat (.bl b)) R1 G1 (Rp.bl b) p2⟩
  · cases e2
/-! ### l.count(x) -/
def rCntD (K : PySem.W.Frag) : V → List V → Hp → VK → Prop := fun x xs H Q => ∃ (p : Addr) (y : V) (ds : List PyData) (d : PyData), x = .ref p ∧ xs = [y] ∧ Dp K H (.ref p) (.list ds) ∧ Dp K H y d ∧ SeqAt.shaped (.list ds) = true ∧ SeqAt.shaped d = true ∧ Q (.int ((ds.countP fun z => PyData.eqv z d : Nat) : Int)) H
theorem mt_lcountD {X : Cx} (hu : X.A.units + 65 < cLine) : MtR X "list.count" (rCntD X.K) := by
  intro pins s σ H x xs v us Q I rx rxs h
  obtain ⟨p, y, ds, d, rfl, rfl, hl, hy, s1, s2, q⟩ := h
  cases rx
  obtain ⟨u, rfl, ru⟩ := rxs.one
  obtain ⟨bs, r1⟩ := Dp.reads I d y u hy ru
  cases hl with
  | lst hs ha =>
    obtain ⟨its, rv, pl, hlen⟩ := I.list hs
    obtain ⟨as, h4⟩ := Dp.readsAll I ds _ its ha rv
    have hxs : PyData.canLayAll0 ds = true := SeqAt.canLay_of_shaped s1
    refine SeqAt.count_list_data (l := p) (vs := its.toArray) (xs := ds) (d := d) pl.isList (show ReadsAll s.heap its.toArray.toList ds as from h4) r1 (PyData.plainAll_of_canLay0 _ hxs) (PyData.plain_of_canLay0 _ (SeqAt.canLay_of_shaped s2)) (room_in_shaped s2 hu) ?_
    exact ⟨.int _, H, I.tok _, ⟨s.toks, rfl⟩, q⟩
/-- o.m(e), o a list -/
def gCount (g1 g2 : GX) : GX := fun s Φ => g1 s fun w1 s1 => (∃ ds, rd w1 s1 = some (.lst ds)) ∧ g2 s1 fun w2 s2 => ∃ ds d, rd w1 s2 = some (.lst ds) ∧ rd w2 s2 = some d ∧ okD (.lst ds) = true ∧ okD d = true ∧ Φ (.dat (.int ((ds.countP fun z => eqD z d : Nat) : Int))) s2
theorem se_count {t1 t2 : TE} {g1 g2 : GX} (h1 : SE K t1 g1) (h2 : SE K t2 g2) : SE K (tBM K "list" (rCntD K) t1 (tCons t2 tNil)) (gCount g1 g2) := by
  intro F hK c Φ Q R p q
  refine h1 F hK c _ _ R p fun c1 v1 w1 R1 G1 D1 p1 => ?_
  obtain ⟨⟨ds0, e0⟩, p1⟩ := p1
  subst hK
  obtain ⟨a, vs0, rfl, q1, _⟩ := (rd_ok R1 D1 e0).lst R1
  refine ⟨.inl ⟨rfl, vs0, SqL.of q1⟩, ?_⟩
  refine h2.run rfl G1.σ R1 p1 fun c2 v2 w2 R2 G2 D2 p2 => ?_
  obtain ⟨ds, d, e1, e2, o1, o2, p3⟩ := p2
  have x1 := ((rd_ok R2 (D1.keep G2) e1).rp R2).dp (okD_pure o1)
  have x2 := ((rd_ok R2 D2 e2).rp R2).dp (okD_pure o2)
  have s1 := okD_shaped o1
  simp only [toP] at x1 s1
  refine ⟨a, v2, toPs ds, toP d, rfl, rfl, x1, x2, s1, okD_shaped o2, ?_⟩
  have e : ((toPs ds).countP fun z => PyData.eqv z (toP d)) = ds.countP fun z => eqD z d := by
    rw [toPs_map, List.countP_map]; rfl
  rw [e]
  exact q c2 _ (.dat (.int _)) R2 (G1.trans G2) (Rp.int _) p3
/-! ### l.append(x) as a statement -/
def gsApp (i : Nat) (g : GX) : GS := fun s De => (∃ ds, s.r[i]? = some (some (.own ds))) ∧ g s fun w s1 => ∃ d s2 ds, frz w s1 = some (d, s2) ∧ s2.r[i]? = some (some (.own ds)) ∧ ds.length < 1000000 ∧ De.nx (s2.put i (.own (ds ++ [d])))
theorem ss_app {i : Nat} {t : TE} {g : GX} (h : SE K t g) : SS K (tDrop (tBM K "list" rAppend (tVar i) (tCons t tNil))) (gsApp i g) := by
  intro F hK c E De R p ok
  obtain ⟨⟨ds0, e0⟩, p⟩ := p
  obtain ⟨l, o0, q1, q2, ⟨vs0, rfl, _⟩, _⟩ := R.at_ i _ e0
  subst hK
  refine ⟨.ref l, q1, .inl ⟨rfl, vs0, SqL.of q2⟩, ?_⟩
  refine h.run rfl rfl R p fun c1 v w R1 G1 D1 p1 => ?_
  obtain ⟨d, s2, ds, e1, e2, hl, p2⟩ := p1
  obtain ⟨c2, b1, b2, b3, _, R2, G2, r⟩ := frz_ok R1 G1 D1 e1
  rw [← b2] at e2 p2
  have hσ : c2.σ[i]? = some (some (.ref l)) := by rw [G2.σ]; exact q1
  obtain ⟨l', o2, y1, y2, ⟨vs, rfl, y3⟩, y4, y5⟩ := R2.at_ i _ e2
  rw [hσ] at y1
  cases y1
  obtain ⟨R3, G3⟩ := R2.updE (e' := .own (ds ++ [d])) (o' := .lst (vs ++ [v])) e2 rfl hσ ⟨_, rfl, y3.snoc r⟩
  have hvl : vs.length < sizeLine := by
    rw [y3.len, sizeLine_eq]; omega
  refine ⟨l, vs, v, rfl, rfl, by rw [← b1]; exact y2, hvl, ?_⟩
  have key := ok.nxE R3 (G2.trans G3) p2
  rw [← b1]
  exact key
end
end DL
set_option maxHeartbeats 4000000
/-! Methods of dicts with nested tuples as keys; sorted(d.items()). -/
namespace Ax
open PySem PySem.Spec PyProof.Rows L2
mutual
theorem reads_mem {h : Heap} : ∀ {v : Value} {d : PyData} {as : List Addr}, Reads h v d as → ∀ a ∈ as, a < h.objs.size
  | _, _, _, .none => by simp
  | _, _, _, .bool _ => by simp
  | _, _, _, .int _ _ => by simp
  | _, _, _, .str _ _ => by simp
  | _, _, _, .list h1 _ _ r => fun a ha => by
    rcases List.mem_cons.mp ha with z | z
    · rw [z]; exact Heap.lt_size h1
    · exact readsAll_mem r a z
  | _, _, _, .tuple h1 _ _ r => readsAll_mem r
  | _, _, _, .dict h1 _ _ r r2 => fun a ha => by
    rcases List.mem_append.mp ha with z | z
    · rcases List.mem_cons.mp z with y | y
      · rw [y]; exact Heap.lt_size h1
      · exact readsAll_mem r a y
    · exact readsAll_mem r2 a z
theorem readsAll_mem {h : Heap} : ∀ {vs : List Value} {ds : List PyData} {as : List Addr}, ReadsAll h vs ds as → ∀ a ∈ as, a < h.objs.size
  | _, _, _, .nil => by simp
  | _, _, _, .cons r t => fun a ha => by
    rcases List.mem_append.mp ha with z | z
    · exact reads_mem r a z
    · exact readsAll_mem t a z
end
/-- d.m(e), d such a dict -/
def tDM (P : Program) (w : World) (r : V → List V → Hp → VK → Prop) (to : TE) (t : TA) : TE := fun σ H Q => to σ H fun x H1 => (∃ (a : Addr) (kvs : Kvs), x = .ref a ∧ H1 a = some (NdO P w a kvs)) ∧ t σ H1 fun xs H2 => r x xs H2 Q
def tDM0 (P : Program) (w : World) (r : V → List V → Hp → VK → Prop) (to : TE) : TE := fun σ H Q => to σ H fun x H1 => (∃ (a : Addr) (kvs : Kvs), x = .ref a ∧ H1 a = some (NdO P w a kvs)) ∧ r x [] H1 Q
section
variable {X : Cx}
theorem nd_is {pins : List (Addr × Obj)} {σ : L2.St} {H : Hp} {s : Shared} {a : Addr} {kvs : Kvs} (I : Inv X pins σ H s) (h : H a = some (NdO X.prog X.w a kvs)) : s.TypeIs (.ref a) "dict" ∧ ∀ b, Value.ref a = .ref b → ∃ ob, s.heap.get? b = some ob ∧ ob.dict = none := by
  obtain ⟨_, _, xs, _, o, es, ep, ho, hx, _⟩ := (show ObjOk X.prog X.w H s.heap a (NdO X.prog X.w a kvs) from I.hok a _ h).1
  exact ⟨⟨o, ho, hx.1⟩, fun b e => by cases e; exact ⟨o, ho, hx.2.1⟩⟩
variable {o e : Expr} {es : List Expr} {to : TE} {t : TA} {name : Str} {apos cpos : Pos} {id : String} {r : V → List V → Hp → VK → Prop}
theorem pe_dm (slot : Slot "dict" name id) (hty : typeOf (.builtin id) = pure (.type "method_descriptor")) (hm : MtR X id r) (ho : PE X o to) (ha : PA X (e :: es) t)
    (hbase : attributeBase o name X.env (eval o X.env) = eval o X.env := by rfl)
    (hfew : ((backTo cpos (starEach (e :: es) X.env)).all (fun x => !x.1) && (backToKw cpos (keywordEach [] X.env)).all (fun x => x.1.isSome)
      && decide ((e :: es).length + ([] : List Keyword).length + (if ([] : List Keyword).isEmpty then 0 else 1) < 30)) = true := by rfl)
    (hline : (apos.endLine == cpos.line) = true := by rfl) (hs : starEach (e :: es) X.env = (false, eval e X.env) :: starEach es X.env := by rfl) (hplain : (backTo cpos (starEach es X.env)).any (·.1) = false := by rfl) :
    PE X (.Call (.Attribute o name apos) (e :: es) [] cpos) (tDM X.prog X.w r to t) := by
  refine ⟨fun pins s σ H Q I h => ?_⟩
  refine wpAny_Call_method_late hbase hfew hline rfl (thn (ho.run pins s σ H _ I h) fun v s1 ⟨x, H1, I1, r1, ty, q1⟩ => ?_)
  obtain ⟨p, kvs, rfl, hp⟩ := ty
  obtain rfl : v = Value.ref p := r1
  obtain ⟨t1, t2⟩ := nd_is I1 hp
  refine ⟨"dict", id, PySem.F.plainAttrs_dict, slot, hty, t1, t2, ?_⟩
  have hA := ha.run cpos pins s1 σ H1 _ I1 q1
  rw [hs] at hA ⊢
  refine Calls.callWith_builtin (by show (false || (backTo cpos (starEach es X.env)).any (·.1)) = false; rw [hplain] <;> rfl) (Calls.evalArgs_plain ?_)
  exact thn hA fun us s2 ⟨vs, H2, I2, r2, q2⟩ => hm pins s2 σ H2 (.ref p) vs (.ref p) us Q I2 rfl r2 q2
theorem pe_dm0 (slot : Slot "dict" name id) (hty : typeOf (.builtin id) = pure (.type "method_descriptor")) (hm : MtR X id r) (ho : PE X o to)
    (hbase : attributeBase o name X.env (eval o X.env) = eval o X.env := by rfl) (hline : (apos.endLine == cpos.line) = true := by rfl) : PE X (.Call (.Attribute o name apos) [] [] cpos) (tDM0 X.prog X.w r to) := by
  refine ⟨fun pins s σ H Q I h => ?_⟩
  refine wpAny_Call_method0_late hbase hline (thn (ho.run pins s σ H _ I h) fun v s1 ⟨x, H1, I1, r1, ty, q1⟩ => ?_)
  obtain ⟨p, kvs, rfl, hp⟩ := ty
  obtain rfl : v = Value.ref p := r1
  obtain ⟨t1, t2⟩ := nd_is I1 hp
  exact ⟨"dict", id, PySem.F.plainAttrs_dict, slot, hty, t1, t2, Calls.callWith_builtin rfl (PySem.evalArgs_none (hm pins s1 σ H1 (.ref p) [] (.ref p) [] Q I1 rfl .nil q1))⟩
/-! ### d.items() -/
def rItemsN (P : Program) (w : World) : V → List V → Hp → VK → Prop := fun x xs H Q => ∃ (a : Addr) (kvs : Kvs), x = .ref a ∧ xs = [] ∧ H a = some (NdO P w a kvs) ∧ ∀ p, H p = none → Q (.ref p) (upd H p (L2.DX.itemsO p a))
theorem mt_itemsN : MtR X "dict.items" (rItemsN X.prog X.w) := by
  intro pins s σ H x xs v us Q I rx rxs h
  obtain ⟨a, kvs, rfl, rfl, ha, q⟩ := h
  cases rx
  cases rxs
  obtain ⟨_, hd, ys, _, o, es, ep, ho, hx, hdat, _⟩ := (show ObjOk X.prog X.w H s.heap a (NdO X.prog X.w a kvs) from I.hok a _ ha).1
  refine DT.callItems (es := es) (ep := ep) hd ⟨o, ho, hx, hdat⟩ ?_
  have hf : H s.heap.objs.size = none := I.hok.fresh (Nat.le_refl _)
  exact ⟨.ref s.heap.objs.size, upd H s.heap.objs.size (L2.DX.itemsO s.heap.objs.size a), I.laid (t' := s.toks) (fun b u e => Heap.get?_push_of_some _ e) (Nat.le_refl _) (L2.DX.itemsO_ok (Heap.get?_push_size _ rfl)), rfl, q _ hf⟩
/-! ### sorted(d.items()) -/
abbrev It4 := V × V × PyData × PyData
def enc4 (z : It4) : PyData := .tuple [z.2.2.1, z.2.2.2]
abbrev It5 := Addr × It4
def enc5 (z : It5) : PyData := enc4 z.2
def rSortIN (K : PySem.W.Frag) (P : Program) (w : World) : List V → Hp → VK → Prop := fun vs H Q => ∃ (p a : Addr) (kvs : Kvs) (L : List It4), vs = [.ref p] ∧ H p = some (L2.DX.itemsO p a) ∧ H a = some (NdO P w a kvs) ∧ kvs.map (fun e => (V.ref e.2.1, e.2.2)) = L.map (fun z => (z.1, z.2.1)) ∧
  (∀ z ∈ L, Dp K H z.1 z.2.2.1 ∧ Dp K H z.2.1 z.2.2.2 ∧ (enc4 z).depth ≤ 8) ∧ PySem.W.AllAlike (L.map enc4) ∧
  ∀ (H' : Hp) (l : Addr) (bs : List It5), (∀ b o, H b = some o → H' b = some o) → bs.map (·.2) = L → H l = none → H' l = some (.lst ((bs.mergeSort (PySem.W.dataLe false enc5)).map fun b => V.ref b.1)) → (∀ b ∈ bs, H b.1 = none ∧ b.1 ≠ l ∧ H' b.1 = some (.tup [b.2.1, b.2.2.1])) → Q (.ref l) H'
theorem zip_get {α β : Type} {as : List α} {bs : List β} {z : α × β} (h : z ∈ as.zip bs) : ∃ j : Nat, as[j]? = some z.1 ∧ bs[j]? = some z.2 := by
  obtain ⟨j, hj⟩ := List.mem_iff_getElem?.mp h
  exact ⟨j, List.getElem?_zip_eq_some.mp hj⟩
theorem each_zip {α : Type} {R : Value → α → Prop} {f : α → Value} : ∀ (bs : List α), (∀ b ∈ bs, R (f b) b) → PySem.W.EachIs R (bs.map f) bs
  | [], _ => .nil
  | b :: bs, h => .cons (h b List.mem_cons_self) (each_zip bs fun c hc => h c (List.mem_cons_of_mem _ hc))
theorem each_map_eq {α : Type} {f : α → Value} : ∀ {out : List Value} {bs : List α}, PySem.W.EachIs (fun u b => u = f b) out bs → out = bs.map f
  | _, _, .nil => rfl
  | _, _, .cons h t => by rw [h, each_map_eq t]; rfl
theorem cr_sortedIN (hc : X.calm = true) (hu : X.A.units + 64 < cLine) : CallR X (.builtin "sorted") (rSortIN X.K X.prog X.w) := by
  intro pins s σ H xs us Q I r h
  obtain ⟨p, a, kvs, L, rfl, hp, ha, hL, hd, hal, q⟩ := h
  obtain ⟨u, rfl, ru⟩ := vals1 r
  obtain rfl : u = Value.ref p := ru
  have view : s.heap.IsItemsView p a := (show ObjOk X.prog X.w H s.heap p (L2.DX.itemsO p a) from I.hok p _ hp).1
  obtain ⟨z, hms, xs', rel, o, es, ep, ho, hx, hdat, hes, hn⟩ := (show ObjOk X.prog X.w H s.heap a (NdO X.prog X.w a kvs) from I.hok a _ ha).1
  have l1 := kvr_len rel
  have l2 : es.size = xs'.length := size_of_entries hes
  have l3 : kvs.length = L.length := by
    have := congrArg List.length hL
    rw [List.length_map, List.length_map] at this
    exact this
  have hh : X.A.handled = none := I.ok.hd hc
  refine DT.sortedI (es := es) (ep := ep) hh view ⟨o, ho, hx, hdat⟩ (by omega) fun h' tk as hk hlt hl hG => ?_
  have lak : as.length = L.length := by omega
  have nd : as.Nodup := List.Pairwise.imp (fun h => Nat.ne_of_lt h) hG.rise
  -- the pairs that were made
  have pr : ∀ (j : Nat) (b : Addr) (e : It4), as[j]? = some b → L[j]? = some e → ∃ ku vu : Value, RelV e.1 ku ∧ RelV e.2.1 vu ∧ h'.get? b = some { cls := .type "tuple", data := .seq #[ku, vu] } := by
    intro j b e hj he
    obtain ⟨en, hen, hg⟩ := hG.pairs j b hj
    have hjk : j < kvs.length := by
      have := (List.getElem?_eq_some_iff.mp he).1
      omega
    obtain ⟨x, hxj, e1, e2, e3⟩ := kvr_at rel (List.getElem?_eq_getElem hjk)
    have q := entry_at hes j
    rw [hxj, hen] at q
    have q' := Option.some.inj q
    have hm := congrArg (fun l => l[j]?) hL
    simp only [List.getElem?_map, he, List.getElem?_eq_getElem hjk, Option.map_some, Option.some.injEq, Prod.mk.injEq] at hm
    obtain ⟨m1, m2⟩ := hm
    refine ⟨.ref x.2.1, x.2.2, ?_, ?_, ?_⟩
    · rw [← m1, e2]; exact rfl
    · rw [← m2]; exact e3
    · rw [hg, q']; rfl
  have hob : (h'.push { cls := .type "list", data := .seq (as.map Value.ref).toArray }).get? h'.objs.size = some (seqObj "list" (as.map Value.ref).toArray 0) := Heap.get?_push_size _ rfl
  have kb : ∀ b o, s.heap.get? b = some o → (h'.push { cls := .type "list", data := .seq (as.map Value.ref).toArray }).get? b = some o := fun b o e => Heap.get?_push_of_some _ (hk b o e)
  have ka : ∀ b o, h'.get? b = some o → (h'.push { cls := .type "list", data := .seq (as.map Value.ref).toArray }).get? b = some o := fun b o e => Heap.get?_push_of_some _ e
  have ne0 : ∀ b o, h'.get? b = some o → b ≠ h'.objs.size := fun b o e => Nat.ne_of_lt (Heap.lt_size e)
  generalize hh2 : h'.push { cls := .type "list", data := .seq (as.map Value.ref).toArray } = h2 at hob kb ka ⊢
  have zm : (as.zip L).map (·.2) = L := List.map_snd_zip (by omega)
  have zf : (as.zip L).map (·.1) = as := List.map_fst_zip (by omega)
  have zv : as.map Value.ref = (as.zip L).map fun b => Value.ref b.1 := by
    have := congrArg (List.map Value.ref) zf
    rw [List.map_map] at this
    exact this.symm
  have em : (as.zip L).map enc5 = L.map enc4 := by
    have := congrArg (List.map enc4) zm
    rw [List.map_map] at this
    exact this
  -- what a pair reads as
  have rdp : ∀ b ∈ as.zip L, ∃ bs, Reads h2 (.ref b.1) (enc5 b) bs ∧ h'.objs.size ∉ bs := by
    intro b hb
    obtain ⟨j, hj1, hj2⟩ := zip_get hb
    obtain ⟨ku, vu, r1, r2, hg⟩ := pr j b.1 b.2 hj1 hj2
    obtain ⟨d1, d2, _⟩ := hd b.2 (List.mem_of_getElem? hj2)
    obtain ⟨as1, R1⟩ := Dp.reads I _ _ _ d1 r1
    obtain ⟨as2, R2⟩ := Dp.reads I _ _ _ d2 r2
    refine ⟨as1 ++ (as2 ++ []), .tuple (ka _ _ hg) rfl rfl (.cons (PyProof.Rows.Reads.keeps kb R1) (.cons (PyProof.Rows.Reads.keeps kb R2) .nil)), fun m => ?_⟩
    rw [List.append_nil] at m
    have lt0 : s.heap.objs.size < h'.objs.size := hlt
    rcases List.mem_append.mp m with m | m
    · exact absurd (Nat.lt_trans (reads_mem R1 _ m) lt0) (Nat.lt_irrefl _)
    · exact absurd (Nat.lt_trans (reads_mem R2 _ m) lt0) (Nat.lt_irrefl _)
  have hz : (as.zip L).length ≤ sizeLine := by
    have : (as.zip L).length = L.length := by rw [← List.length_map (·.2), zm]
    omega
  refine PySem.W.list_sort_data (s := { s with heap := h2, toks := tk }) (A := X.A.in1) (n := 0) (vs := as.map Value.ref) (bs := as.zip L) (enc := enc5) (R := fun u b => u = Value.ref b.1) hob (by rw [zv]; exact each_zip _ fun b _ => rfl) (by
      rw [zv]
      refine each_zip _ fun b hb => ?_
      exact rdp b hb) (by rw [em]; exact hal) (.inl fun d hd' => ?_) hz (fun b hb => ?_) fun out o1 o2 => ?_
  · obtain ⟨b, _, rfl⟩ := List.mem_map.mp hd'
    exact ⟨_, _, rfl⟩
  · obtain ⟨_, _, d3⟩ := hd b.2 (by
      obtain ⟨j, _, hj2⟩ := zip_get hb
      exact List.mem_of_getElem? hj2)
    have d3' : (enc5 b).depth ≤ 8 := d3
    show X.A.units + 1 + 1 + (enc5 b).depth < cLine
    omega
  · have hout := each_map_eq o2
    show EP X pins σ Q (.ref h'.objs.size) { s with heap := sortedHeap h2 h'.objs.size (as.map Value.ref) out.toArray, toks := tk }
    have kF : ∀ b o, b ≠ h'.objs.size → h2.get? b = some o → (sortedHeap h2 h'.objs.size (as.map Value.ref) out.toArray).get? b = some o := fun b o hb e => (PyProof.Rows.sortedHeap_old hb (Heap.lt_size e)).trans e
    have kS : ∀ b o, s.heap.get? b = some o → (sortedHeap h2 h'.objs.size (as.map Value.ref) out.toArray).get? b = some o := fun b o e => kF b o (ne0 _ _ (hk b o e)) (kb b o e)
    obtain ⟨eF, heF⟩ := PyProof.Rows.sortedHeap_at (vs := as.map Value.ref) (out := out.toArray) hob
    have I1 : Inv X pins σ H { s with heap := sortedHeap h2 h'.objs.size (as.map Value.ref) out.toArray, toks := tk } := I.kept (t' := tk) kS
    have hn0 : H h'.objs.size = none := I.hok.fresh (Nat.le_of_lt hlt)
    have hlen : (((as.zip L).mergeSort (PySem.W.dataLe false enc5)).map fun b => V.ref b.1).length ≤ sizeLine := by
      rw [List.length_map, List.length_mergeSort]; exact hz
    have rv : Vals (((as.zip L).mergeSort (PySem.W.dataLe false enc5)).map fun b => V.ref b.1) out := by
      rw [hout]
      exact vals_maps (fun z : It5 => V.ref z.1) (fun z => Value.ref z.1) _ fun _ _ => rfl
    have I2 : Inv X pins σ (upd H h'.objs.size (.lst (((as.zip L).mergeSort (PySem.W.dataLe false enc5)).map fun b => V.ref b.1))) { s with heap := sortedHeap h2 h'.objs.size (as.map Value.ref) out.toArray, toks := tk } :=
      I1.take (h' := sortedHeap h2 h'.objs.size (as.map Value.ref) out.toArray) (t' := tk) (fun b ob _ e => e) (I.fpOk (Nat.le_of_lt hlt) hn0) ⟨hlen, out, eF, rv, heF⟩
    obtain ⟨H2, I3, g, qt⟩ := L2.DX.takeT (P := fun b vs => ∃ (j : Nat) (e : It4), as[j]? = some b ∧ L[j]? = some e ∧ vs = [e.1, e.2.1]) I as _ I2 nd fun b hb => by
      obtain ⟨j, hj⟩ := List.mem_iff_getElem?.mp hb
      have hjl : j < L.length := by
        have := (List.getElem?_eq_some_iff.mp hj).1
        omega
      obtain ⟨ku, vu, r1, r2, hg⟩ := pr j b L[j] hj (List.getElem?_eq_getElem hjl)
      have hbl : s.heap.objs.size ≤ b := Nat.le_of_lt (hG.above b hb)
      refine ⟨hbl, ?_, [L[j].1, L[j].2.1], ⟨j, L[j], hj, List.getElem?_eq_getElem hjl, rfl⟩, fun H3 => ⟨(by rw [sizeLine_eq]; show 2 ≤ 16777216; omega), [ku, vu], .cons r1 (.cons r2 .nil), ⟨_, kF _ _ (ne0 _ _ hg) (ka _ _ hg), rfl, 0, rfl⟩⟩⟩
      rw [upd_ne (ne0 _ _ hg)]
      exact I.hok.fresh hbl
    have gr : ∀ b o, H b = some o → H2 b = some o := fun b o e => g b o (by rw [upd_ne (ne_of_none e hn0)]; exact e)
    refine ⟨.ref h'.objs.size, H2, I3, rfl, q H2 h'.objs.size (as.zip L) gr zm hn0 (g _ _ upd_same) fun b hb => ?_⟩
    obtain ⟨j, hj1, hj2⟩ := zip_get hb
    obtain ⟨ku, vu, r1, r2, hg⟩ := pr j b.1 b.2 hj1 hj2
    have hbl : s.heap.objs.size ≤ b.1 := Nat.le_of_lt (hG.above b.1 (List.mem_of_getElem? hj1))
    obtain ⟨vs, ⟨i, e, i1, i2, ev⟩, hH⟩ := qt b.1 (List.mem_of_getElem? hj1)
    have eij : i = j := (List.getElem?_inj (List.getElem?_eq_some_iff.mp i1).1 nd).mp (i1.trans hj1.symm)
    subst eij
    have ee : e = b.2 := Option.some.inj (i2.symm.trans hj2)
    rw [ev, ee] at hH
    exact ⟨I.hok.fresh hbl, ne0 _ _ hg, hH⟩
end
end Ax
set_option maxHeartbeats 2000000
/-! Dicts of a def's own over data; max with default. -/
namespace DL
open PySem PySem.Spec PyProof.Rows L2 Ax
def getK (kvs : List (NK × D)) (k : NK) : Option D := (kvs.find? fun p => decide (p.1 = k)).map (·.2)
def putK (kvs : List (NK × D)) (k : NK) (d : D) : List (NK × D) := if (getK kvs k).isSome = true then kvs.map fun p => if p.1 = k then (p.1, d) else p else kvs ++ [(k, d)]
section
variable {K : Bk} {B : Hp}
theorem kt_get : ∀ {ks : Kvs} {kvs : List (NK × D)}, Paired (KtR K B) ks kvs → ∀ k, (getN ks k = none ∧ getK kvs k = none) ∨ ∃ v d, getN ks k = some v ∧ getK kvs k = some d ∧ Rp K B v d
  | _, _, .nil, k => .inl ⟨rfl, rfl⟩
  | _, _, .cons (a := p) (b := q) (l₁ := l1) (l₂ := l2) h r, k => by
    obtain ⟨e1, e2, e3, rv⟩ := h
    by_cases c : p.1 = k
    · refine .inr ⟨p.2.2, q.2, ?_, ?_, rv⟩
      · unfold getN
        rw [List.find?_cons_of_pos (by simpa using c)]
        rfl
      · unfold getK
        rw [List.find?_cons_of_pos (by rw [← e1]; simpa using c)]
        rfl
    · have g1 : getN (p :: l1) k = getN l1 k := by
        unfold getN
        rw [List.find?_cons_of_neg (by simpa using c)]
      have g2 : getK (q :: l2) k = getK l2 k := by
        unfold getK
        rw [List.find?_cons_of_neg (by rw [← e1]; simpa using c)]
      rw [g1, g2]
      exact kt_get r k
theorem kt_snoc : ∀ {ks : Kvs} {kvs : List (NK × D)} {p : NK × Addr × V} {q : NK × D}, Paired (KtR K B) ks kvs → KtR K B p q → Paired (KtR K B) (ks ++ [p]) (kvs ++ [q])
  | _, _, _, _, .nil, h => .cons h .nil
  | _, _, _, _, .cons g r, h => .cons g (kt_snoc r h)
theorem kt_map {k : NK} {v : V} {d : D} (rv : Rp K B v d) : ∀ {ks : Kvs} {kvs : List (NK × D)}, Paired (KtR K B) ks kvs → Paired (KtR K B) (ks.map fun p => if p.1 = k then (p.1, p.2.1, v) else p) (kvs.map fun p => if p.1 = k then (p.1, d) else p)
  | _, _, .nil => .nil
  | _, _, .cons (a := p) (b := q) h r => by
    refine .cons ?_ (kt_map rv r)
    obtain ⟨e1, e2, e3, e4⟩ := h
    dsimp only
    by_cases c : p.1 = k
    · rw [if_pos c, if_pos (e1 ▸ c)]
      exact ⟨e1, e2, e3, rv⟩
    · rw [if_neg c, if_neg (e1 ▸ c)]
      exact ⟨e1, e2, e3, e4⟩
theorem kt_put {ks : Kvs} {kvs : List (NK × D)} {k : NK} {a : Addr} {v : V} {d : D} (h : Paired (KtR K B) ks kvs) (hk : Rp K B (.ref a) (dN k)) (hd : k.depth ≤ 8) (rv : Rp K B v d) : Paired (KtR K B) (putN ks k a v) (putK kvs k d) := by
  unfold putN putK
  rcases kt_get h k with ⟨e1, e2⟩ | ⟨v1, d1, e1, e2, _⟩
  · rw [e1, e2]
    exact kt_snoc h ⟨rfl, hd, hk, rv⟩
  · rw [e1, e2]
    exact kt_map rv h
theorem kt_len {ks : Kvs} {kvs : List (NK × D)} (h : Paired (KtR K B) ks kvs) : ks.length = kvs.length := Paired.length h
theorem kt_keys : ∀ {ks : Kvs} {kvs : List (NK × D)}, Paired (KtR K B) ks kvs → ∀ p ∈ ks, Dp K B (.ref p.2.1) (nkD p.1) ∧ p.1.depth ≤ 8
  | _, _, .nil, p, h => by cases h
  | _, _, .cons (a := a) (b := b) h r, p, hp => by
    rcases List.mem_cons.mp hp with z | z
    · obtain ⟨e1, e2, e3, _⟩ := h
      rw [z]
      have := e3.dp (pure_dN b.1)
      rw [toP_dN, ← e1] at this
      exact ⟨this, e2⟩
    · exact kt_keys r p z
end
section
variable {K : Bd}
theorem nd_at {F : Fx} {c : Cf} (R : Rep F c) {l : Addr} {ks : Kvs} {kvs : List (NK × D)} (h : c.H l = some (NdO F.P F.w l ks)) (r : Paired (KtR F.K c.B) ks kvs) : NdAt F.K F.P F.w c.H l ks :=
  ⟨.inl h, fun p hp => ⟨dp_ext R.le (kt_keys r p hp).1, (kt_keys r p hp).2⟩⟩
/-- what stands in slot i: a dict -/
theorem Rep.dct {F : Fx} {c : Cf} (R : Rep F c) {i : Nat} {kvs : List (NK × D)} (h : c.s.r[i]? = some (some (.dct kvs))) : ∃ l ks, c.σ[i]? = some (some (.ref l)) ∧ c.H l = some (NdO F.P F.w l ks) ∧ Paired (KtR F.K c.B) ks kvs ∧ c.B l = none ∧ (F.on = true → l ≠ F.b ∧ l ≠ F.c) := by
  obtain ⟨l, o, q1, q2, ⟨ks, rfl, q3⟩, q4, q5⟩ := R.at_ i _ h
  exact ⟨l, ks, q1, q2, q3, q4, q5⟩
/-! ### x = {} -/
def tDnew (P : Program) (w : World) : TE := fun _ H Q => ∀ p, H p = none → Q (.ref p) (upd H p (NdO P w p []))
def gsDct (i : Nat) : GS := fun s De => De.nx (s.put i (.dct []))
theorem ss_dct {i : Nat} : SS K (tAsg (tDnew K.P K.w) (L2.gName i)) (gsDct i) := by
  intro F hK c E De R p ok l hl
  subst hK
  obtain ⟨R1, G1⟩ := R.putH (o := NdO F.P F.w l []) hl
  obtain ⟨R2, hO⟩ := R1.setE (i := i) (v := .ref l) (e := .dct []) (fun q => ⟨l, NdO F.P F.w l [], List.getElem?_set_self q, upd_same, ⟨[], rfl, .nil⟩, R.notB hl, R.notBag hl⟩) (fun l' _ e => by cases e; exact fun m => R.notOwn hl (m.ofEq rfl rfl))
  refine ok.nx _ R2 ⟨G1.go.b, G1.go.fr, G1.go.nb, fun a m => ?_, G1.go.dom⟩ p
  rcases hO a m with z | ⟨_, z⟩
  · exact G1.go.ow a z
  · cases z; exact .inr hl
/-! ### d.get(k, x) -/
def gGet2 (i : Nat) (g1 g2 : GX) : GX := fun s Φ => (∃ kvs, s.r[i]? = some (some (.dct kvs))) ∧ g1 s fun w1 s1 => g2 s1 fun w2 s2 => ∃ kvs ks d s3, rd w1 s2 = some (dN (.tup ks)) ∧ (NestedKey.tup ks).depth ≤ 8 ∧ frz w2 s2 = some (d, s3) ∧ s3.r[i]? = some (some (.dct kvs)) ∧ Φ (.dat ((getK kvs (.tup ks)).getD d)) s3
theorem key_dp {F : Fx} {c : Cf} {v : V} {ks : List NK} (R : Rep F c) (h : Rq F c v (dN (.tup ks))) : ∃ t, v = .ref t ∧ Dp F.K c.H (.ref t) (nkD (.tup ks)) := by
  have := (h.rp R).dp (pure_dN (.tup ks))
  rw [toP_dN] at this
  have e : nkD (.tup ks) = .tuple (nkDs ks) := by simp [nkD]
  rw [e] at this
  cases this with
  | tup h1 h2 => exact ⟨_, rfl, by rw [e]; exact .tup h1 h2⟩
theorem Rq.go {F : Fx} {c c' : Cf} {v : V} {d : D} (h : Rq F c v d) (x : Ext c.B c'.B) (y : c'.H = c.H) : Rq F c' v d := by
  rcases h with h | ⟨l, vs, ds, e1, e2, h1, h2⟩
  · exact .inl (h.ext x)
  · exact .inr ⟨l, vs, ds, e1, e2, by rw [y]; exact h1, h2.ext x⟩
theorem se_get2 {i : Nat} {t1 t2 : TE} {g1 g2 : GX} (h1 : SE K t1 g1) (h2 : SE K t2 g2) : SE K (tDM K.P K.w (rGetN2 K K.P K.w) (tVar i) (tCons t1 (tCons t2 tNil))) (gGet2 i g1 g2) := by
  intro F hK c Φ Q R p q
  subst hK
  obtain ⟨⟨kv0, e0⟩, p⟩ := p
  obtain ⟨l, ks0, q1, q2, _⟩ := R.dct e0
  refine ⟨.ref l, q1, ⟨l, ks0, rfl, q2⟩, ?_⟩
  refine h1.run rfl rfl R p fun c1 v1 w1 R1 G1 D1 p1 => ?_
  refine h2.run rfl G1.σ R1 p1 fun c2 v2 w2 R2 G2 D2 p2 => ?_
  obtain ⟨kvs, ks, d, s3, e1, hd, e2, e3, p3⟩ := p2
  obtain ⟨c3, b1, b2, b3, x3, R3, G3, r⟩ := frz_ok R2 G2 D2 e2
  rw [← b2] at e3 p3
  obtain ⟨t, rfl, dk⟩ := key_dp R2 (rd_ok R2 (D1.keep G2) e1)
  obtain ⟨l', kv', y1, y2, y3, _⟩ := R3.dct e3
  have hσ : c3.σ[i]? = some (some (.ref l)) := by rw [G3.σ, G1.σ]; exact q1
  rw [hσ] at y1
  cases y1
  have n := nd_at R3 y2 y3
  rw [b1] at n
  refine ⟨l, t, .tup ks, kv', v2, rfl, rfl, dk, hd, n, ?_⟩
  rw [← b1]
  refine q c3 _ (.dat ((getK kvs (.tup ks)).getD d)) R3 (G1.trans G3) ?_ p3
  show Rp F.K c3.B _ _
  rcases kt_get y3 (.tup ks) with ⟨f1, f2⟩ | ⟨v, d', f1, f2, rv⟩
  · rw [f1, f2]; exact r
  · rw [f1, f2]; exact rv
/-! ### d[k] = v -/
def gsPutK (i : Nat) (ge gk : GX) : GS := fun s De => ge s fun w s1 => ∃ d s2, frz w s1 = some (d, s2) ∧ (∃ kvs, s2.r[i]? = some (some (.dct kvs))) ∧ gk s2 fun wk s3 => ∃ kvs ks s4, frz wk s3 = some (dN (.tup ks), s4) ∧ (NestedKey.tup ks).depth ≤ 8 ∧ s4.r[i]? = some (some (.dct kvs)) ∧ kvs.length < 1000000 ∧ De.nx (s4.put i (.dct (putK kvs (.tup ks) d)))
theorem ss_putK {i : Nat} {t tk : TE} {ge gk : GX} (h1 : SE K t ge) (h2 : SE K tk gk) : SS K (tAsg t (gSub (tVar i) tk (rSetN K K.P K.w))) (gsPutK i ge gk) := by
  intro F hK c E De R p ok
  subst hK
  refine h1 F rfl c _ _ R p fun c1 v w R1 G1 D1 p1 => ?_
  obtain ⟨d, s2, e1, ⟨kv0, e0⟩, p2⟩ := p1
  obtain ⟨c2, b1, b2, b3, x2, R2, G2, r⟩ := frz_ok R1 G1 D1 e1
  rw [← b2] at e0 p2
  obtain ⟨l, ks0, q1, q2, _⟩ := R2.dct e0
  rw [← b1]
  refine ⟨.ref l, by rw [← G2.σ]; exact q1, ?_⟩
  refine h2.run rfl G2.σ R2 p2 fun c3 vk wk R3 G3 D3 p3 => ?_
  obtain ⟨kvs, ks, s4, e3, hd, e4, hl, p4⟩ := p3
  obtain ⟨c4, b4, b5, b6, x4, R4, G4, rk⟩ := frz_ok R3 G3 D3 e3
  rw [← b5] at e4 p4
  have hσ : c4.σ[i]? = some (some (.ref l)) := by rw [G4.σ]; exact q1
  obtain ⟨l', kv', y1, y2, y3, y4, _⟩ := R4.dct e4
  rw [hσ] at y1
  cases y1
  obtain ⟨t, rfl, dk⟩ := key_dp R4 (.inl rk)
  have n := nd_at R4 y2 y3
  have rv : Rp F.K c4.B v d := r.ext G4.go.b
  obtain ⟨R5, G5⟩ := R4.updE (e' := .dct (putK kvs (.tup ks) d)) (o' := NdO F.P F.w l (putN kv' (.tup ks) t v)) e4 rfl hσ ⟨_, rfl, kt_put y3 rk hd rv⟩
  refine ⟨l, t, .tup ks, kv', rfl, rfl, by rw [← b4]; exact dk, hd, by rw [← b4]; exact n, by rw [← b4]; exact y2, by rw [kt_len y3, sizeLine_eq]; omega, ?_⟩
  have key := ok.nxE R5 ((G2.trans G4).trans G5) p4
  rw [← b4]
  exact key
/-! ### k in d -/
def gInK (neg : Bool) (i : Nat) (g : GX) : GX := fun s Φ => g s fun w s1 => ∃ kvs ks, rd w s1 = some (dN (.tup ks)) ∧ (NestedKey.tup ks).depth ≤ 8 ∧ s1.r[i]? = some (some (.dct kvs)) ∧ Φ (.dat (.bl (if neg then !(getK kvs (.tup ks)).isSome else (getK kvs (.tup ks)).isSome))) s1
theorem se_inK {neg : Bool} {i : Nat} {t : TE} {g : GX} (h : SE K t g) : SE K (tOp (rInN K K.P K.w neg) t (tVar i)) (gInK neg i g) := by
  intro F hK c Φ Q R p q
  subst hK
  refine h F rfl c _ _ R p fun c1 v w R1 G1 D1 p1 => ?_
  obtain ⟨kvs, ks, e1, hd, e2, p2⟩ := p1
  obtain ⟨t, rfl, dk⟩ := key_dp R1 (rd_ok R1 D1 e1)
  obtain ⟨l, kv', y1, y2, y3, _⟩ := R1.dct e2
  refine ⟨.ref l, by rw [← G1.σ]; exact y1, t, l, .tup ks, kv', rfl, rfl, dk, hd, nd_at R1 y2 y3, ?_⟩
  have e : (getN kv' (.tup ks)).isSome = (getK kvs (.tup ks)).isSome := by
    rcases kt_get y3 (.tup ks) with ⟨f1, f2⟩ | ⟨v, d', f1, f2, rv⟩
    · rw [f1, f2]; rfl
    · rw [f1, f2]; rfl
  rw [e]
  exact q c1 _ (.dat (.bl _)) R1 G1 (Rp.bl _) p2
/-! ### d[k] -/
def gIxK (i : Nat) (g : GX) : GX := fun s Φ => (∃ kvs, s.r[i]? = some (some (.dct kvs))) ∧ g s fun w s1 => ∃ kvs ks d, rd w s1 = some (dN (.tup ks)) ∧ (NestedKey.tup ks).depth ≤ 8 ∧ s1.r[i]? = some (some (.dct kvs)) ∧ getK kvs (.tup ks) = some d ∧ Φ (.dat d) s1
theorem se_ixK {i : Nat} {t : TE} {g : GX} (h : SE K t g) : SE K (tOp (rIxN K K.P K.w) (tVar i) t) (gIxK i g) := by
  intro F hK c Φ Q R p q
  subst hK
  obtain ⟨⟨kv0, e0⟩, p⟩ := p
  obtain ⟨l, ks0, q1, q2, _⟩ := R.dct e0
  refine ⟨.ref l, q1, ?_⟩
  refine h.run rfl rfl R p fun c1 v w R1 G1 D1 p1 => ?_
  obtain ⟨kvs, ks, d, e1, hd, e2, e3, p2⟩ := p1
  obtain ⟨t, rfl, dk⟩ := key_dp R1 (rd_ok R1 D1 e1)
  obtain ⟨l', kv', y1, y2, y3, _⟩ := R1.dct e2
  rw [G1.σ, q1] at y1
  cases y1
  rcases kt_get y3 (.tup ks) with ⟨f1, f2⟩ | ⟨v, d', f1, f2, rv⟩
  · rw [f2] at e3; cases e3
  · rw [f2] at e3
    cases e3
    exact ⟨l, t, .tup ks, kv', v, rfl, rfl, dk, hd, nd_at R1 y2 y3, f1, q c1 _ (.dat d) R1 G1 rv p2⟩
/-! ### sorted(d.items()) -/
def itD (p : NK × D) : D := .tup [dN p.1, p.2]
def okIt (kvs : List (NK × D)) : Prop := (∀ p ∈ kvs, pureD p.2 = true ∧ (toP (itD p)).depth ≤ 8) ∧ PySem.W.AllAlike (kvs.map fun p => toP (itD p))
def gSortIt (i : Nat) : GX := fun s Φ => ∃ kvs, s.r[i]? = some (some (.dct kvs)) ∧ okIt kvs ∧ Φ (.new (sortD (kvs.map itD))) s
theorem kt_zip {B : Hp} {ks : Kvs} {kvs : List (NK × D)} (h : Paired (KtR K B) ks kvs) : ∀ z ∈ ks.zip kvs, KtR K B z.1 z.2 := by
  induction h with
  | nil => intro z hz; cases hz
  | @cons a b l1 l2 r t ih =>
    intro z hz
    rcases List.mem_cons.mp hz with y | y
    · rw [y]; exact r
    · exact ih z y
theorem se_sortIt {i : Nat} : SE K (tCB (rSortIN K K.P K.w) (tCons (tDM0 K.P K.w (rItemsN K.P K.w) (tVar i)) tNil)) (gSortIt i) := by
  intro F hK c Φ Q R p q
  subst hK
  obtain ⟨kvs, e0, ⟨ok1, ok2⟩, p⟩ := p
  obtain ⟨l, ks, q1, q2, q3, _⟩ := R.dct e0
  refine ⟨.ref l, q1, ⟨l, ks, rfl, q2⟩, l, ks, rfl, rfl, q2, fun v hv => ?_⟩
  obtain ⟨R1, G1⟩ := R.putH (o := L2.DX.itemsO v l) hv
  have hlv : l ≠ v := ne_of_none q2 hv
  have xH : Ext c.H (upd c.H v (L2.DX.itemsO v l)) := Ext.upd hv
  have hlen := kt_len q3
  have zf : (ks.zip kvs).map (·.1) = ks := List.map_fst_zip (by omega)
  have zs : (ks.zip kvs).map (·.2) = kvs := List.map_snd_zip (by omega)
  have hz := kt_zip (K := F.bd) q3
  refine ⟨v, l, ks, (ks.zip kvs).map fun z => (V.ref z.1.2.1, z.1.2.2, toP (dN z.2.1), toP z.2.2), rfl, upd_same, by rw [upd_ne hlv]; exact q2, ?_, ?_, ?_, ?_⟩
  · rw [List.map_map]
    have := congrArg (List.map fun e : NK × Addr × V => (V.ref e.2.1, e.2.2)) zf
    rw [List.map_map] at this
    exact this.symm
  · intro z hzm
    obtain ⟨y, hy, rfl⟩ := List.mem_map.mp hzm
    obtain ⟨a1, a2, a3, a4⟩ := hz y hy
    have ym : y.2 ∈ kvs := (List.of_mem_zip hy).2
    obtain ⟨o1, o2⟩ := ok1 _ ym
    refine ⟨dp_ext (R.le.trans xH) (a3.dp (pure_dN _)), dp_ext (R.le.trans xH) (a4.dp o1), ?_⟩
    have e : toP (itD y.2) = .tuple [toP (dN y.2.1), toP y.2.2] := by simp [itD, toP, toPs]
    rw [e] at o2
    exact o2
  · have e : ((ks.zip kvs).map fun z => (V.ref z.1.2.1, z.1.2.2, toP (dN z.2.1), toP z.2.2)).map enc4 = kvs.map fun p => toP (itD p) := by
      rw [List.map_map]
      have := congrArg (List.map fun p : NK × D => toP (itD p)) zs
      rw [List.map_map] at this
      refine Eq.trans (List.map_congr_left fun z _ => ?_) this
      show PyData.tuple [toP (dN z.2.1), toP z.2.2] = toP (itD z.2)
      simp [itD, toP, toPs]
    rw [e]
    exact ok2
  · intro H' r bs x1 eb hr hH' hb
    -- the things that are new
    have hB' : ∀ a o, c.B a = some o → H' a = some o := fun a o e => x1 a o (xH a o (R.le a o e))
    let B' : Hp := fun a => if (upd c.H v (L2.DX.itemsO v l)) a = none ∧ a ≠ r then H' a else c.B a
    have xB : Ext c.B B' := fun a o e => by
      show (if (upd c.H v (L2.DX.itemsO v l)) a = none ∧ a ≠ r then H' a else c.B a) = some o
      rw [if_neg (fun z => by rw [xH a o (R.le a o e)] at z; exact absurd z.1 (fun y => nomatch y))]
      exact e
    have leB : Ext B' H' := fun a o e => by
      have e' : (if (upd c.H v (L2.DX.itemsO v l)) a = none ∧ a ≠ r then H' a else c.B a) = some o := e
      split at e'
      · exact e'
      · exact hB' a o e'
    have oldB : ∀ a o, (upd c.H v (L2.DX.itemsO v l)) a = some o → B' a = c.B a := fun a o e => by
      show (if (upd c.H v (L2.DX.itemsO v l)) a = none ∧ a ≠ r then H' a else c.B a) = c.B a
      rw [if_neg (fun z => by rw [e] at z; exact absurd z.1 (fun y => nomatch y))]
    have hrB : B' r = none := by
      show (if (upd c.H v (L2.DX.itemsO v l)) r = none ∧ r ≠ r then H' r else c.B r) = none
      rw [if_neg (fun z => z.2 rfl)]
      exact R1.notB hr
    have newB : ∀ a, (upd c.H v (L2.DX.itemsO v l)) a = none → a ≠ r → B' a = H' a := fun a e n => by
      show (if (upd c.H v (L2.DX.itemsO v l)) a = none ∧ a ≠ r then H' a else c.B a) = H' a
      rw [if_pos ⟨e, n⟩]
    have R2 : Rep F { c with B := B', H := H' } := by
      refine ⟨leB, R.len, fun j e h => ?_, R.sep, fun on => ?_⟩
      · have y := R1.at_ j e h
        cases e with
        | val d => obtain ⟨u, y1, y2⟩ := y; exact ⟨u, y1, y2.ext xB⟩
        | bag => exact y
        | _ =>
          obtain ⟨a, o, y1, y2, y3, y4, y5⟩ := y
          exact ⟨a, o, y1, x1 _ _ y2, y3.ext xB, (oldB a o y2).trans y4, y5⟩
      · obtain ⟨y1, y2, y3⟩ := R1.bag on
        obtain ⟨t, rr, g1, g2, _⟩ := id y1
        exact ⟨y1.ext x1, (oldB _ _ g1).trans y2, (oldB _ _ g2).trans y3⟩
    have G2 : GoE F c { c with B := B', H := H' } := by
      refine ⟨⟨xB, fun a o e _ => x1 a o (xH a o e), fun a e n => .inl ?_, fun a m => .inl (m.ofEq rfl rfl), fun a e => ?_⟩, rfl, fun j e h => ⟨e, h⟩⟩
      · cases q : c.H a with
        | none => rfl
        | some o => exact absurd ((oldB a o (xH a o q)).trans n) e
      · cases q : c.H a with
        | none => exact absurd q e
        | some o => show H' a ≠ none; rw [x1 a o (xH a o q)]; exact fun y => nomatch y
    have hc : c.H r = none := by
      cases q : c.H r with
      | none => rfl
      | some o => rw [xH r o q] at hr; cases hr
    -- the pairs with their data
    have lb : bs.length = kvs.length := by
      have := congrArg List.length eb
      rw [List.length_map, List.length_map, List.length_zip] at this
      omega
    have bf : (bs.zip kvs).map (·.1) = bs := List.map_fst_zip (by omega)
    have bss : (bs.zip kvs).map (·.2) = kvs := List.map_snd_zip (by omega)
    have pair : ∀ z ∈ bs.zip kvs, Rp F.K B' (.ref z.1.1) (itD z.2) ∧ enc5 z.1 = toP (itD z.2) := by
      intro z hzm
      obtain ⟨j, j1, j2⟩ := zip_get hzm
      have m := congrArg (fun l => l[j]?) eb
      have hjk : j < ks.length := by
        have := (List.getElem?_eq_some_iff.mp j2).1
        omega
      have hzz : (ks.zip kvs)[j]? = some (ks[j], z.2) := List.getElem?_zip_eq_some.mpr ⟨List.getElem?_eq_getElem hjk, j2⟩
      simp only [List.getElem?_map, j1, hzz, Option.map_some, Option.some.injEq] at m
      obtain ⟨a1, a2, a3, a4⟩ := hz _ (List.mem_of_getElem? hzz)
      obtain ⟨g1, g2, g3⟩ := hb z.1 (List.mem_of_getElem? j1)
      rw [m] at g3
      constructor
      · refine .tup (SqT.of ((newB _ g1 g2).trans g3)) (.cons (a3.ext xB) (.cons (a4.ext xB) .nil))
      · show enc4 z.1.2 = _
        rw [m]
        show PyData.tuple [toP (dN z.2.1), toP z.2.2] = toP (itD z.2)
        simp [itD, toP, toPs]
    have es1 : bs.mergeSort (PySem.W.dataLe false enc5) = ((bs.zip kvs).mergeSort fun a b => leD (itD a.2) (itD b.2)).map (·.1) := by
      rw [PySem.W.sort_maps (fun z : It5 × (NK × D) => z.1) (s := PySem.W.dataLe false enc5) (fun a ha b hb' => ?_), bf]
      show leD (itD a.2) (itD b.2) = PySem.W.dataLe false enc5 a.1 b.1
      rw [PySem.W.dataLe_eq, leD, PySem.W.dataLe_eq]
      show (!PySem.W.dataLt (toP (itD b.2)) (toP (itD a.2))) = (!PySem.W.dataLt (enc5 b.1) (enc5 a.1))
      rw [(pair a ha).2, (pair b hb').2]
    have es2 : sortD (kvs.map itD) = ((bs.zip kvs).mergeSort fun a b => leD (itD a.2) (itD b.2)).map fun z => itD z.2 := by
      unfold sortD
      rw [PySem.W.sort_maps (fun z : It5 × (NK × D) => itD z.2) (s := leD) (fun a _ b _ => rfl)]
      have := congrArg (List.map itD) bss
      rw [List.map_map] at this
      rw [← this]
      rfl
    have rr : RpA F.K B' ((bs.mergeSort (PySem.W.dataLe false enc5)).map fun b => V.ref b.1) (sortD (kvs.map itD)) := by
      rw [es1, es2, List.map_map]
      have key : ∀ L : List (It5 × (NK × D)), (∀ z ∈ L, Rp F.K B' (.ref z.1.1) (itD z.2)) → RpA F.K B' (L.map fun z => V.ref z.1.1) (L.map fun z => itD z.2) := by
        intro L
        induction L with
        | nil => intro _; exact .nil
        | cons z L ih => intro h; exact .cons (h z List.mem_cons_self) (ih fun y hy => h y (List.mem_cons_of_mem _ hy))
      exact key _ fun z hzm => (pair z ((List.mergeSort_perm _ _).mem_iff.mp hzm)).1
    refine q { c with B := B', H := H' } (.ref r) (.new (sortD (kvs.map itD))) R2 G2 ⟨r, _, rfl, hH', rr, hrB, fun m => R.notOwn hc (m.ofEq rfl rfl), R.notBag hc, hc⟩ p
/-! ### max(l, default=d) -/
def maxOr (ns : List Int) (d : Int) : Int := match ns with
  | [] => d
  | n :: ns => ns.foldl max n
def rMaxDf (K : PySem.W.Frag) : List V → List V → Hp → VK → Prop := fun xs zs H Q => ∃ (a : Addr) (ns : List Int) (d : Int), xs = [.ref a] ∧ zs = [.int d] ∧ SqL K H a (ns.map V.int) ∧ Q (.int (maxOr ns d)) H
theorem alikeAll_ints' (ns : List Int) : PySem.W.AlikeAll (ns.map PyData.int) := by
  constructor
  · intro d hd d' hd'
    obtain ⟨b, _, rfl⟩ := List.mem_map.mp hd
    obtain ⟨b', _, rfl⟩ := List.mem_map.mp hd'
    simp only [PySem.W.alike]
  · intro d hd
    obtain ⟨b, _, rfl⟩ := List.mem_map.mp hd
    intro z
    cases z
theorem reads_int {h : Heap} {v : Value} {i : Int} {as : List Addr} (r : Reads h v (.int i) as) : ∃ t, v = .int i t := by
  cases r
  exact ⟨_, rfl⟩
theorem call_maxDf {X : Cx} (hc : X.calm = true) (hu : X.A.units + 64 < cLine) : CallRK X (.builtin "max") [("default" : Str)] (rMaxDf X.K) := by
  intro pins s σ H xs zs us ws Q I r rz h
  obtain ⟨a, ns, d, rfl, rfl, hs, q⟩ := h
  obtain ⟨u, rfl, ru⟩ := vals1 r
  obtain rfl : u = Value.ref a := ru
  obtain ⟨v, rfl, rv⟩ := vals1 rz
  obtain ⟨its, rl, pl, hz⟩ := I.list hs
  have hdp : DpAll X.K H (ns.map V.int) (ns.map PyData.int) := by
    clear hs rl hz q
    induction ns with
    | nil => exact .nil
    | cons n ns ih => exact .cons (.int n) ih
  obtain ⟨as, h4⟩ := Dp.readsAll I _ _ its hdp rl
  have hd0 : PyData.depthAll (ns.map PyData.int) = 0 := PySem.W.depth_ints ns
  refine PySem.W.max_list_default (l := a) (vs := its.toArray) (xs := ns.map PyData.int) (I.ok.hd hc) pl.isList (show ReadsAll s.heap its.toArray.toList (ns.map PyData.int) as from h4) (alikeAll_ints' ns) (by rw [hd0]; omega) (fun e h' tk hk => ?_) fun y ys i v' h' tk bs e hv hr hk => ?_
  · have e' : ns = [] := by simpa using e
    subst e'
    have I1 : Inv X pins σ H { s with heap := h', toks := tk } := I.kept (t' := tk) hk
    exact ⟨.int d, H, I1, rv, q⟩
  · cases ns with
    | nil => cases e
    | cons n ns =>
      rw [List.map_cons] at e
      injection e with e1 e2
      subst e1 e2
      rw [PySem.W.maxD_ints] at hr
      obtain ⟨t, rfl⟩ := reads_int hr
      have I1 : Inv X pins σ H { s with heap := h', toks := tk } := I.kept (t' := tk) hk
      exact ⟨.int (ns.foldl max n), H, I1, ⟨t, rfl⟩, q⟩
def gMaxDf (g1 g2 : GX) : GX := fun s Φ => g1 s fun w1 s1 => ∃ ds, frz w1 s1 = some (.lst ds, s1) ∧ g2 s1 fun w2 s2 => ∃ ns d, rd (.dat (.lst ds)) s2 = some (.lst (ns.map D.int)) ∧ rd w2 s2 = some (.int d) ∧ Φ (.dat (.int (maxOr ns d))) s2
def gMaxA (ga gk : GA) : GX := fun s Φ => ga s fun ws s1 => gk s1 fun us s2 => ∃ ns d, rdA ws s2 = some [.lst (ns.map D.int)] ∧ rdA us s2 = some [.int d] ∧ Φ (.dat (.int (maxOr ns d))) s2
theorem rpa_ints {K : Bk} {B : Hp} {vs : List V} {ns : List Int} (r : RpA K B vs (ns.map D.int)) : vs = ns.map V.int := by
  induction ns generalizing vs with
  | nil => cases r; rfl
  | cons n ns ih =>
    rw [List.map_cons] at r
    cases r with
    | cons h t =>
      cases h
      rw [ih t]
      rfl
theorem se_maxA {t tk : TA} {ga gk : GA} (h1 : SA K t ga) (h2 : SA K tk gk) : SE K (tCKw (rMaxDf K) t tk) (gMaxA ga gk) := by
  intro F hK c Φ Q R p q
  subst hK
  refine h1 F rfl c _ _ R p fun c1 vs ws R1 G1 D1 p1 => ?_
  refine h2.run rfl G1.σ rfl R1 p1 fun c2 zs us R2 G2 D2 p2 => ?_
  obtain ⟨ns, d, e1, e2, p3⟩ := p2
  have r1 := rdA_ok R2 (DenA.keep G2 D1) e1
  have r2 := rdA_ok R2 D2 e2
  cases r1 with
  | cons a1 t1 =>
    cases t1
    cases r2 with
    | cons a2 t2 =>
      cases t2
      obtain ⟨a, vs, rfl, h1, h2⟩ := a1.lst R2
      have hv := rpa_ints h2
      subst hv
      have := a2.int
      subst this
      exact ⟨a, ns, d, rfl, rfl, SqL.of h1, q c2 _ (.dat (.int _)) R2 (G1.trans G2) (Rp.int _) p3⟩
end
end DL
set_option maxHeartbeats 2000000
/-! Defs and their calls over data. -/
namespace DL
open PySem PySem.Spec PyProof.Rows L2 Ax
abbrev GF := List D → (D → Prop) → Prop
abbrev GFB := List D → Nat → (D → Nat → Prop) → Prop
/-- a def that makes new things alone -/
def spP (K : Bd) (G : GF) : Sp := fun vs H Q _ => ∃ (B : Hp) (ds : List D) (Φ : D → Prop), Ext B H ∧ RpA K B vs ds ∧ G ds Φ ∧
  ∀ (B' H' : Hp) (v : V) (d : D), Ext B B' → Ext B' H' → Ext H H' → (∀ a, B' a ≠ none → B a = none → H a = none) → Rp K B' v d → Φ d → Q v H'
/-- a def that draws from the bag, its first argument -/
def spB (K : Bd) (G : GFB) : Sp := fun vs H Q _ => ∃ (B : Hp) (b c : Addr) (ms : List Int) (n : Nat) (us : List V) (ds : List D) (Φ : D → Nat → Prop), vs = .ref b :: us ∧ BagAt H b c ms n ∧ B b = none ∧ B c = none ∧ Ext B H ∧ RpA K B us ds ∧ G ds n Φ ∧
  ∀ (B' H' : Hp) (v : V) (d : D) (n' : Nat), Ext B B' → Ext B' H' → (∀ a o, a ≠ b → H a = some o → H' a = some o) → (∀ a, B' a ≠ none → B a = none → H a = none) → BagAt H' b c ms n' → Rp K B' v d → Φ d n' → Q v H'
section
variable {K : Bd}
theorem Rep.grow {F : Fx} {c : Cf} (R : Rep F c) {B' H' : Hp} (x1 : Ext c.B B') (x2 : Ext B' H') (x3 : Ext c.H H') (nb : ∀ a, B' a ≠ none → c.B a = none → c.H a = none) : Rep F { c with B := B', H := H' } ∧ GoE F c { c with B := B', H := H' } := by
  have out : ∀ {a : Addr} {o : HO}, c.H a = some o → c.B a = none → B' a = none := fun {a o} h1 h2 => by
    cases q : B' a with
    | none => rfl
    | some u => have := nb a (by rw [q]; exact fun z => nomatch z) h2; rw [h1] at this; cases this
  refine ⟨⟨x2, R.len, fun j e h => ?_, R.sep, fun on => ?_⟩, ⟨⟨x1, fun a o e _ => x3 a o e, fun a e n => .inl (nb a e n), fun a m => .inl (m.ofEq rfl rfl), fun a e => ?_⟩, rfl, fun j e h => ⟨e, h⟩⟩⟩
  · have y := R.at_ j e h
    cases e with
    | val d => obtain ⟨u, y1, y2⟩ := y; exact ⟨u, y1, y2.ext x1⟩
    | bag => exact y
    | _ =>
      obtain ⟨a, o, y1, y2, y3, y4, y5⟩ := y
      exact ⟨a, o, y1, x3 _ _ y2, y3.ext x1, out y2 y4, y5⟩
  · obtain ⟨y1, y2, y3⟩ := R.bag on
    obtain ⟨t, r, g1, g2, _⟩ := id y1
    exact ⟨y1.ext x3, out g1 y2, out g2 y3⟩
  · cases q : c.H a with
    | none => exact absurd q e
    | some o => show H' a ≠ none; rw [x3 a o q]; exact fun z => nomatch z
theorem Rep.growB {F : Fx} {c : Cf} (R : Rep F c) (on : F.on = true) {B' H' : Hp} {n' : Nat} (x1 : Ext c.B B') (x2 : Ext B' H') (x3 : ∀ a o, a ≠ F.b → c.H a = some o → H' a = some o) (nb : ∀ a, B' a ≠ none → c.B a = none → c.H a = none) (hb : BagAt H' F.b F.c F.ms n') :
    Rep F { c with B := B', H := H', s := { c.s with n := n' } } ∧ GoE F c { c with B := B', H := H', s := { c.s with n := n' } } := by
  have out : ∀ {a : Addr} {o : HO}, c.H a = some o → c.B a = none → B' a = none := fun {a o} h1 h2 => by
    cases q : B' a with
    | none => rfl
    | some u => have := nb a (by rw [q]; exact fun z => nomatch z) h2; rw [h1] at this; cases this
  obtain ⟨y1, y2, y3⟩ := R.bag on
  obtain ⟨t, r, g1, g2, _⟩ := id y1
  refine ⟨⟨x2, R.len, fun j e h => ?_, R.sep, fun _ => ⟨hb, out g1 y2, out g2 y3⟩⟩, ⟨⟨x1, fun a o e n => x3 a o (fun z => n (.inr ⟨on, z⟩)) e, fun a e n => .inl (nb a e n), fun a m => .inl m, fun a e => ?_⟩, rfl, fun j e h => ⟨e, h⟩⟩⟩
  · have y := R.at_ j e h
    cases e with
    | val d => obtain ⟨u, y1, y2⟩ := y; exact ⟨u, y1, y2.ext x1⟩
    | bag => exact y
    | _ =>
      obtain ⟨a, o, y1, y2, y3, y4, y5⟩ := y
      exact ⟨a, o, y1, x3 _ _ (y5 on).1 y2, y3.ext x1, out y2 y4, y5⟩
  · cases q : c.H a with
    | none => exact absurd q e
    | some o =>
      show H' a ≠ none
      by_cases z : a = F.b
      · obtain ⟨_, _, z1, _⟩ := hb
        rw [z, z1]; exact fun x => nomatch x
      · rw [x3 a o z q]; exact fun z => nomatch z
/-! ### calls -/
/-- f(e, ..), dv the defaults that fill up, dd what they are -/
def gCall (G : GF) (dd : List D) (ga : GA) : GX := fun s Φ => ga s fun ws s1 => ∃ ds s2, frzA ws s1 = some (ds, s2) ∧ G (ds ++ dd) fun d => Φ (.dat d) s2
theorem se_call {G : GF} {dv : List V} {dd : List D} {E : XK} {t : TA} {ga : GA} (hd : ∀ B : Hp, RpA K B dv dd) (h : SA K t ga) : SE K (tCall (spP K G) dv E t) (gCall G dd ga) := by
  intro F hK c Φ Q R p q
  subst hK
  refine h F rfl c _ _ R p fun c1 vs ws R1 G1 D1 p1 => ?_
  obtain ⟨ds, s2, e1, g⟩ := p1
  obtain ⟨c2, b1, b2, R2, G2, r⟩ := frzA_ok R1 D1 e1
  refine ⟨c2.B, ds ++ dd, _, by rw [← b1]; exact R2.le, r.app (hd _), g, fun B' H' v d x1 x2 x3 nb rv hΦ => ?_⟩
  rw [← b1] at x3 nb
  obtain ⟨R3, G3⟩ := R2.grow x1 x2 x3 nb
  exact q _ v (.dat d) R3 ((G1.trans G2).trans G3) rv (by rw [← b2] at hΦ; exact hΦ)
/-- f(e, .., k=e) -/
def gCallKw (G : GF) (gV : List D → List D → List D) (ga gk : GA) : GX := fun s Φ => ga s fun ws s1 => gk s1 fun us s2 => ∃ ds es s3 s4, frzA ws s2 = some (ds, s3) ∧ frzA us s3 = some (es, s4) ∧ G (gV ds es) fun d => Φ (.dat d) s4
theorem se_callKw {G : GF} {gV : List V → List V → List V} {gD : List D → List D → List D} {E : XK} {t tk : TA} {ga gk : GA} (hg : ∀ (B : Hp) (vs zs : List V) (ds es : List D), RpA K B vs ds → RpA K B zs es → RpA K B (gV vs zs) (gD ds es)) (h : SA K t ga) (h2 : SA K tk gk) : SE K (tCallK (spP K G) gV E t tk) (gCallKw G gD ga gk) := by
  intro F hK c Φ Q R p q
  subst hK
  refine h F rfl c _ _ R p fun c1 vs ws R1 G1 D1 p1 => ?_
  refine h2.run rfl G1.σ rfl R1 p1 fun c2 zs us R2 G2 D2 p2 => ?_
  obtain ⟨ds, es, s3, s4, e1, e2, g⟩ := p2
  obtain ⟨c3, b1, b2, R3, G3, r⟩ := frzA_ok R2 (DenA.keep G2 D1) e1
  obtain ⟨c4, b3, b4, R4, G4, r'⟩ := frzA_ok R3 (DenA.keep G3 D2) (by rw [b2]; exact e2)
  have bH : c4.H = c2.H := b3.trans b1
  refine ⟨c4.B, gD ds es, _, by rw [← bH]; exact R4.le, hg _ _ _ _ _ (r.ext G4.go.b) r', g, fun B' H' v d x1 x2 x3 nb rv hΦ => ?_⟩
  rw [← bH] at x3 nb
  obtain ⟨R5, G5⟩ := R4.grow x1 x2 x3 nb
  exact q _ v (.dat d) R5 ((((G1.trans G2).trans G3).trans G4).trans G5) rv (by rw [← b4] at hΦ; exact hΦ)
/-- f(e, ..): the lists of one's own stay so, the answer is flat -/
def flatD : D → Bool
  | .lst _ => false
  | .tup _ => false
  | .tpz _ => false
  | .ins _ _ _ => false
  | .dic _ _ => false
  | .dnk _ _ => false
  | _ => true
theorem flat_rp {K : Bk} {B B' : Hp} {v : V} {d : D} (h : Rp K B v d) (f : flatD d = true) : Rp K B' v d := by
  cases h with
  | non => exact .non
  | bl b => exact .bl b
  | int i => exact .int i
  | str x => exact .str x
  | _ => cases f
def gPeek (G : GF) (dd : List D) (ga : GA) : GX := fun s Φ => ga s fun ws s1 => ∃ ds, rdA ws s1 = some ds ∧ G (ds ++ dd) fun d => flatD d = true ∧ Φ (.dat d) s1
theorem rq_all {F : Fx} {c : Cf} (R : Rep F c) : ∀ {vs : List V} {ds : List D}, Paired (Rq F c) vs ds → RpA F.K c.H vs ds
  | _, _, .nil => .nil
  | _, _, .cons h t => .cons (h.rp R) (rq_all R t)
theorem se_peek {G : GF} {dv : List V} {dd : List D} {E : XK} {t : TA} {ga : GA} (hd : ∀ B : Hp, RpA K B dv dd) (h : SA K t ga) : SE K (tCall (spP K G) dv E t) (gPeek G dd ga) := by
  intro F hK c Φ Q R p q
  subst hK
  refine h F rfl c _ _ R p fun c1 vs ws R1 G1 D1 p1 => ?_
  obtain ⟨ds, e1, g⟩ := p1
  refine ⟨c1.H, ds ++ dd, _, Ext.rfl', (rq_all R1 (rdA_ok R1 D1 e1)).app (hd _), g, fun B' H' v d x1 x2 x3 nb rv hΦ => ?_⟩
  obtain ⟨R3, G3⟩ := R1.grow (B' := c1.B) (H' := H') Ext.rfl' (R1.le.trans x3) x3 (fun a e n => absurd n e)
  exact q _ v (.dat d) R3 (G1.trans G3) (flat_rp rv hΦ.1) hΦ.2
/-- f(bag, e, ..) -/
def gCallB (i : Nat) (G : GFB) (ga : GA) : GX := fun s Φ => s.r[i]? = some (some .bag) ∧ ga s fun ws s1 => ∃ ds s2, frzA ws s1 = some (ds, s2) ∧ G ds s2.n fun d n' => Φ (.dat d) { s2 with n := n' }
theorem se_callB {i : Nat} {G : GFB} {E : XK} {t : TA} {ga : GA} (h : SA K t ga) : SE K (tCall (spB K G) [] E (tCons (tVar i) t)) (gCallB i G ga) := by
  intro F hK c Φ Q R p q
  subst hK
  obtain ⟨hi, p⟩ := p
  have y := R.at_ i _ hi
  have on : F.on = true := y.1
  have y2 : c.σ[i]? = some (some (.ref F.b)) := y.2
  refine ⟨.ref F.b, y2, h F rfl c _ _ R p fun c1 vs ws R1 G1 D1 p1 => ?_⟩
  obtain ⟨ds, s2, e1, g⟩ := p1
  obtain ⟨c2, b1, b2, R2, G2, r⟩ := frzA_ok R1 D1 e1
  obtain ⟨z1, z2, z3⟩ := R2.bag on
  rw [← b2] at g
  refine ⟨c2.B, F.b, F.c, F.ms, c2.s.n, vs, ds, _, by rw [List.append_nil], by rw [← b1]; exact z1, z2, z3, by rw [← b1]; exact R2.le, r, g, fun B' H' v d n' x1 x2 x3 nb hb rv hΦ => ?_⟩
  rw [← b1] at x3 nb
  obtain ⟨R3, G3⟩ := R2.growB on x1 x2 x3 nb hb
  exact q _ v (.dat d) R3 ((G1.trans G2).trans G3) rv hΦ
/-! ### what a def gives back -/
theorem outB {F : Fx} {c0 c' : Cf} {v : V} {w : W} {d : D} {s' : Stt} (R : Rep F c') (g : Go F c0 c') (n0 : ∀ a, ¬ Own c0 a) (h : Den F c0.H c' v w) (e : frz w c'.s = some (d, s')) :
    ∃ B', Ext c'.B B' ∧ Ext B' c'.H ∧ Rp F.K B' v d ∧ ∀ a, B' a ≠ none → c0.B a = none → c0.H a = none := by
  have base : ∀ a, c'.B a ≠ none → c0.B a = none → c0.H a = none := fun a e n => (g.nb a e n).elim id fun z => absurd z (n0 a)
  have any : ∀ (l : Addr) (o : HO) (d1 : D), c'.H l = some o → Rp F.K (upd c'.B l o) (.ref l) d1 → c'.B l = none → c0.H l = none →
      ∃ B', Ext c'.B B' ∧ Ext B' c'.H ∧ Rp F.K B' (.ref l) d1 ∧ ∀ a, B' a ≠ none → c0.B a = none → c0.H a = none := by
    intro l o d1 h1 h2 h3 h4
    refine ⟨upd c'.B l o, Ext.upd h3, fun a u e => ?_, h2, fun a e n => ?_⟩
    · by_cases z : a = l
      · rw [z, upd_same] at e
        rw [z, h1]; exact e
      · rw [upd_ne z] at e
        exact R.le a u e
    · by_cases z : a = l
      · rw [z]; exact h4
      · rw [upd_ne z] at e
        exact base a e n
  have one : ∀ (l : Addr) (vs : List V) (ds : List D), c'.H l = some (.lst vs) → RpA F.K c'.B vs ds → c'.B l = none → c0.H l = none →
      ∃ B', Ext c'.B B' ∧ Ext B' c'.H ∧ Rp F.K B' (.ref l) (.lst ds) ∧ ∀ a, B' a ≠ none → c0.B a = none → c0.H a = none := by
    intro l vs ds h1 h2 h3 h4
    have xB : Ext c'.B (upd c'.B l (.lst vs)) := Ext.upd h3
    refine ⟨upd c'.B l (.lst vs), xB, fun a u e => ?_, .lst upd_same (h2.ext xB), fun a e n => ?_⟩
    · by_cases z : a = l
      · rw [z, upd_same] at e
        rw [z, h1]; exact e
      · rw [upd_ne z] at e
        exact R.le a u e
    · by_cases z : a = l
      · rw [z]; exact h4
      · rw [upd_ne z] at e
        exact base a e n
  cases w with
  | dat d' =>
    simp only [frz, Option.some.injEq, Prod.mk.injEq] at e
    obtain ⟨rfl, rfl⟩ := e
    exact ⟨c'.B, Ext.rfl', R.le, h, base⟩
  | loc i =>
    obtain ⟨h1, en, h2⟩ := h
    simp only [frz, h2] at e
    cases en with
    | val d' =>
      simp only [Option.some.injEq, Prod.mk.injEq] at e
      obtain ⟨rfl, rfl⟩ := e
      obtain ⟨v', q1, q2⟩ := R.at_ i _ h2
      rw [h1] at q1
      cases q1
      exact ⟨c'.B, Ext.rfl', R.le, q2, base⟩
    | own ds =>
      simp only [Option.some.injEq, Prod.mk.injEq] at e
      obtain ⟨rfl, rfl⟩ := e
      obtain ⟨l, o, q1, q2, ⟨vs, rfl, q3⟩, q4, q5⟩ := R.at_ i _ h2
      rw [h1] at q1
      cases q1
      exact one l vs ds q2 q3 q4 ((g.ow l ⟨i, _, h2, rfl, h1⟩).elim (fun z => absurd z (n0 l)) id)
    | dck kvs =>
      simp only [Option.some.injEq, Prod.mk.injEq] at e
      obtain ⟨rfl, rfl⟩ := e
      obtain ⟨l, o, q1, q2, ⟨ks, eo, q3⟩, q4, q5⟩ := R.at_ i _ h2
      rw [h1] at q1
      cases q1
      exact any l o _ q2 (kk_dic eo q3 q4) q4 ((g.ow l ⟨i, _, h2, rfl, h1⟩).elim (fun z => absurd z (n0 l)) id)
    | _ => cases e
  | new ds =>
    simp only [frz, Option.some.injEq, Prod.mk.injEq] at e
    obtain ⟨rfl, rfl⟩ := e
    obtain ⟨l, vs, rfl, h2, h3, h4, h5, h6, h7⟩ := h
    exact one l vs ds h2 h3 h4 h7
def startD (N : List Str) (ds : List D) : List (Option En) := ds.map (fun d => some (.val d)) ++ List.replicate (N.length - ds.length) none
def retD (Φ : D → Prop) : EndsD := { nx := fun _ => Φ .non, rt := fun w s => ∃ d s', frz w s = some (d, s') ∧ Φ d }
theorem start_get {K : Bk} {B : Hp} {N : List Str} {vs : List V} {ds : List D} (r : RpA K B vs ds) {i : Nat} {e : En} (h : (startD N ds)[i]? = some (some e)) : ∃ d v, e = .val d ∧ (L2.start N vs)[i]? = some (some v) ∧ Rp K B v d := by
  unfold startD at h
  by_cases c : i < ds.length
  · rw [List.getElem?_append_left (by rw [List.length_map]; exact c), List.getElem?_map, List.getElem?_eq_getElem c] at h
    obtain ⟨v, h1, h2⟩ := r.getD (List.getElem?_eq_getElem c)
    refine ⟨ds[i], v, by cases h; rfl, ?_, h2⟩
    unfold L2.start
    rw [List.getElem?_append_left (by rw [List.length_map, r.len]; exact c), List.getElem?_map, h1]
    rfl
  · rw [List.getElem?_append_right (by rw [List.length_map]; omega), List.getElem?_replicate] at h
    split at h
    · cases h
    · cases h
theorem start_len {K : Bk} {B : Hp} {N : List Str} {vs : List V} {ds : List D} (r : RpA K B vs ds) : (L2.start N vs).length = (startD N ds).length := by
  simp [L2.start, startD, r.len]
/-- a def's body is right -/
theorem body_ok {t : TS} {g : GS} {N : List Str} {G : GF} (ss : SS K t g) (hG : ∀ ds Φ, G ds Φ → g ⟨startD N ds, 0⟩ (retD Φ)) {vs : List V} {H : Hp} {Q : VK} {E : XK} (h : spP K G vs H Q E) : t { nx := fun _ H' => Q .non H', rt := Q } (L2.start N vs) H := by
  obtain ⟨B, ds, Φ, x, r, g0, q⟩ := h
  have R0 : Rep ⟨K, 0, 0, [], false⟩ ⟨B, H, L2.start N vs, ⟨startD N ds, 0⟩⟩ := by
    refine ⟨x, start_len r, fun i e h => ?_, fun i j ei ej l h1 o1 _ _ _ _ => ?_, fun on => by cases on⟩
    · obtain ⟨d, v, rfl, h1, h2⟩ := start_get r h
      exact ⟨v, h1, h2⟩
    · obtain ⟨d, v, rfl, _⟩ := start_get r h1
      cases o1
  have n0 : ∀ a, ¬ Own ⟨B, H, L2.start N vs, ⟨startD N ds, 0⟩⟩ a := by
    rintro a ⟨i, e, h1, o1, _⟩
    obtain ⟨d, v, rfl, _⟩ := start_get r h1
    cases o1
  refine ss ⟨K, 0, 0, [], false⟩ rfl ⟨B, H, L2.start N vs, ⟨startD N ds, 0⟩⟩ _ (retD Φ) R0 (hG ds Φ g0) ⟨fun c' R' G' p => ?_, fun c' v w R' G' D' p => ?_, fun c' R' G' p => p.elim, fun c' R' G' p => p.elim, fun c' R' G' _ _ _ _ _ _ _ _ z => z.elim⟩
  · exact q c'.B c'.H .non .non G'.b R'.le (fun a o e => G'.fr a o e fun m => m.elim (n0 a) fun z => by cases z.1) (fun a e n => (G'.nb a e n).elim id fun z => absurd z (n0 a)) .non p
  · obtain ⟨d, s', e, hΦ⟩ := p
    obtain ⟨B', b1, b2, b3, b4⟩ := outB R' G' n0 D' e
    exact q B' c'.H v d (G'.b.trans b1) b2 (fun a o e => G'.fr a o e fun m => m.elim (n0 a) fun z => by cases z.1) b4 b3 hΦ
def startB (N : List Str) (ds : List D) : List (Option En) := some .bag :: startD N.tail ds
def retB (Φ : D → Nat → Prop) : EndsD := { nx := fun s => Φ .non s.n, rt := fun w s => ∃ d s', frz w s = some (d, s') ∧ Φ d s'.n }
theorem frz_n {w : W} {s s' : Stt} {d : D} (h : frz w s = some (d, s')) : s'.n = s.n := by
  cases w with
  | dat d => cases Option.some.inj h; rfl
  | loc i =>
    simp only [frz] at h
    split at h
    · cases Option.some.inj h; rfl
    · cases Option.some.inj h; rfl
    · cases Option.some.inj h; rfl
    · cases h
  | new ds => cases Option.some.inj h; rfl
theorem body_okB {t : TS} {g : GS} {x : Str} {N : List Str} {G : GFB} (ss : SS K t g) (hG : ∀ ds n Φ, G ds n Φ → g ⟨startB (x :: N) ds, n⟩ (retB Φ)) {vs : List V} {H : Hp} {Q : VK} {E : XK} (h : spB K G vs H Q E) : t { nx := fun _ H' => Q .non H', rt := Q } (L2.start (x :: N) vs) H := by
  obtain ⟨B, b, c, ms, n, us, ds, Φ, rfl, hb, b0, c0, xB, r, g0, q⟩ := h
  have es : L2.start (x :: N) (.ref b :: us) = some (.ref b) :: L2.start N us := by
    simp [L2.start]
  rw [es]
  have at0 : ∀ (i : Nat) (e : En), (startB (x :: N) ds)[i]? = some (some e) → (i = 0 ∧ e = .bag) ∨ ∃ j d v, i = j + 1 ∧ e = .val d ∧ (L2.start N us)[j]? = some (some v) ∧ Rp K B v d := by
    intro i e h
    cases i with
    | zero => exact .inl ⟨rfl, by simpa [startB] using h.symm⟩
    | succ j =>
      have h' : (startD N ds)[j]? = some (some e) := by simpa [startB] using h
      obtain ⟨d, v, h1, h2, h3⟩ := start_get r h'
      exact .inr ⟨j, d, v, rfl, h1, h2, h3⟩
  have noOwn : ∀ (i : Nat) (e : En), (startB (x :: N) ds)[i]? = some (some e) → e.isOwn = true → False := by
    intro i e h o
    rcases at0 i e h with ⟨_, rfl⟩ | ⟨_, _, _, _, rfl, _⟩ <;> cases o
  have R0 : Rep ⟨K, b, c, ms, true⟩ ⟨B, H, some (.ref b) :: L2.start N us, ⟨startB (x :: N) ds, n⟩⟩ := by
    refine ⟨xB, ?_, fun i e h => ?_, fun i j ei ej l h1 o1 _ _ _ _ => (noOwn i ei h1 o1).elim, fun _ => ⟨hb, b0, c0⟩⟩
    · show (some (V.ref b) :: L2.start N us).length = (startB (x :: N) ds).length
      simp [startB, start_len (N := N) r]
    · rcases at0 i e h with ⟨rfl, rfl⟩ | ⟨j, d, v, rfl, rfl, h1, h2⟩
      · exact ⟨rfl, rfl⟩
      · exact ⟨v, by simpa using h1, h2⟩
  have n0 : ∀ a, ¬ Own ⟨B, H, some (.ref b) :: L2.start N us, ⟨startB (x :: N) ds, n⟩⟩ a := by
    rintro a ⟨i, e, h1, o1, _⟩
    exact noOwn i e h1 o1
  have fr : ∀ {c' : Cf}, Go ⟨K, b, c, ms, true⟩ ⟨B, H, some (.ref b) :: L2.start N us, ⟨startB (x :: N) ds, n⟩⟩ c' → ∀ a o, a ≠ b → H a = some o → c'.H a = some o := fun G' a o ne e => G'.fr a o e fun m => m.elim (n0 a) fun z => ne z.2
  refine ss ⟨K, b, c, ms, true⟩ rfl _ _ (retB Φ) R0 (hG ds n Φ g0) ⟨fun c' R' G' p => ?_, fun c' v w R' G' D' p => ?_, fun c' R' G' p => p.elim, fun c' R' G' p => p.elim, fun c' R' G' _ _ _ _ _ _ _ _ z => z.elim⟩
  · exact q c'.B c'.H .non .non c'.s.n G'.b R'.le (fr G') (fun a e n => (G'.nb a e n).elim id fun z => absurd z (n0 a)) (R'.bag rfl).1 .non p
  · obtain ⟨d, s', e, hΦ⟩ := p
    obtain ⟨B', b1, b2, b3, b4⟩ := outB R' G' n0 D' e
    rw [frz_n e] at hΦ
    exact q B' c'.H v d c'.s.n (G'.b.trans b1) b2 (fr G') b4 (R'.bag rfl).1 b3 hΦ
end
end DL
set_option maxHeartbeats 1000000
namespace DL
open PySem PySem.Spec PyProof.Rows L2 Ax
theorem iteFd {c : Prop} [Decidable c] {A B : Prop} (hc : ¬ c) (h : B) : if decide c = true then A else B := by
  rw [decide_eq_false hc]
  exact iteF h
theorem iteTd {c : Bool} {A B : Prop} (hc : c = true) (h : A) : if c = true then A else B := by
  rw [if_pos hc]
  exact h
theorem iteFd' {c : Bool} {A B : Prop} (hc : c = false) (h : B) : if c = true then A else B := by
  rw [hc]
  exact iteF h
/-- all but a stays -/
def Off (a : Addr) (H H' : Hp) : Prop := ∀ b o, b ≠ a → H b = some o → H' b = some o
theorem Ext.off {H H' : Hp} {a : Addr} (e : Ext H H') : Off a H H' := fun b o _ h => e b o h
theorem Off.upd {H H' : Hp} {a : Addr} {o : HO} (e : Off a H H') : Off a H (upd H' a o) := fun b u hb h => by
  rw [upd_ne hb]
  exact e b u hb h
theorem Off.trans {H H1 H2 : Hp} {a : Addr} (e : Off a H H1) (e2 : Off a H1 H2) : Off a H H2 := fun b o hb h => e2 b o hb (e b o hb h)
theorem off_upd {H : Hp} {a : Addr} {o : HO} : Off a H (upd H a o) := (Ext.off Ext.rfl').upd
theorem cut_to (xs : List V) (k : Nat) : cutV xs none (some (k : Int)) = xs.take k := by
  unfold cutV
  rw [HT.sIx_nat, HT.sIx_none, List.drop_zero, Nat.sub_zero]
  by_cases h : k ≤ xs.length
  · rw [Nat.min_eq_left h]
  · rw [Nat.min_eq_right (by omega), List.take_of_length_le (Nat.le_refl _), List.take_of_length_le (by omega)]
theorem mod_lt {a l : Int} (h : 1 ≤ l) : 0 ≤ a % l ∧ a % l < l := ⟨Int.emod_nonneg _ (by omega), Int.emod_lt_of_pos _ (by omega)⟩
theorem Room.u65 {k : Nat} {A : Around} (r : Room k A) : A.units + 65 < cLine := by have := r.un; omega
end DL
set_option maxHeartbeats 2000000
/-! What the written terms use. -/
namespace DL
open PySem PySem.Spec PyProof.Rows L2 Ax
section
variable {X : Cx}
def rAddA (K : PySem.W.Frag) : R2 := fun x y H Q => (rI0 fun i j => .int (i + j)) x y H Q ∨ (rCat x y H Q ∨ rCatA K x y H Q)
theorem opAddA : OpR X (binaryOp .Add) (rAddA X.K) := OpR.or op_add (OpR.or op_cat op_catA)
def fAdd : D → D → Option W := orF (fI fun i j => i + j) (orF fCat fCatT)
theorem os_add {K : Bd} : OpS K (rAddA K) fAdd := OpS.or (os_I _) (OpS.or os_cat os_catT)
def fNeg : D → Option W
  | .int i => some (.dat (.int (-i)))
  | _ => none
theorem us_neg {K : Bd} : UnS K (rU fun i => .int (-i)) fNeg := by
  intro F hK c x d w Q R hx hf q
  cases d with
  | int i =>
    cases Option.some.inj hf
    exact ⟨i, hx.int, q c _ R GoE.rfl' rfl (Rp.int _)⟩
  | _ => cases hf
instance (i j : Int) : Decidable (CMulW i j) := by unfold CMulW; infer_instance
theorem RpA.length {K : Bk} {B : Hp} {vs : List V} {ds : List D} (r : RpA K B vs ds) : vs.length = ds.length := r.len
theorem lenP {K : Bd} {G : GF} {n : Nat} {vs : List V} {H : Hp} {Q : VK} {E : XK} (h : spP K G vs H Q E) (hl : ∀ ds Φ, G ds Φ → ds.length = n) : vs.length = n := by
  obtain ⟨B, ds, Φ, _, r, g, _⟩ := h
  rw [r.len]; exact hl ds Φ g
theorem lenB {K : Bd} {G : GFB} {m : Nat} {vs : List V} {H : Hp} {Q : VK} {E : XK} (h : spB K G vs H Q E) (hl : ∀ ds n Φ, G ds n Φ → ds.length = m) : vs.length = m + 1 := by
  obtain ⟨B, b, c, ms, n, us, ds, Φ, rfl, _, _, _, _, r, g, _⟩ := h
  rw [List.length_cons, r.len, hl ds n Φ g]
theorem mk_body {body : List Stmt} {t : TS} {D : Ends} {σ : L2.St} {H : Hp} (q : t D σ H) (p : PSs X body t) : ∃ t, PSs X body t ∧ t D σ H := ⟨t, p, q⟩
/-- a def whose defaults fill up -/
def DnD (P : Program) (w : World) (K : PySem.W.Frag) (mg : Str → Option Value) (base : Heap) (CX : CXT) (k : Nat) (x : Str) (ps : List Str) (dvs : List V) (sp : Sp) : Prop :=
  ∃ (f : Addr) (fd : FuncData) (ds : List Value), FnOk P w K mg base CX k f fd ps sp ∧ mg x = some (.ref f) ∧ PySem.W.keepIn K (.ref f) = true ∧ Vals dvs ds ∧ Binds K fd ps ds
/-- a def called by keywords, n values ahead of them -/
def DnK (P : Program) (w : World) (K : PySem.W.Frag) (mg : Str → Option Value) (base : Heap) (CX : CXT) (k : Nat) (x : Str) (ps : List Str) (n : Nat) (ks : List Str) (gV : List V → List V → List V) (sp : Sp) : Prop :=
  ∃ (f : Addr) (fd : FuncData) (g : List Value → List Value → List Value), FnOk P w K mg base CX k f fd ps sp ∧ mg x = some (.ref f) ∧ PySem.W.keepIn K (.ref f) = true ∧ KBn K fd ps n ks g gV
section
variable {CX : CXT} {k n : Nat} {ps ks : List Str} {dvs : List V} {sp : Sp} {E : XK} {x : Str} {p pos : Pos} {e : Expr} {es : List Expr} {kws : List Keyword} {t tk : TA} {gV : List V → List V → List V}
theorem pe_dnD (D : DnD X.prog X.w X.K X.mg X.base CX k x ps dvs sp) (hr : Room k X.A) (hg : Gl X x) (hx : Passes CX X E) (ha : PA X (e :: es) t) (hdb : (x == ("__debug__" : Str)) = false := by decide)
    (he : starEach (e :: es) X.env = (false, eval e X.env) :: starEach es X.env := by rfl) (hpl : (backTo pos (starEach es X.env)).any (·.1) = false := by rfl) :
    PE X (.Call (.Name x p) (e :: es) [] pos) (tCall sp dvs E t) := by
  obtain ⟨f, fd, ds, F, hm, hk, hd, hb⟩ := D
  exact pe_call F hr hg hm hk hb hd hx ha hdb he hpl
theorem pe_dnK (D : DnK X.prog X.w X.K X.mg X.base CX k x ps n ks gV sp) (hr : Room k X.A) (hg : Gl X x) (hx : Passes CX X E) (ha : PA X (e :: es) t) (hkw : PK X kws tk)
    (hall : (backToKw pos (keywordEach kws X.env)).all (·.1.isSome) = true := by rfl) (hks : (backToKw pos (keywordEach kws X.env)).filterMap (·.1) = ks := by rfl)
    (hdb : (x == ("__debug__" : Str)) = false := by decide) (he : starEach (e :: es) X.env = (false, eval e X.env) :: starEach es X.env := by rfl)
    (hpl : ((backTo pos (starEach (e :: es) X.env)).any (·.1) || (backToKw pos (keywordEach kws X.env)).any (·.1.isNone)) = false := by rfl) :
    PE X (.Call (.Name x p) (e :: es) kws pos) (tCallN n ks.length sp gV E t tk) := by
  obtain ⟨f, fd, g, F, hm, hk, hb⟩ := D
  exact pe_callN F hr hg hm hk hb hx ha hkw hall hks hdb he hpl
end
end
section
variable {K : Bd}
theorem frzA_len : ∀ {ws : List W} {s s' : Stt} {ds : List D}, frzA ws s = some (ds, s') → ds.length = ws.length
  | [], s, s', ds, h => by
    simp only [frzA, Option.some.injEq, Prod.mk.injEq] at h
    rw [← h.1]; rfl
  | w :: ws, s, s', ds, h => by
    simp only [frzA] at h
    split at h
    · rename_i d s1 e1
      split at h
      · rename_i ds' s2 e2
        simp only [Option.some.injEq, Prod.mk.injEq] at h
        rw [← h.1, List.length_cons, List.length_cons, frzA_len e2]
      · cases h
    · cases h
def gCallN (n m : Nat) (G : GF) (gV : List D → List D → List D) (ga gk : GA) : GX := fun s Φ => ga s fun ws s1 => gk s1 fun us s2 => ∃ ds es s3 s4, frzA ws s2 = some (ds, s3) ∧ frzA us s3 = some (es, s4) ∧ ds.length = n ∧ es.length = m ∧ G (gV ds es) fun d => Φ (.dat d) s4
theorem se_callN {n m : Nat} {G : GF} {gV : List V → List V → List V} {gD : List D → List D → List D} {E : XK} {t tk : TA} {ga gk : GA} (hg : ∀ (B : Hp) (vs zs : List V) (ds es : List D), RpA K B vs ds → RpA K B zs es → RpA K B (gV vs zs) (gD ds es)) (h : SA K t ga) (h2 : SA K tk gk) : SE K (tCallN n m (spP K G) gV E t tk) (gCallN n m G gD ga gk) := by
  intro F hK c Φ Q R p q
  subst hK
  refine h F rfl c _ _ R p fun c1 vs ws R1 G1 D1 p1 => ?_
  refine h2.run rfl G1.σ rfl R1 p1 fun c2 zs us R2 G2 D2 p2 => ?_
  obtain ⟨ds, es, s3, s4, e1, e2, l1, l2, g⟩ := p2
  have lw := (DenA.keep G2 D1).len
  have lz := D2.len
  obtain ⟨c3, b1, b2, R3, G3, r⟩ := frzA_ok R2 (DenA.keep G2 D1) e1
  obtain ⟨c4, b3, b4, R4, G4, r'⟩ := frzA_ok R3 (DenA.keep G3 D2) (by rw [b2]; exact e2)
  have bH : c4.H = c2.H := b3.trans b1
  refine ⟨by rw [lw, ← frzA_len e1, l1], by rw [lz, ← frzA_len e2, l2], c4.B, gD ds es, _, by rw [← bH]; exact R4.le, hg _ _ _ _ _ (r.ext G4.go.b) r', g, fun B' H' v d x1 x2 x3 nb rv hΦ => ?_⟩
  rw [← bH] at x3 nb
  obtain ⟨R5, G5⟩ := R4.grow x1 x2 x3 nb
  exact q _ v (.dat d) R5 ((((G1.trans G2).trans G3).trans G4).trans G5) rv (by rw [← b4] at hΦ; exact hΦ)
end
end DL
set_option maxHeartbeats 2000000
/-! A Hook: facts by names, defs, one more Bool, over what the names reach and the interpreter's statics. -/
namespace Ax
open PySem PySem.Spec PyProof.Rows L2 He
def asY (g : Addr → Option Obj) (n : Nat) : List Addr := asD g n ++ [cStatics]
def SaysY (fa : List Fa) (fn : List DefD) (ex : PySem.W.Frag → Bool) (K : PySem.W.Frag) : Prop := SaysD fa fn K ∧ ex K = true
abbrev AlY : Type := AlD × Bool
def obsY (n : Nat) (fa : List Fa) (fn : List DefD) (ex : PySem.W.Frag → Bool) (g : Addr → Option Obj) : AlY := (obsD fa fn (frG g (asY g n)), ex (frG g (asY g n)))
def valY (fn : List DefD) : AlY := (valD fn, true)
def hookY (n : Nat) (fa : List Fa) (fn : List DefD) (ex : PySem.W.Frag → Bool) : PySem.W.Hook where
  α := AlY
  obs := fun s => obsY n fa fn ex s.heap.get?
  val := fun _ => valY fn
  says := fun _ h => ∃ K : PySem.W.Frag, K.In h ∧ SaysY fa fn ex K
  of := fun _ _ e => ⟨_, frG_in, congrArg (fun z : AlY => z.1) e, congrArg (fun z : AlY => z.2) e⟩
  keeps := fun _ _ _ ⟨K, hK, c⟩ k => ⟨K, PySem.W.Frag.In.keeps hK k, c⟩
theorem obsY_eq {n : Nat} {fa : List Fa} {fn : List DefD} {ex : PySem.W.Frag → Bool} {g : Addr → Option Obj} {s : Shared} (h : ∀ a, g a = s.heap.get? a) : obsY n fa fn ex g = (hookY n fa fn ex).obs s := by
  have e : g = s.heap.get? := funext h
  rw [e] <;> rfl
end Ax
set_option maxHeartbeats 1000000
/-! A head that also tells of getters of properties. -/
namespace Ax
open PySem PySem.Spec PyProof.Rows L2 He
/-- the getter's function of the property f of the class C -/
def gAd (K : PySem.W.Frag) (C : Addr) (f : Str) : Addr := match PySem.W.recIn K (ma K C f) "property" with
  | some (.ref g :: _) => g
  | _ => 0
def propB (K : PySem.W.Frag) (C : Addr) (f : Str) : Bool := decide (PySem.W.findIn K (.ref C) f = some (some (.ref (ma K C f)))) && (decide (PySem.W.specialIn K (.ref (ma K C f)) "__get__" = some (some (.builtin "property.__get__"))) &&
  (decide (PySem.W.takesIn K (.ref (ma K C f)) = some true) && (match PySem.W.recIn K (ma K C f) "property" with
    | some (.ref _ :: _) => true
    | _ => false)))
theorem propB_ok {K : PySem.W.Frag} {C : Addr} {f : Str} (h : propB K C f = true) : PropOf K C f (ma K C f) (gAd K C f) := by
  obtain ⟨h1, h⟩ := Bool.and_eq_true_iff.mp h
  obtain ⟨h2, h⟩ := Bool.and_eq_true_iff.mp h
  obtain ⟨h3, h⟩ := Bool.and_eq_true_iff.mp h
  refine ⟨of_decide_eq_true h1, of_decide_eq_true h2, of_decide_eq_true h3, ?_⟩
  unfold gAd
  split at h
  · rename_i g rest q
    rw [q]
    exact ⟨rest, rfl⟩
  · cases h
/-- what stands at an address, as a def -/
def seenAt (K : PySem.W.Frag) (a : Addr) : FnW := match K.lookup a with
  | some ⟨_, _, .func fd, _⟩ => some (fd.name, fd.qualname, fd.params, fd.body, fd.scope, fd.globals, fd.closure, fd.builtins)
  | _ => none
def wellAt (K : PySem.W.Frag) (a : Addr) (qual : Str) : Bool := PySem.W.keepIn K (.ref a) && (match K.lookup a with
  | some ⟨_, _, .func fd, _⟩ => PySem.W.codeIn K fd.code qual && (dflB K fd.defaults [] && kwdB K fd.kwdefaults [])
  | _ => false)
theorem funD_at {K : PySem.W.Frag} {a : Addr} {d : DefD} (e : seenAt K a = d.val) (c : wellAt K a d.qual = true) : ∃ fd, FunD K d.name d.qual d.params d.body d.scope [] [] a fd := by
  obtain ⟨kp, c2⟩ := Bool.and_eq_true_iff.mp c
  unfold seenAt at e
  cases q : K.lookup a with
  | none =>
    rw [q] at c2
    cases c2
  | some o =>
    obtain ⟨oc, od, dt, osl⟩ := o
    rw [q] at c2 e
    cases dt with
    | func fd =>
      obtain ⟨n1, n2, n3, n4, n5, n6, n7, n8, n9, n10, n11, n12, n13, n14, n15⟩ := fd
      have e2 : (some (n1, n2, n3, n4, n5, n6, n7, n15) : FnW) = some (d.name, d.qual, d.params, .stmts d.body, d.scope, mainGlobals, [], builtinsNs) := e
      simp only [Option.some.injEq, Prod.mk.injEq] at e2
      obtain ⟨h1, h2, h3, h4, h5, h6, h7, h8⟩ := e2
      subst h1 h2 h3 h4 h5 h6 h7 h8
      have c3 : (PySem.W.codeIn K n13 d.qual && (dflB K n8 [] && kwdB K n9 [])) = true := c2
      obtain ⟨k1, k2⟩ := Bool.and_eq_true_iff.mp c3
      obtain ⟨k3, k4⟩ := Bool.and_eq_true_iff.mp k2
      exact ⟨_, ⟨oc, od, n8, n9, n10, n11, n12, n13, n14, osl, rfl, q, k1, dflB_ok k3, kwdB_ok k4⟩, kp⟩
    | _ => cases c2
/-- getters: a class's global name, the property, the getter's def -/
abbrev Gs : Type := List (Str × Str × DefD)
def getW (K : PySem.W.Frag) (gs : Gs) : List FnW := gs.map fun p => seenAt K (gAd K (ga K p.1) p.2.1)
def getV (gs : Gs) : List FnW := gs.map fun p => p.2.2.val
def getB (K : PySem.W.Frag) (gs : Gs) : Bool := gs.all fun p => propB K (ga K p.1) p.2.1 && wellAt K (gAd K (ga K p.1) p.2.1) p.2.2.qual
def SaysP (fa : List Fa) (fn : List DefD) (ex : PySem.W.Frag → Bool) (gs : Gs) (K : PySem.W.Frag) : Prop := SaysD fa fn K ∧ ex K = true ∧ getB K gs = true ∧ getW K gs = getV gs
abbrev AlP : Type := AlD × Bool × Bool × List FnW
def obsP (n : Nat) (fa : List Fa) (fn : List DefD) (ex : PySem.W.Frag → Bool) (gs : Gs) (g : Addr → Option Obj) : AlP :=
  (obsD fa fn (frG g (asY g n)), ex (frG g (asY g n)), getB (frG g (asY g n)) gs, getW (frG g (asY g n)) gs)
def hookP (n : Nat) (fa : List Fa) (fn : List DefD) (ex : PySem.W.Frag → Bool) (gs : Gs) : PySem.W.Hook where
  α := AlP
  obs := fun s => obsP n fa fn ex gs s.heap.get?
  val := fun _ => (valD fn, true, true, getV gs)
  says := fun _ h => ∃ K : PySem.W.Frag, K.In h ∧ SaysP fa fn ex gs K
  of := fun _ _ e => ⟨_, frG_in, congrArg (fun z : AlP => z.1) e, congrArg (fun z : AlP => z.2.1) e, congrArg (fun z : AlP => z.2.2.1) e, congrArg (fun z : AlP => z.2.2.2) e⟩
  keeps := fun _ _ _ ⟨K, hK, c⟩ k => ⟨K, PySem.W.Frag.In.keeps hK k, c⟩
theorem obsP_eq {n : Nat} {fa : List Fa} {fn : List DefD} {ex : PySem.W.Frag → Bool} {gs : Gs} {g : Addr → Option Obj} {s : Shared} (h : ∀ a, g a = s.heap.get? a) : obsP n fa fn ex gs g = (hookP n fa fn ex gs).obs s := by
  have e : g = s.heap.get? := funext h
  rw [e] <;> rfl
/-- a property's getter, of such a head -/
theorem SaysP.getter {fa : List Fa} {fn : List DefD} {ex : PySem.W.Frag → Bool} {gs : Gs} {K : PySem.W.Frag} (c : SaysP fa fn ex gs K) (i : Nat) {C f : Str} {d : DefD} (h : gs[i]? = some (C, f, d) := by rfl) :
    PropOf K (ga K C) f (ma K (ga K C) f) (gAd K (ga K C) f) ∧ ∃ fd, FunD K d.name d.qual d.params d.body d.scope [] [] (gAd K (ga K C) f) fd := by
  obtain ⟨_, _, h1, h2⟩ := c
  have b := List.all_eq_true.mp h1 _ (List.mem_of_getElem? h)
  obtain ⟨b1, b2⟩ := Bool.and_eq_true_iff.mp b
  have e2 : (getW K gs)[i]? = (getV gs)[i]? := by rw [h2]
  unfold getW getV at e2
  rw [List.getElem?_map, List.getElem?_map, h] at e2
  exact ⟨propB_ok b1, funD_at (Option.some.inj e2) b2⟩
end Ax
set_option maxHeartbeats 1000000
/-! A head that also tells of the empty code tables of some defs. -/
namespace Ax
open PySem PySem.Spec PyProof.Rows L2 He
def tabB (g : Addr → Option Obj) (K : PySem.W.Frag) (p : Str × Option Str) : Bool := PySem.W.codeHdIn K (cT K p).1 (cT K p).2 && (match g (cT K p).2 with
  | some o => emptyTab o
  | none => false)
def TabAt (h : Heap) (K : PySem.W.Frag) (p : Str × Option Str) : Prop := PySem.W.codeHdIn K (cT K p).1 (cT K p).2 = true ∧ K.lookup (cT K p).2 = none ∧ h.get? (cT K p).2 = some { cls := Value.none, data := Data.fields #[] }
theorem tabB_ok {h : Heap} {as : List Addr} {p : Str × Option Str} (e : tabB h.get? (frT h.get? as) p = true) : TabAt h (frT h.get? as) p := by
  obtain ⟨h1, h2⟩ := Bool.and_eq_true_iff.mp e
  refine ⟨h1, ?_⟩
  cases q : h.get? (cT (frT h.get? as) p).2 with
  | none => rw [q] at h2; cases h2
  | some o =>
    rw [q] at h2
    exact ⟨frT_none q h2, by rw [emptyTab_eq h2]⟩
abbrev AlT : Type := AlD × Bool × Bool × List FnW × Bool
def obsT (n : Nat) (fa : List Fa) (fn : List DefD) (ex : PySem.W.Frag → Bool) (gs : Gs) (tf : List (Str × Option Str)) (g : Addr → Option Obj) : AlT :=
  (obsD fa fn (frT g (asY g n)), ex (frT g (asY g n)), getB (frT g (asY g n)) gs, getW (frT g (asY g n)) gs, tf.all (tabB g (frT g (asY g n))))
def hookT (n : Nat) (fa : List Fa) (fn : List DefD) (ex : PySem.W.Frag → Bool) (gs : Gs) (tf : List (Str × Option Str)) : PySem.W.Hook where
  α := AlT
  obs := fun s => obsT n fa fn ex gs tf s.heap.get?
  val := fun _ => (valD fn, true, true, getV gs, true)
  says := fun _ h => ∃ K : PySem.W.Frag, K.In h ∧ SaysP fa fn ex gs K ∧ ∀ p ∈ tf, TabAt h K p
  of := fun _ s e => ⟨frT s.heap.get? (asY s.heap.get? n), frT_in, ⟨congrArg (fun z : AlT => z.1) e, congrArg (fun z : AlT => z.2.1) e, congrArg (fun z : AlT => z.2.2.1) e, congrArg (fun z : AlT => z.2.2.2.1) e⟩,
    fun p hp => tabB_ok (List.all_eq_true.mp (congrArg (fun z : AlT => z.2.2.2.2) e) p hp)⟩
  keeps := fun _ _ _ ⟨K, hK, c, t⟩ k => ⟨K, PySem.W.Frag.In.keeps hK k, c, fun p hp => let ⟨a, b, d⟩ := t p hp; ⟨a, b, k _ _ d⟩⟩
theorem obsT_eq {n : Nat} {fa : List Fa} {fn : List DefD} {ex : PySem.W.Frag → Bool} {gs : Gs} {tf : List (Str × Option Str)} {g : Addr → Option Obj} {s : Shared} (h : ∀ a, g a = s.heap.get? a) : obsT n fa fn ex gs tf g = (hookT n fa fn ex gs tf).obs s := by
  have e : g = s.heap.get? := funext h
  rw [e] <;> rfl
end Ax
/-! An empty tuple that stands as a default. -/
namespace DL
open PySem PySem.Spec PyProof.Rows L2
def dtB (K : PySem.W.Frag) (a : Addr) : Bool := match K.lookup a with
  | some ⟨.type t, _, .seq its _, _⟩ => decide (t = "tuple") && decide (its = #[])
  | _ => false
theorem dtB_ok {K : PySem.W.Frag} {a : Addr} (h : dtB K a = true) (H : Hp) : SqT K H a [] := by
  unfold dtB at h
  split at h
  · rename_i t dd its n sl e
    obtain ⟨h1, h2⟩ := Bool.and_eq_true_iff.mp h
    have e1 := of_decide_eq_true h1
    have e2 := of_decide_eq_true h2
    subst e1 e2
    exact .inr ⟨_, #[], n, e, rfl, rfl, Nat.zero_le _, .nil⟩
  · cases h
end DL
set_option maxHeartbeats 0
/-! The head of k21: what stands where. -/
namespace K21
open PySem PySem.Spec PyProof.Rows L2
def top (i : Nat) : Stmt := PySem.Challenge.pw_askedtrue_k21_whole_plays_of_tables_of_a.main.body.getD i (.Pass ⟨0, 0, 0, 0⟩)
abbrev s_AskedError_init : Stmt := inClass (top 2) 0
def d_AskedError_init : He.DefD := ⟨("AskedError", some "__init__"), "__init__", "AskedError.__init__", defArgs s_AskedError_init, defBody s_AskedError_init, defScope s_AskedError_init, [], []⟩
abbrev n_AskedError_init : List Str := ["self", "told"]
theorem sc_AskedError_init : FnScope n_AskedError_init ["self", "told"] (defScope s_AskedError_init) := ⟨rfl, rfl, rfl, by decide +kernel, rfl, by decide +kernel, by decide +kernel⟩
abbrev s_AskedError_eq : Stmt := inClass (top 2) 1
def d_AskedError_eq : He.DefD := ⟨("AskedError", some "__eq__"), "__eq__", "AskedError.__eq__", defArgs s_AskedError_eq, defBody s_AskedError_eq, defScope s_AskedError_eq, [], []⟩
abbrev n_AskedError_eq : List Str := ["self", "other"]
theorem sc_AskedError_eq : FnScope n_AskedError_eq ["self", "other"] (defScope s_AskedError_eq) := ⟨rfl, rfl, rfl, by decide +kernel, rfl, by decide +kernel, by decide +kernel⟩
abbrev s_BadOrder_init : Stmt := inClass (top 3) 0
def d_BadOrder_init : He.DefD := ⟨("BadOrder", some "__init__"), "__init__", "BadOrder.__init__", defArgs s_BadOrder_init, defBody s_BadOrder_init, defScope s_BadOrder_init, [], []⟩
abbrev n_BadOrder_init : List Str := ["self", "what", "name"]
theorem sc_BadOrder_init : FnScope n_BadOrder_init ["self", "what", "name"] (defScope s_BadOrder_init) := ⟨rfl, rfl, rfl, by decide +kernel, rfl, by decide +kernel, by decide +kernel⟩
abbrev s_is_whole : Stmt := top 12
def d_is_whole : He.DefD := ⟨("is_whole", none), "is_whole", "is_whole", defArgs s_is_whole, defBody s_is_whole, defScope s_is_whole, [], []⟩
abbrev n_is_whole : List Str := ["thing"]
theorem sc_is_whole : FnScope n_is_whole ["thing"] (defScope s_is_whole) := ⟨rfl, rfl, rfl, by decide +kernel, rfl, by decide +kernel, by decide +kernel⟩
abbrev s_is_between : Stmt := top 13
def d_is_between : He.DefD := ⟨("is_between", none), "is_between", "is_between", defArgs s_is_between, defBody s_is_between, defScope s_is_between, [], []⟩
abbrev n_is_between : List Str := ["thing", "least", "most"]
theorem sc_is_between : FnScope n_is_between ["thing", "least", "most"] (defScope s_is_between) := ⟨rfl, rfl, rfl, by decide +kernel, rfl, by decide +kernel, by decide +kernel⟩
abbrev s_is_name : Stmt := top 14
def d_is_name : He.DefD := ⟨("is_name", none), "is_name", "is_name", defArgs s_is_name, defBody s_is_name, defScope s_is_name, [], []⟩
abbrev n_is_name : List Str := ["thing", "sign"]
theorem sc_is_name : FnScope n_is_name ["thing"] (defScope s_is_name) := ⟨rfl, rfl, rfl, by decide +kernel, rfl, by decide +kernel, by decide +kernel⟩
abbrev s_Event_init : Stmt := inClass (top 15) 0
def d_Event_init : He.DefD := ⟨("Event", some "__init__"), "__init__", "Event.__init__", defArgs s_Event_init, defBody s_Event_init, defScope s_Event_init, [.adr (He.dflAt ("Event", some "__init__") 0)], []⟩
abbrev n_Event_init : List Str := ["self", "name", "end", "kind", "needs"]
theorem sc_Event_init : FnScope n_Event_init ["self", "name", "end", "kind", "needs"] (defScope s_Event_init) := ⟨rfl, rfl, rfl, by decide +kernel, rfl, by decide +kernel, by decide +kernel⟩
abbrev s_Event_eq : Stmt := inClass (top 15) 1
def d_Event_eq : He.DefD := ⟨("Event", some "__eq__"), "__eq__", "Event.__eq__", defArgs s_Event_eq, defBody s_Event_eq, defScope s_Event_eq, [], []⟩
abbrev n_Event_eq : List Str := ["self", "other"]
theorem sc_Event_eq : FnScope n_Event_eq ["self", "other"] (defScope s_Event_eq) := ⟨rfl, rfl, rfl, by decide +kernel, rfl, by decide +kernel, by decide +kernel⟩
abbrev s_Order_init : Stmt := inClass (top 16) 0
def d_Order_init : He.DefD := ⟨("Order", some "__init__"), "__init__", "Order.__init__", defArgs s_Order_init, defBody s_Order_init, defScope s_Order_init, [], []⟩
abbrev n_Order_init : List Str := ["self", "events", "elder", "event", "word"]
theorem sc_Order_init : FnScope n_Order_init ["self", "events"] (defScope s_Order_init) := ⟨rfl, rfl, rfl, by decide +kernel, rfl, by decide +kernel, by decide +kernel⟩
abbrev s_Order_eq : Stmt := inClass (top 16) 1
def d_Order_eq : He.DefD := ⟨("Order", some "__eq__"), "__eq__", "Order.__eq__", defArgs s_Order_eq, defBody s_Order_eq, defScope s_Order_eq, [], []⟩
abbrev n_Order_eq : List Str := ["self", "other"]
theorem sc_Order_eq : FnScope n_Order_eq ["self", "other"] (defScope s_Order_eq) := ⟨rfl, rfl, rfl, by decide +kernel, rfl, by decide +kernel, by decide +kernel⟩
abbrev s_Order_iter : Stmt := inClass (top 16) 2
def d_Order_iter : He.DefD := ⟨("Order", some "__iter__"), "__iter__", "Order.__iter__", defArgs s_Order_iter, defBody s_Order_iter, defScope s_Order_iter, [], []⟩
abbrev n_Order_iter : List Str := ["self"]
theorem sc_Order_iter : FnScope n_Order_iter ["self"] (defScope s_Order_iter) := ⟨rfl, rfl, rfl, by decide +kernel, rfl, by decide +kernel, by decide +kernel⟩
abbrev s_Order_len : Stmt := inClass (top 16) 3
def d_Order_len : He.DefD := ⟨("Order", some "__len__"), "__len__", "Order.__len__", defArgs s_Order_len, defBody s_Order_len, defScope s_Order_len, [], []⟩
abbrev n_Order_len : List Str := ["self"]
theorem sc_Order_len : FnScope n_Order_len ["self"] (defScope s_Order_len) := ⟨rfl, rfl, rfl, by decide +kernel, rfl, by decide +kernel, by decide +kernel⟩
abbrev s_Order_names : Stmt := inClass (top 16) 4
def d_Order_names : He.DefD := ⟨("Order", some "names"), "names", "Order.names", defArgs s_Order_names, defBody s_Order_names, defScope s_Order_names, [], []⟩
abbrev n_Order_names : List Str := ["self"]
theorem sc_Order_names : FnScope n_Order_names ["self"] (defScope s_Order_names) := ⟨rfl, rfl, rfl, by decide +kernel, rfl, by decide +kernel, by decide +kernel⟩
abbrev s_Order_place : Stmt := inClass (top 16) 5
def d_Order_place : He.DefD := ⟨("Order", some "place"), "place", "Order.place", defArgs s_Order_place, defBody s_Order_place, defScope s_Order_place, [], []⟩
abbrev n_Order_place : List Str := ["self", "name", "place", "event"]
theorem sc_Order_place : FnScope n_Order_place ["self", "name"] (defScope s_Order_place) := ⟨rfl, rfl, rfl, by decide +kernel, rfl, by decide +kernel, by decide +kernel⟩
abbrev s_Order_event : Stmt := inClass (top 16) 6
def d_Order_event : He.DefD := ⟨("Order", some "event"), "event", "Order.event", defArgs s_Order_event, defBody s_Order_event, defScope s_Order_event, [], []⟩
abbrev n_Order_event : List Str := ["self", "name"]
theorem sc_Order_event : FnScope n_Order_event ["self", "name"] (defScope s_Order_event) := ⟨rfl, rfl, rfl, by decide +kernel, rfl, by decide +kernel, by decide +kernel⟩
abbrev s_Order_of_end : Stmt := inClass (top 16) 7
def d_Order_of_end : He.DefD := ⟨("Order", some "of_end"), "of_end", "Order.of_end", defArgs s_Order_of_end, defBody s_Order_of_end, defScope s_Order_of_end, [], []⟩
abbrev n_Order_of_end : List Str := ["self", "end"]
theorem sc_Order_of_end : FnScope n_Order_of_end ["self", "end"] (defScope s_Order_of_end) := ⟨rfl, rfl, rfl, by decide +kernel, rfl, by decide +kernel, by decide +kernel⟩
abbrev s_Order_foreign : Stmt := inClass (top 16) 8
def d_Order_foreign : He.DefD := ⟨("Order", some "foreign"), "foreign", "Order.foreign", defArgs s_Order_foreign, defBody s_Order_foreign, defScope s_Order_foreign, [], []⟩
abbrev n_Order_foreign : List Str := ["self", "name"]
theorem sc_Order_foreign : FnScope n_Order_foreign ["self", "name"] (defScope s_Order_foreign) := ⟨rfl, rfl, rfl, by decide +kernel, rfl, by decide +kernel, by decide +kernel⟩
abbrev s_Order_behind : Stmt := inClass (top 16) 9
def d_Order_behind : He.DefD := ⟨("Order", some "behind"), "behind", "Order.behind", defArgs s_Order_behind, defBody s_Order_behind, defScope s_Order_behind, [], []⟩
abbrev n_Order_behind : List Str := ["self", "name", "found", "event", "need"]
theorem sc_Order_behind : FnScope n_Order_behind ["self", "name"] (defScope s_Order_behind) := ⟨rfl, rfl, rfl, by decide +kernel, rfl, by decide +kernel, by decide +kernel⟩
abbrev s_Order_loose : Stmt := inClass (top 16) 10
def d_Order_loose : He.DefD := ⟨("Order", some "loose"), "loose", "Order.loose", defArgs s_Order_loose, defBody s_Order_loose, defScope s_Order_loose, [], []⟩
abbrev n_Order_loose : List Str := ["self", "name"]
theorem sc_Order_loose : FnScope n_Order_loose ["self", "name"] (defScope s_Order_loose) := ⟨rfl, rfl, rfl, by decide +kernel, rfl, by decide +kernel, by decide +kernel⟩
abbrev s_Order_sources : Stmt := inClass (top 16) 11
def d_Order_sources : He.DefD := ⟨("Order", some "sources"), "sources", "Order.sources", defArgs s_Order_sources, defBody s_Order_sources, defScope s_Order_sources, [], []⟩
abbrev n_Order_sources : List Str := ["self", "name"]
theorem sc_Order_sources : FnScope n_Order_sources ["self", "name"] (defScope s_Order_sources) := ⟨rfl, rfl, rfl, by decide +kernel, rfl, by decide +kernel, by decide +kernel⟩
abbrev s_Order_as_kind : Stmt := inClass (top 16) 12
def d_Order_as_kind : He.DefD := ⟨("Order", some "as_kind"), "as_kind", "Order.as_kind", defArgs s_Order_as_kind, defBody s_Order_as_kind, defScope s_Order_as_kind, [], []⟩
abbrev n_Order_as_kind : List Str := ["self", "name", "kind"]
theorem sc_Order_as_kind : FnScope n_Order_as_kind ["self", "name", "kind"] (defScope s_Order_as_kind) := ⟨rfl, rfl, rfl, by decide +kernel, rfl, by decide +kernel, by decide +kernel⟩
abbrev s_Order_key_of : Stmt := inClass (top 16) 13
def d_Order_key_of : He.DefD := ⟨("Order", some "key_of"), "key_of", "Order.key_of", defArgs s_Order_key_of, defBody s_Order_key_of, defScope s_Order_key_of, [], []⟩
abbrev n_Order_key_of : List Str := ["self", "name", "values", "needs", "need"]
theorem sc_Order_key_of : FnScope n_Order_key_of ["self", "name", "values"] (defScope s_Order_key_of) := ⟨rfl, rfl, rfl, by decide +kernel, rfl, by decide +kernel, by decide +kernel⟩
abbrev s_Order_in_order : Stmt := inClass (top 16) 14
def d_Order_in_order : He.DefD := ⟨("Order", some "_in_order"), "_in_order", "Order._in_order", defArgs s_Order_in_order, defBody s_Order_in_order, defScope s_Order_in_order, [], []⟩
abbrev n_Order_in_order : List Str := ["self", "names"]
theorem sc_Order_in_order : FnScope n_Order_in_order ["self", "names"] (defScope s_Order_in_order) := ⟨rfl, rfl, rfl, by decide +kernel, rfl, by decide +kernel, by decide +kernel⟩
abbrev s_event_fault : Stmt := top 17
def d_event_fault : He.DefD := ⟨("event_fault", none), "event_fault", "event_fault", defArgs s_event_fault, defBody s_event_fault, defScope s_event_fault, [], []⟩
abbrev n_event_fault : List Str := ["event", "elder"]
theorem sc_event_fault : FnScope n_event_fault ["event", "elder"] (defScope s_event_fault) := ⟨rfl, rfl, rfl, by decide +kernel, rfl, by decide +kernel, by decide +kernel⟩
abbrev s_are_needs : Stmt := top 18
def d_are_needs : He.DefD := ⟨("are_needs", none), "are_needs", "are_needs", defArgs s_are_needs, defBody s_are_needs, defScope s_are_needs, [], []⟩
abbrev n_are_needs : List Str := ["needs", "elder", "need"]
theorem sc_are_needs : FnScope n_are_needs ["needs", "elder"] (defScope s_are_needs) := ⟨rfl, rfl, rfl, by decide +kernel, rfl, by decide +kernel, by decide +kernel⟩
abbrev s_entry_value : Stmt := top 20
def d_entry_value : He.DefD := ⟨("entry_value", none), "entry_value", "entry_value", defArgs s_entry_value, defBody s_entry_value, defScope s_entry_value, [], []⟩
abbrev n_entry_value : List Str := ["table", "name", "key", "entry"]
theorem sc_entry_value : FnScope n_entry_value ["table", "name", "key"] (defScope s_entry_value) := ⟨rfl, rfl, rfl, by decide +kernel, rfl, by decide +kernel, by decide +kernel⟩
abbrev s_with_answer : Stmt := top 21
def d_with_answer : He.DefD := ⟨("with_answer", none), "with_answer", "with_answer", defArgs s_with_answer, defBody s_with_answer, defScope s_with_answer, [], []⟩
abbrev n_with_answer : List Str := ["table", "name", "key", "value"]
theorem sc_with_answer : FnScope n_with_answer ["table", "name", "key", "value"] (defScope s_with_answer) := ⟨rfl, rfl, rfl, by decide +kernel, rfl, by decide +kernel, by decide +kernel⟩
abbrev s_play : Stmt := top 23
def d_play : He.DefD := ⟨("play", none), "play", "play", defArgs s_play, defBody s_play, defScope s_play, [], []⟩
abbrev n_play : List Str := ["order", "tables", "values", "entries", "event", "key", "value"]
theorem sc_play : FnScope n_play ["order", "tables"] (defScope s_play) := ⟨rfl, rfl, rfl, by decide +kernel, rfl, by decide +kernel, by decide +kernel⟩
abbrev s_law_bag : Stmt := top 25
def d_law_bag : He.DefD := ⟨("_law_bag", none), "_law_bag", "_law_bag", defArgs s_law_bag, defBody s_law_bag, defScope s_law_bag, [], []⟩
abbrev n_law_bag : List Str := ["script", "cells", "cell"]
theorem sc_law_bag : FnScope n_law_bag ["script"] (defScope s_law_bag) := ⟨rfl, rfl, rfl, by decide +kernel, rfl, by decide +kernel, by decide +kernel⟩
abbrev s_law_draw : Stmt := top 26
def d_law_draw : He.DefD := ⟨("_law_draw", none), "_law_draw", "_law_draw", defArgs s_law_draw, defBody s_law_draw, defScope s_law_draw, [], []⟩
abbrev n_law_draw : List Str := ["bag", "limit", "digit", "turn", "cells", "cell", "mixed"]
theorem sc_law_draw : FnScope n_law_draw ["bag", "limit"] (defScope s_law_draw) := ⟨rfl, rfl, rfl, by decide +kernel, rfl, by decide +kernel, by decide +kernel⟩
abbrev s_law_order : Stmt := top 27
def d_law_order : He.DefD := ⟨("_law_order", none), "_law_order", "_law_order", defArgs s_law_order, defBody s_law_order, defScope s_law_order, [], []⟩
abbrev n_law_order : List Str := ["bag", "ends", "least", "most", "names", "events", "place", "needs", "other", "kind"]
theorem sc_law_order : FnScope n_law_order ["bag", "ends", "least", "most"] (defScope s_law_order) := ⟨rfl, rfl, rfl, by decide +kernel, rfl, by decide +kernel, by decide +kernel⟩
abbrev s_law_made_world : Stmt := top 28
def d_law_made_world : He.DefD := ⟨("_law_made_world", none), "_law_made_world", "_law_made_world", defArgs s_law_made_world, defBody s_law_made_world, defScope s_law_made_world, [], []⟩
abbrev n_law_made_world : List Str := ["bag", "events", "base", "world", "event", "key"]
theorem sc_law_made_world : FnScope n_law_made_world ["bag", "events"] (defScope s_law_made_world) := ⟨rfl, rfl, rfl, by decide +kernel, rfl, by decide +kernel, by decide +kernel⟩
abbrev s_law_answer : Stmt := top 29
def d_law_answer : He.DefD := ⟨("_law_answer", none), "_law_answer", "_law_answer", defArgs s_law_answer, defBody s_law_answer, defScope s_law_answer, [], []⟩
abbrev n_law_answer : List Str := ["world", "name", "key", "place", "number"]
theorem sc_law_answer : FnScope n_law_answer ["world", "name", "key"] (defScope s_law_answer) := ⟨rfl, rfl, rfl, by decide +kernel, rfl, by decide +kernel, by decide +kernel⟩
abbrev s_law_true : Stmt := top 30
def d_law_true : He.DefD := ⟨("_law_true", none), "_law_true", "_law_true", defArgs s_law_true, defBody s_law_true, defScope s_law_true, [], []⟩
abbrev n_law_true : List Str := ["events", "world", "found", "name", "end", "kind", "needs", "key", "need"]
theorem sc_law_true : FnScope n_law_true ["events", "world"] (defScope s_law_true) := ⟨rfl, rfl, rfl, by decide +kernel, rfl, by decide +kernel, by decide +kernel⟩
abbrev s_law_order_of : Stmt := top 31
def d_law_order_of : He.DefD := ⟨("_law_order_of", none), "_law_order_of", "_law_order_of", defArgs s_law_order_of, defBody s_law_order_of, defScope s_law_order_of, [], []⟩
abbrev n_law_order_of : List Str := ["events", "name", "end", "kind", "needs"]
theorem sc_law_order_of : FnScope n_law_order_of ["events"] (defScope s_law_order_of) := ⟨rfl, rfl, rfl, by decide +kernel, rfl, by decide +kernel, by decide +kernel⟩
abbrev s_law_is_whole : Stmt := top 32
def d_law_is_whole : He.DefD := ⟨("_law_is_whole", none), "_law_is_whole", "_law_is_whole", defArgs s_law_is_whole, defBody s_law_is_whole, defScope s_law_is_whole, [], []⟩
abbrev n_law_is_whole : List Str := ["thing"]
theorem sc_law_is_whole : FnScope n_law_is_whole ["thing"] (defScope s_law_is_whole) := ⟨rfl, rfl, rfl, by decide +kernel, rfl, by decide +kernel, by decide +kernel⟩
abbrev s_law_is_entry : Stmt := top 33
def d_law_is_entry : He.DefD := ⟨("_law_is_entry", none), "_law_is_entry", "_law_is_entry", defArgs s_law_is_entry, defBody s_law_is_entry, defScope s_law_is_entry, [], []⟩
abbrev n_law_is_entry : List Str := ["thing", "number"]
theorem sc_law_is_entry : FnScope n_law_is_entry ["thing"] (defScope s_law_is_entry) := ⟨rfl, rfl, rfl, by decide +kernel, rfl, by decide +kernel, by decide +kernel⟩
abbrev s_law_are_entries : Stmt := top 34
def d_law_are_entries : He.DefD := ⟨("_law_are_entries", none), "_law_are_entries", "_law_are_entries", defArgs s_law_are_entries, defBody s_law_are_entries, defScope s_law_are_entries, [], []⟩
abbrev n_law_are_entries : List Str := ["thing", "entry"]
theorem sc_law_are_entries : FnScope n_law_are_entries ["thing"] (defScope s_law_are_entries) := ⟨rfl, rfl, rfl, by decide +kernel, rfl, by decide +kernel, by decide +kernel⟩
abbrev s_law_find : Stmt := top 35
def d_law_find : He.DefD := ⟨("_law_find", none), "_law_find", "_law_find", defArgs s_law_find, defBody s_law_find, defScope s_law_find, [], []⟩
abbrev n_law_find : List Str := ["table", "name", "key", "entry"]
theorem sc_law_find : FnScope n_law_find ["table", "name", "key"] (defScope s_law_find) := ⟨rfl, rfl, rfl, by decide +kernel, rfl, by decide +kernel, by decide +kernel⟩
abbrev s_law_walk : Stmt := top 36
def d_law_walk : He.DefD := ⟨("_law_walk", none), "_law_walk", "_law_walk", defArgs s_law_walk, defBody s_law_walk, defScope s_law_walk, [], []⟩
abbrev n_law_walk : List Str := ["events", "tables", "values", "found", "name", "end", "kind", "needs", "key", "value", "need"]
theorem sc_law_walk : FnScope n_law_walk ["events", "tables"] (defScope s_law_walk) := ⟨rfl, rfl, rfl, by decide +kernel, rfl, by decide +kernel, by decide +kernel⟩
abbrev s_law_wide_order : Stmt := top 37
def d_law_wide_order : He.DefD := ⟨("_law_wide_order", none), "_law_wide_order", "_law_wide_order", defArgs s_law_wide_order, defBody s_law_wide_order, defScope s_law_wide_order, [], []⟩
abbrev n_law_wide_order : List Str := ["bag", "ends", "least", "most", "events", "name", "end", "kind", "needs", "left", "more", "turn", "event"]
theorem sc_law_wide_order : FnScope n_law_wide_order ["bag", "ends", "least", "most"] (defScope s_law_wide_order) := ⟨rfl, rfl, rfl, by decide +kernel, rfl, by decide +kernel, by decide +kernel⟩
abbrev s_law_due_play : Stmt := top 38
def d_law_due_play : He.DefD := ⟨("_law_due_play", none), "_law_due_play", "_law_due_play", defArgs s_law_due_play, defBody s_law_due_play, defScope s_law_due_play, [], []⟩
abbrev n_law_due_play : List Str := ["events", "tables", "name", "end", "key", "value"]
theorem sc_law_due_play : FnScope n_law_due_play ["events", "tables"] (defScope s_law_due_play) := ⟨rfl, rfl, rfl, by decide +kernel, rfl, by decide +kernel, by decide +kernel⟩
abbrev s_law_put : Stmt := top 39
def d_law_put : He.DefD := ⟨("_law_put", none), "_law_put", "_law_put", defArgs s_law_put, defBody s_law_put, defScope s_law_put, [], []⟩
abbrev n_law_put : List Str := ["table", "entry"]
theorem sc_law_put : FnScope n_law_put ["table", "entry"] (defScope s_law_put) := ⟨rfl, rfl, rfl, by decide +kernel, rfl, by decide +kernel, by decide +kernel⟩
abbrev s_law_grown : Stmt := top 40
def d_law_grown : He.DefD := ⟨("_law_grown", none), "_law_grown", "_law_grown", defArgs s_law_grown, defBody s_law_grown, defScope s_law_grown, [], []⟩
abbrev n_law_grown : List Str := ["bag", "events", "world", "tables", "name", "end", "kind", "needs", "true", "key", "need"]
theorem sc_law_grown : FnScope n_law_grown ["bag", "events", "world", "tables"] (defScope s_law_grown) := ⟨rfl, rfl, rfl, by decide +kernel, rfl, by decide +kernel, by decide +kernel⟩
abbrev s_law : Stmt := top 41
def d_law : He.DefD := ⟨("law", none), "law", "law", defArgs s_law, defBody s_law, defScope s_law, [], []⟩
abbrev n_law : List Str := ["script", "bag", "ends", "events", "world", "order", "truth", "tables", "end", "last", "turn", "entry", "elder", "grown", "handed", "told", "place", "altered", "held", "turned", "at"]
theorem sc_law : FnScope n_law ["script"] (defScope s_law) := ⟨rfl, rfl, rfl, by decide +kernel, rfl, by decide +kernel, by decide +kernel⟩
def gs : Ax.Gs := [("Order", "names", d_Order_names)]
def fn : List He.DefD := [d_AskedError_init, d_AskedError_eq, d_BadOrder_init, d_is_whole, d_is_between, d_is_name, d_Event_init, d_Event_eq, d_Order_init, d_Order_eq, d_Order_iter, d_Order_len, d_Order_place, d_Order_event, d_Order_of_end, d_Order_foreign, d_Order_behind, d_Order_loose, d_Order_sources, d_Order_as_kind, d_Order_key_of, d_Order_in_order, d_event_fault, d_are_needs, d_entry_value, d_with_answer, d_play, d_law_bag, d_law_draw, d_law_order, d_law_made_world, d_law_answer, d_law_true, d_law_order_of, d_law_is_whole, d_law_is_entry, d_law_are_entries, d_law_find, d_law_walk, d_law_wide_order, d_law_due_play, d_law_put, d_law_grown, d_law]
def fa : List He.Fa := [.glo "AskedError", .glo "BadOrder", .glo "Event", .glo "Order", .glo "KINDS", .glo "is_whole", .glo "is_between", .glo "is_name", .glo "event_fault", .glo "are_needs", .glo "entry_value", .glo "with_answer", .glo "play", .glo "_law_bag", .glo "_law_draw", .glo "_law_order", .glo "_law_made_world", .glo "_law_answer", .glo "_law_true", .glo "_law_order_of", .glo "_law_is_whole", .glo "_law_is_entry", .glo "_law_are_entries", .glo "_law_find", .glo "_law_walk", .glo "_law_wide_order", .glo "_law_due_play", .glo "_law_put", .glo "_law_grown", .glo "law", .free "isinstance", .free "int", .free "bool", .free "str", .free "len", .free "tuple", .free "all", .free "any", .free "iter", .free "range", .free "abs", .free "list", .free "enumerate", .free "sorted", .free "sum", .free "dict", .int "LONGEST_NAME" 8, .int "MOST_EVENTS" 12, .int "MOST_NEEDS" 3, .int "LAST_END" 5, .str "LETTERS" "abcdefghijklmnopqrstuvwxyz", .str "SIGNS" "abcdefghijklmnopqrstuvwxyz0123456789", .cls "Event", .cls "Order", .mkr "Event", .mkr "Order", .meth "Order" "__iter__", .meth "Order" "__len__", .meth "Order" "place", .meth "Order" "event", .meth "Order" "key_of", .noat "Event" "name", .noat "Event" "end", .noat "Event" "kind", .noat "Event" "needs", .noat "Order" "events", .noat "Order" "_names", .noat "BadOrder" "what", .noat "BadOrder" "name", .noat "BadOrder" "told"]
/-! ### further facts -/
def sl4 : List (Option Value) → Bool
  | [_, _, _, _, some (.builtin n), _] => decide (n = "ValueError.__new__")
  | _ => false
theorem sl4_ok : ∀ {l : List (Option Value)}, sl4 l = true → ∃ k0 k1 k2 k3 k5, l = [k0, k1, k2, k3, some (.builtin "ValueError.__new__"), k5] := by
  intro l h
  unfold sl4 at h
  split at h
  · rename_i k0 k1 k2 k3 n k5
    rw [of_decide_eq_true h]
    exact ⟨k0, k1, k2, k3, k5, rfl⟩
  · cases h
def oexB (K : PySem.W.Frag) (C : Addr) : Bool := match K.lookup C with
  | some ⟨.type t, _, .cls cd, sl⟩ => decide (t = "type") && ((match cd.mro with
    | .ref c :: bm => decide (c = C) && PySem.HandSPX.refsVE bm
    | _ => false) && (sl4 sl.toList && (cd.hasDict && !cd.hasDel)))
  | _ => false
theorem oexB_ok {K : PySem.W.Frag} {C : Addr} (h : oexB K C = true) : ∃ nm q N bs bm sn sub ab col dd k0 k1 k2 k3 k5, K.lookup C = some (excClassObj nm q C N bs bm true sn sub ab col dd k0 k1 k2 k3 k5 "ValueError.__new__") ∧ PySem.HandSPX.refsVE bm = true := by
  unfold oexB at h
  split at h
  · rename_i t dd cd sl ho
    obtain ⟨h1, h⟩ := Bool.and_eq_true_iff.mp h
    obtain ⟨h2, h⟩ := Bool.and_eq_true_iff.mp h
    obtain ⟨h3, h4⟩ := Bool.and_eq_true_iff.mp h
    obtain ⟨h5, h6⟩ := Bool.and_eq_true_iff.mp h4
    obtain ⟨nm, bs, mro, ns, qn, hd, sn, sub, ab, col, del⟩ := cd
    dsimp only at h2 h5 h6
    cases mro with
    | nil => cases h2
    | cons v bm => cases v with
      | ref c =>
        obtain ⟨h7, h8⟩ := Bool.and_eq_true_iff.mp h2
        obtain ⟨k0, k1, k2, k3, k5, e3⟩ := sl4_ok h3
        obtain ⟨l⟩ := sl
        dsimp only at e3
        have e7 := of_decide_eq_true h7
        have e1 := of_decide_eq_true h1
        subst e3 e7 e1 h5
        cases del with
        | true => cases h6
        | false => exact ⟨nm, qn, ns, bs, bm, sn, sub, ab, col, dd, k0, k1, k2, k3, k5, ho, h8⟩
      | _ => cases h2
  · cases h
def oexAll (K : PySem.W.Frag) (C : Addr) : Bool := oexB K C && (decide (PySem.W.findIn K (.ref C) "__setattr__" = some (some (.builtin "object.__setattr__"))) && (decide (PySem.W.subIn K (.ref C) (.type "BaseException") = some true) && (decide (PySem.W.typeIn K (.ref C) = some (.type "type")) && PySem.W.keepIn K (.ref C))))
theorem oexAll_ok {K : PySem.W.Frag} {C : Addr} (h : oexAll K C = true) : OexC K C := by
  obtain ⟨h1, h⟩ := Bool.and_eq_true_iff.mp h
  obtain ⟨h2, h⟩ := Bool.and_eq_true_iff.mp h
  obtain ⟨h3, h⟩ := Bool.and_eq_true_iff.mp h
  obtain ⟨h4, h5⟩ := Bool.and_eq_true_iff.mp h
  exact ⟨oexB_ok h1, of_decide_eq_true h2, of_decide_eq_true h3, of_decide_eq_true h4, h5⟩
/-- C's own __eq__ at f -/
def eqcB (K : PySem.W.Frag) (C : Addr) : Bool := decide (PySem.W.findIn K (.ref C) "__ne__" = some (some (.builtin "object.__ne__"))) && decide (PySem.W.subIn K (.ref C) (.type "object") = some true)
/-- isinstance of instances -/
structure InsC (K : PySem.W.Frag) (C : Addr) : Prop where
  ha : PySem.W.findIn K (.ref C) "__class__" = some (some (.builtin "object.__class__"))
  hn : PySem.W.specialIn K (.builtin "object.__class__") "__get__" = some (some (.builtin "getset_descriptor.__get__"))
  htk : PySem.W.takesIn K (.builtin "object.__class__") = some true
  hm : PySem.W.mroIn K C (.type "object") = some true
def insB (K : PySem.W.Frag) (C : Addr) : Bool := decide (PySem.W.findIn K (.ref C) "__class__" = some (some (.builtin "object.__class__"))) && (decide (PySem.W.specialIn K (.builtin "object.__class__") "__get__" = some (some (.builtin "getset_descriptor.__get__"))) && (decide (PySem.W.takesIn K (.builtin "object.__class__") = some true) && decide (PySem.W.mroIn K C (.type "object") = some true)))
theorem insB_ok {K : PySem.W.Frag} {C : Addr} (h : insB K C = true) : InsC K C := by
  obtain ⟨h1, h⟩ := Bool.and_eq_true_iff.mp h
  obtain ⟨h2, h⟩ := Bool.and_eq_true_iff.mp h
  obtain ⟨h3, h⟩ := Bool.and_eq_true_iff.mp h
  exact ⟨of_decide_eq_true h1, of_decide_eq_true h2, of_decide_eq_true h3, of_decide_eq_true h⟩
def isFnd : Option PySem.W.CFound → Addr → Bool
  | some (.val (.ref a)), g => decide (a = g)
  | _, _ => false
def clsfnB (K : PySem.W.Frag) (C : Addr) (m : Str) : Bool := PySem.W.readsIn K C (.type "type") && (decide (PySem.W.specialIn K (.ref C) "__getattribute__" = some (some (.builtin "type.__getattribute__"))) && (isFnd (PySem.W.findCls K (.ref C) (.type "type") m) (He.ma K C m) && PySem.W.keepIn K (.ref (He.ma K C m))))
theorem clsfnB_ok {K : PySem.W.Frag} {C : Addr} {m : Str} (h : clsfnB K C m = true) : Ax.ClsFn K C m (He.ma K C m) := by
  obtain ⟨h1, h⟩ := Bool.and_eq_true_iff.mp h
  obtain ⟨h2, h⟩ := Bool.and_eq_true_iff.mp h
  obtain ⟨h3, h4⟩ := Bool.and_eq_true_iff.mp h
  refine ⟨⟨.type "type", ⟨h1, of_decide_eq_true h2⟩, ⟨?_, rfl⟩⟩, h4⟩
  revert h3
  cases e : PySem.W.findCls K (.ref C) (.type "type") m with
  | none => intro h3; cases h3
  | some r =>
    cases r with
    | val u =>
      cases u with
      | ref a =>
        intro h3
        have z : a = He.ma K C m := of_decide_eq_true h3
        rw [z]
      | _ => intro h3; cases h3
    | _ => intro h3; cases h3
def exL : List (PySem.W.Frag → Bool) := [fun K => oexAll K (He.ga K "BadOrder"),
  fun K => xfB K (He.ga K "BadOrder"),
  fun K => decide (PySem.W.findIn K (.ref (He.ga K "BadOrder")) "__init__" = some (some (.ref (He.ma K (He.ga K "BadOrder") "__init__")))),
  fun K => decide (PySem.W.typeIn K (.ref (He.ma K (He.ga K "BadOrder") "__init__")) = some (.type "function")),
  fun K => insB K (He.ga K "Event"),
  fun K => insB K (He.ga K "Order"),
  fun K => decide (PySem.W.findIn K (.ref (He.ga K "Order")) "__iter__" = some (some (.ref (He.ma K (He.ga K "Order") "__iter__")))) && PySem.W.isFn K (.ref (He.ma K (He.ga K "Order") "__iter__")),
  fun K => He.tupB K "KINDS" [.str "query", .str "action"]]
def exA (K : PySem.W.Frag) : Bool := exL.all fun q => q K
theorem exA_ok {K : PySem.W.Frag} (h : exA K = true) (i : Nat) {q : PySem.W.Frag → Bool} (e : exL[i]? = some q) : q K = true := List.all_eq_true.mp h q (List.mem_of_getElem? e)
def Tx (w : World) (K : PySem.W.Frag) (mg : Str → Option Value) : Prop := ∃ h : Heap, K.In h ∧ h.Ns mainGlobals mg ∧ Ax.SaysP fa fn exA gs K
section
variable {w : World} {K : PySem.W.Frag} {mg : Str → Option Value}
theorem Tx.g_AskedError (T : Tx w K mg) : mg "AskedError" = some (.ref (He.ga K "AskedError")) := let ⟨_, c⟩ := T; He.glo_ok c.1 c.2.1 (c.2.2.1.fact 0 (f := .glo "AskedError") rfl)
theorem Tx.g_BadOrder (T : Tx w K mg) : mg "BadOrder" = some (.ref (He.ga K "BadOrder")) := let ⟨_, c⟩ := T; He.glo_ok c.1 c.2.1 (c.2.2.1.fact 1 (f := .glo "BadOrder") rfl)
theorem Tx.g_Event (T : Tx w K mg) : mg "Event" = some (.ref (He.ga K "Event")) := let ⟨_, c⟩ := T; He.glo_ok c.1 c.2.1 (c.2.2.1.fact 2 (f := .glo "Event") rfl)
theorem Tx.g_Order (T : Tx w K mg) : mg "Order" = some (.ref (He.ga K "Order")) := let ⟨_, c⟩ := T; He.glo_ok c.1 c.2.1 (c.2.2.1.fact 3 (f := .glo "Order") rfl)
theorem Tx.g_KINDS (T : Tx w K mg) : mg "KINDS" = some (.ref (He.ga K "KINDS")) := let ⟨_, c⟩ := T; He.glo_ok c.1 c.2.1 (c.2.2.1.fact 4 (f := .glo "KINDS") rfl)
theorem Tx.g_is_whole (T : Tx w K mg) : mg "is_whole" = some (.ref (He.ga K "is_whole")) := let ⟨_, c⟩ := T; He.glo_ok c.1 c.2.1 (c.2.2.1.fact 5 (f := .glo "is_whole") rfl)
theorem Tx.g_is_between (T : Tx w K mg) : mg "is_between" = some (.ref (He.ga K "is_between")) := let ⟨_, c⟩ := T; He.glo_ok c.1 c.2.1 (c.2.2.1.fact 6 (f := .glo "is_between") rfl)
theorem Tx.g_is_name (T : Tx w K mg) : mg "is_name" = some (.ref (He.ga K "is_name")) := let ⟨_, c⟩ := T; He.glo_ok c.1 c.2.1 (c.2.2.1.fact 7 (f := .glo "is_name") rfl)
theorem Tx.g_event_fault (T : Tx w K mg) : mg "event_fault" = some (.ref (He.ga K "event_fault")) := let ⟨_, c⟩ := T; He.glo_ok c.1 c.2.1 (c.2.2.1.fact 8 (f := .glo "event_fault") rfl)
theorem Tx.g_are_needs (T : Tx w K mg) : mg "are_needs" = some (.ref (He.ga K "are_needs")) := let ⟨_, c⟩ := T; He.glo_ok c.1 c.2.1 (c.2.2.1.fact 9 (f := .glo "are_needs") rfl)
theorem Tx.g_entry_value (T : Tx w K mg) : mg "entry_value" = some (.ref (He.ga K "entry_value")) := let ⟨_, c⟩ := T; He.glo_ok c.1 c.2.1 (c.2.2.1.fact 10 (f := .glo "entry_value") rfl)
theorem Tx.g_with_answer (T : Tx w K mg) : mg "with_answer" = some (.ref (He.ga K "with_answer")) := let ⟨_, c⟩ := T; He.glo_ok c.1 c.2.1 (c.2.2.1.fact 11 (f := .glo "with_answer") rfl)
theorem Tx.g_play (T : Tx w K mg) : mg "play" = some (.ref (He.ga K "play")) := let ⟨_, c⟩ := T; He.glo_ok c.1 c.2.1 (c.2.2.1.fact 12 (f := .glo "play") rfl)
theorem Tx.g_law_bag (T : Tx w K mg) : mg "_law_bag" = some (.ref (He.ga K "_law_bag")) := let ⟨_, c⟩ := T; He.glo_ok c.1 c.2.1 (c.2.2.1.fact 13 (f := .glo "_law_bag") rfl)
theorem Tx.g_law_draw (T : Tx w K mg) : mg "_law_draw" = some (.ref (He.ga K "_law_draw")) := let ⟨_, c⟩ := T; He.glo_ok c.1 c.2.1 (c.2.2.1.fact 14 (f := .glo "_law_draw") rfl)
theorem Tx.g_law_order (T : Tx w K mg) : mg "_law_order" = some (.ref (He.ga K "_law_order")) := let ⟨_, c⟩ := T; He.glo_ok c.1 c.2.1 (c.2.2.1.fact 15 (f := .glo "_law_order") rfl)
theorem Tx.g_law_made_world (T : Tx w K mg) : mg "_law_made_world" = some (.ref (He.ga K "_law_made_world")) := let ⟨_, c⟩ := T; He.glo_ok c.1 c.2.1 (c.2.2.1.fact 16 (f := .glo "_law_made_world") rfl)
theorem Tx.g_law_answer (T : Tx w K mg) : mg "_law_answer" = some (.ref (He.ga K "_law_answer")) := let ⟨_, c⟩ := T; He.glo_ok c.1 c.2.1 (c.2.2.1.fact 17 (f := .glo "_law_answer") rfl)
theorem Tx.g_law_true (T : Tx w K mg) : mg "_law_true" = some (.ref (He.ga K "_law_true")) := let ⟨_, c⟩ := T; He.glo_ok c.1 c.2.1 (c.2.2.1.fact 18 (f := .glo "_law_true") rfl)
theorem Tx.g_law_order_of (T : Tx w K mg) : mg "_law_order_of" = some (.ref (He.ga K "_law_order_of")) := let ⟨_, c⟩ := T; He.glo_ok c.1 c.2.1 (c.2.2.1.fact 19 (f := .glo "_law_order_of") rfl)
theorem Tx.g_law_is_whole (T : Tx w K mg) : mg "_law_is_whole" = some (.ref (He.ga K "_law_is_whole")) := let ⟨_, c⟩ := T; He.glo_ok c.1 c.2.1 (c.2.2.1.fact 20 (f := .glo "_law_is_whole") rfl)
theorem Tx.g_law_is_entry (T : Tx w K mg) : mg "_law_is_entry" = some (.ref (He.ga K "_law_is_entry")) := let ⟨_, c⟩ := T; He.glo_ok c.1 c.2.1 (c.2.2.1.fact 21 (f := .glo "_law_is_entry") rfl)
theorem Tx.g_law_are_entries (T : Tx w K mg) : mg "_law_are_entries" = some (.ref (He.ga K "_law_are_entries")) := let ⟨_, c⟩ := T; He.glo_ok c.1 c.2.1 (c.2.2.1.fact 22 (f := .glo "_law_are_entries") rfl)
theorem Tx.g_law_find (T : Tx w K mg) : mg "_law_find" = some (.ref (He.ga K "_law_find")) := let ⟨_, c⟩ := T; He.glo_ok c.1 c.2.1 (c.2.2.1.fact 23 (f := .glo "_law_find") rfl)
theorem Tx.g_law_walk (T : Tx w K mg) : mg "_law_walk" = some (.ref (He.ga K "_law_walk")) := let ⟨_, c⟩ := T; He.glo_ok c.1 c.2.1 (c.2.2.1.fact 24 (f := .glo "_law_walk") rfl)
theorem Tx.g_law_wide_order (T : Tx w K mg) : mg "_law_wide_order" = some (.ref (He.ga K "_law_wide_order")) := let ⟨_, c⟩ := T; He.glo_ok c.1 c.2.1 (c.2.2.1.fact 25 (f := .glo "_law_wide_order") rfl)
theorem Tx.g_law_due_play (T : Tx w K mg) : mg "_law_due_play" = some (.ref (He.ga K "_law_due_play")) := let ⟨_, c⟩ := T; He.glo_ok c.1 c.2.1 (c.2.2.1.fact 26 (f := .glo "_law_due_play") rfl)
theorem Tx.g_law_put (T : Tx w K mg) : mg "_law_put" = some (.ref (He.ga K "_law_put")) := let ⟨_, c⟩ := T; He.glo_ok c.1 c.2.1 (c.2.2.1.fact 27 (f := .glo "_law_put") rfl)
theorem Tx.g_law_grown (T : Tx w K mg) : mg "_law_grown" = some (.ref (He.ga K "_law_grown")) := let ⟨_, c⟩ := T; He.glo_ok c.1 c.2.1 (c.2.2.1.fact 28 (f := .glo "_law_grown") rfl)
theorem Tx.g_law (T : Tx w K mg) : mg "law" = some (.ref (He.ga K "law")) := let ⟨_, c⟩ := T; He.glo_ok c.1 c.2.1 (c.2.2.1.fact 29 (f := .glo "law") rfl)
theorem Tx.b_isinstance (T : Tx w K mg) : mg "isinstance" = none := let ⟨_, c⟩ := T; He.free_ok c.1 c.2.1 (c.2.2.1.fact 30 (f := .free "isinstance") rfl)
theorem Tx.b_int (T : Tx w K mg) : mg "int" = none := let ⟨_, c⟩ := T; He.free_ok c.1 c.2.1 (c.2.2.1.fact 31 (f := .free "int") rfl)
theorem Tx.b_bool (T : Tx w K mg) : mg "bool" = none := let ⟨_, c⟩ := T; He.free_ok c.1 c.2.1 (c.2.2.1.fact 32 (f := .free "bool") rfl)
theorem Tx.b_str (T : Tx w K mg) : mg "str" = none := let ⟨_, c⟩ := T; He.free_ok c.1 c.2.1 (c.2.2.1.fact 33 (f := .free "str") rfl)
theorem Tx.b_len (T : Tx w K mg) : mg "len" = none := let ⟨_, c⟩ := T; He.free_ok c.1 c.2.1 (c.2.2.1.fact 34 (f := .free "len") rfl)
theorem Tx.b_tuple (T : Tx w K mg) : mg "tuple" = none := let ⟨_, c⟩ := T; He.free_ok c.1 c.2.1 (c.2.2.1.fact 35 (f := .free "tuple") rfl)
theorem Tx.b_all (T : Tx w K mg) : mg "all" = none := let ⟨_, c⟩ := T; He.free_ok c.1 c.2.1 (c.2.2.1.fact 36 (f := .free "all") rfl)
theorem Tx.b_any (T : Tx w K mg) : mg "any" = none := let ⟨_, c⟩ := T; He.free_ok c.1 c.2.1 (c.2.2.1.fact 37 (f := .free "any") rfl)
theorem Tx.b_iter (T : Tx w K mg) : mg "iter" = none := let ⟨_, c⟩ := T; He.free_ok c.1 c.2.1 (c.2.2.1.fact 38 (f := .free "iter") rfl)
theorem Tx.b_range (T : Tx w K mg) : mg "range" = none := let ⟨_, c⟩ := T; He.free_ok c.1 c.2.1 (c.2.2.1.fact 39 (f := .free "range") rfl)
theorem Tx.b_abs (T : Tx w K mg) : mg "abs" = none := let ⟨_, c⟩ := T; He.free_ok c.1 c.2.1 (c.2.2.1.fact 40 (f := .free "abs") rfl)
theorem Tx.b_list (T : Tx w K mg) : mg "list" = none := let ⟨_, c⟩ := T; He.free_ok c.1 c.2.1 (c.2.2.1.fact 41 (f := .free "list") rfl)
theorem Tx.b_enumerate (T : Tx w K mg) : mg "enumerate" = none := let ⟨_, c⟩ := T; He.free_ok c.1 c.2.1 (c.2.2.1.fact 42 (f := .free "enumerate") rfl)
theorem Tx.b_sorted (T : Tx w K mg) : mg "sorted" = none := let ⟨_, c⟩ := T; He.free_ok c.1 c.2.1 (c.2.2.1.fact 43 (f := .free "sorted") rfl)
theorem Tx.b_sum (T : Tx w K mg) : mg "sum" = none := let ⟨_, c⟩ := T; He.free_ok c.1 c.2.1 (c.2.2.1.fact 44 (f := .free "sum") rfl)
theorem Tx.b_dict (T : Tx w K mg) : mg "dict" = none := let ⟨_, c⟩ := T; He.free_ok c.1 c.2.1 (c.2.2.1.fact 45 (f := .free "dict") rfl)
theorem Tx.i_LONGEST_NAME (T : Tx w K mg) : ∃ t, mg "LONGEST_NAME" = some (.int 8 t) := let ⟨_, c⟩ := T; He.int_ok c.1 c.2.1 (c.2.2.1.fact 46 (f := .int "LONGEST_NAME" 8) rfl)
theorem Tx.i_MOST_EVENTS (T : Tx w K mg) : ∃ t, mg "MOST_EVENTS" = some (.int 12 t) := let ⟨_, c⟩ := T; He.int_ok c.1 c.2.1 (c.2.2.1.fact 47 (f := .int "MOST_EVENTS" 12) rfl)
theorem Tx.i_MOST_NEEDS (T : Tx w K mg) : ∃ t, mg "MOST_NEEDS" = some (.int 3 t) := let ⟨_, c⟩ := T; He.int_ok c.1 c.2.1 (c.2.2.1.fact 48 (f := .int "MOST_NEEDS" 3) rfl)
theorem Tx.i_LAST_END (T : Tx w K mg) : ∃ t, mg "LAST_END" = some (.int 5 t) := let ⟨_, c⟩ := T; He.int_ok c.1 c.2.1 (c.2.2.1.fact 49 (f := .int "LAST_END" 5) rfl)
theorem Tx.s_LETTERS (T : Tx w K mg) : ∃ t, mg "LETTERS" = some (.str "abcdefghijklmnopqrstuvwxyz" t) := let ⟨_, c⟩ := T; He.str_ok c.1 c.2.1 (c.2.2.1.fact 50 (f := .str "LETTERS" "abcdefghijklmnopqrstuvwxyz") rfl)
theorem Tx.s_SIGNS (T : Tx w K mg) : ∃ t, mg "SIGNS" = some (.str "abcdefghijklmnopqrstuvwxyz0123456789" t) := let ⟨_, c⟩ := T; He.str_ok c.1 c.2.1 (c.2.2.1.fact 51 (f := .str "SIGNS" "abcdefghijklmnopqrstuvwxyz0123456789") rfl)
theorem Tx.c_Event (T : Tx w K mg) : Cls K (He.ga K "Event") := let ⟨_, c⟩ := T; He.cls_ok (c.2.2.1.fact 52 (f := .cls "Event") rfl)
theorem Tx.c_Order (T : Tx w K mg) : Cls K (He.ga K "Order") := let ⟨_, c⟩ := T; He.cls_ok (c.2.2.1.fact 53 (f := .cls "Order") rfl)
theorem Tx.k_Event (T : Tx w K mg) : Mk K (He.ga K "Event") (He.ma K (He.ga K "Event") "__init__") := let ⟨_, c⟩ := T; He.mkr_ok (c.2.2.1.fact 54 (f := .mkr "Event") rfl)
theorem Tx.k_Order (T : Tx w K mg) : Mk K (He.ga K "Order") (He.ma K (He.ga K "Order") "__init__") := let ⟨_, c⟩ := T; He.mkr_ok (c.2.2.1.fact 55 (f := .mkr "Order") rfl)
theorem Tx.m_Order_iter (T : Tx w K mg) : Meth K (He.ga K "Order") "__iter__" (He.ma K (He.ga K "Order") "__iter__") := let ⟨_, c⟩ := T; He.meth_ok (c.2.2.1.fact 56 (f := .meth "Order" "__iter__") rfl)
theorem Tx.m_Order_len (T : Tx w K mg) : Meth K (He.ga K "Order") "__len__" (He.ma K (He.ga K "Order") "__len__") := let ⟨_, c⟩ := T; He.meth_ok (c.2.2.1.fact 57 (f := .meth "Order" "__len__") rfl)
theorem Tx.m_Order_place (T : Tx w K mg) : Meth K (He.ga K "Order") "place" (He.ma K (He.ga K "Order") "place") := let ⟨_, c⟩ := T; He.meth_ok (c.2.2.1.fact 58 (f := .meth "Order" "place") rfl)
theorem Tx.m_Order_event (T : Tx w K mg) : Meth K (He.ga K "Order") "event" (He.ma K (He.ga K "Order") "event") := let ⟨_, c⟩ := T; He.meth_ok (c.2.2.1.fact 59 (f := .meth "Order" "event") rfl)
theorem Tx.m_Order_key_of (T : Tx w K mg) : Meth K (He.ga K "Order") "key_of" (He.ma K (He.ga K "Order") "key_of") := let ⟨_, c⟩ := T; He.meth_ok (c.2.2.1.fact 60 (f := .meth "Order" "key_of") rfl)
theorem Tx.n_Event_name (T : Tx w K mg) : NoAttr K (He.ga K "Event") "name" := let ⟨_, c⟩ := T; He.noat_ok (c.2.2.1.fact 61 (f := .noat "Event" "name") rfl)
theorem Tx.n_Event_end (T : Tx w K mg) : NoAttr K (He.ga K "Event") "end" := let ⟨_, c⟩ := T; He.noat_ok (c.2.2.1.fact 62 (f := .noat "Event" "end") rfl)
theorem Tx.n_Event_kind (T : Tx w K mg) : NoAttr K (He.ga K "Event") "kind" := let ⟨_, c⟩ := T; He.noat_ok (c.2.2.1.fact 63 (f := .noat "Event" "kind") rfl)
theorem Tx.n_Event_needs (T : Tx w K mg) : NoAttr K (He.ga K "Event") "needs" := let ⟨_, c⟩ := T; He.noat_ok (c.2.2.1.fact 64 (f := .noat "Event" "needs") rfl)
theorem Tx.n_Order_events (T : Tx w K mg) : NoAttr K (He.ga K "Order") "events" := let ⟨_, c⟩ := T; He.noat_ok (c.2.2.1.fact 65 (f := .noat "Order" "events") rfl)
theorem Tx.n_Order__names (T : Tx w K mg) : NoAttr K (He.ga K "Order") "_names" := let ⟨_, c⟩ := T; He.noat_ok (c.2.2.1.fact 66 (f := .noat "Order" "_names") rfl)
theorem Tx.n_BadOrder_what (T : Tx w K mg) : NoAttr K (He.ga K "BadOrder") "what" := let ⟨_, c⟩ := T; He.noat_ok (c.2.2.1.fact 67 (f := .noat "BadOrder" "what") rfl)
theorem Tx.n_BadOrder_name (T : Tx w K mg) : NoAttr K (He.ga K "BadOrder") "name" := let ⟨_, c⟩ := T; He.noat_ok (c.2.2.1.fact 68 (f := .noat "BadOrder" "name") rfl)
theorem Tx.n_BadOrder_told (T : Tx w K mg) : NoAttr K (He.ga K "BadOrder") "told" := let ⟨_, c⟩ := T; He.noat_ok (c.2.2.1.fact 69 (f := .noat "BadOrder" "told") rfl)
theorem Tx.ox_BadOrder (T : Tx w K mg) : OexC K (He.ga K "BadOrder") := let ⟨_, c⟩ := T; oexAll_ok (exA_ok c.2.2.2.1 0 (q := fun K => oexAll K (He.ga K "BadOrder")) rfl)
theorem Tx.xf_BadOrder (T : Tx w K mg) : XfC K (He.ga K "BadOrder") := let ⟨_, c⟩ := T; xfB_ok (exA_ok c.2.2.2.1 1 (q := fun K => xfB K (He.ga K "BadOrder")) rfl)
theorem Tx.fi_BadOrder (T : Tx w K mg) : PySem.W.findIn K (.ref (He.ga K "BadOrder")) "__init__" = some (some (.ref (He.ma K (He.ga K "BadOrder") "__init__"))) := let ⟨_, c⟩ := T; of_decide_eq_true (exA_ok c.2.2.2.1 2 (q := fun K => decide (PySem.W.findIn K (.ref (He.ga K "BadOrder")) "__init__" = some (some (.ref (He.ma K (He.ga K "BadOrder") "__init__"))))) rfl)
theorem Tx.ft_BadOrder (T : Tx w K mg) : PySem.W.typeIn K (.ref (He.ma K (He.ga K "BadOrder") "__init__")) = some (.type "function") := let ⟨_, c⟩ := T; of_decide_eq_true (exA_ok c.2.2.2.1 3 (q := fun K => decide (PySem.W.typeIn K (.ref (He.ma K (He.ga K "BadOrder") "__init__")) = some (.type "function"))) rfl)
theorem Tx.in_Event (T : Tx w K mg) : InsC K (He.ga K "Event") := let ⟨_, c⟩ := T; insB_ok (exA_ok c.2.2.2.1 4 (q := fun K => insB K (He.ga K "Event")) rfl)
theorem Tx.in_Order (T : Tx w K mg) : InsC K (He.ga K "Order") := let ⟨_, c⟩ := T; insB_ok (exA_ok c.2.2.2.1 5 (q := fun K => insB K (He.ga K "Order")) rfl)
theorem Tx.it_Order (T : Tx w K mg) : (decide (PySem.W.findIn K (.ref (He.ga K "Order")) "__iter__" = some (some (.ref (He.ma K (He.ga K "Order") "__iter__")))) && PySem.W.isFn K (.ref (He.ma K (He.ga K "Order") "__iter__"))) = true := let ⟨_, c⟩ := T; id (exA_ok c.2.2.2.1 6 (q := fun K => decide (PySem.W.findIn K (.ref (He.ga K "Order")) "__iter__" = some (some (.ref (He.ma K (He.ga K "Order") "__iter__")))) && PySem.W.isFn K (.ref (He.ma K (He.ga K "Order") "__iter__"))) rfl)
theorem Tx.t_KINDS (T : Tx w K mg) : ∀ H : Hp, SqT K H (He.ga K "KINDS") [.str "query", .str "action"] := let ⟨_, c⟩ := T; He.tupB_ok (exA_ok c.2.2.2.1 7 (q := fun K => He.tupB K "KINDS" [.str "query", .str "action"]) rfl)
theorem Tx.f_AskedError_init (T : Tx w K mg) : ∃ fd, FunD K "__init__" "AskedError.__init__" (defArgs s_AskedError_init) (defBody s_AskedError_init) (defScope s_AskedError_init) (d_AskedError_init.dvs K) [] (He.fAd K d_AskedError_init.at_) fd := let ⟨_, c⟩ := T; c.2.2.1.def_ 0 (d := d_AskedError_init) rfl
theorem Tx.f_AskedError_eq (T : Tx w K mg) : ∃ fd, FunD K "__eq__" "AskedError.__eq__" (defArgs s_AskedError_eq) (defBody s_AskedError_eq) (defScope s_AskedError_eq) (d_AskedError_eq.dvs K) [] (He.fAd K d_AskedError_eq.at_) fd := let ⟨_, c⟩ := T; c.2.2.1.def_ 1 (d := d_AskedError_eq) rfl
theorem Tx.f_BadOrder_init (T : Tx w K mg) : ∃ fd, FunD K "__init__" "BadOrder.__init__" (defArgs s_BadOrder_init) (defBody s_BadOrder_init) (defScope s_BadOrder_init) (d_BadOrder_init.dvs K) [] (He.fAd K d_BadOrder_init.at_) fd := let ⟨_, c⟩ := T; c.2.2.1.def_ 2 (d := d_BadOrder_init) rfl
theorem Tx.f_is_whole (T : Tx w K mg) : ∃ fd, FunD K "is_whole" "is_whole" (defArgs s_is_whole) (defBody s_is_whole) (defScope s_is_whole) (d_is_whole.dvs K) [] (He.fAd K d_is_whole.at_) fd := let ⟨_, c⟩ := T; c.2.2.1.def_ 3 (d := d_is_whole) rfl
theorem Tx.f_is_between (T : Tx w K mg) : ∃ fd, FunD K "is_between" "is_between" (defArgs s_is_between) (defBody s_is_between) (defScope s_is_between) (d_is_between.dvs K) [] (He.fAd K d_is_between.at_) fd := let ⟨_, c⟩ := T; c.2.2.1.def_ 4 (d := d_is_between) rfl
theorem Tx.f_is_name (T : Tx w K mg) : ∃ fd, FunD K "is_name" "is_name" (defArgs s_is_name) (defBody s_is_name) (defScope s_is_name) (d_is_name.dvs K) [] (He.fAd K d_is_name.at_) fd := let ⟨_, c⟩ := T; c.2.2.1.def_ 5 (d := d_is_name) rfl
theorem Tx.f_Event_init (T : Tx w K mg) : ∃ fd, FunD K "__init__" "Event.__init__" (defArgs s_Event_init) (defBody s_Event_init) (defScope s_Event_init) (d_Event_init.dvs K) [] (He.fAd K d_Event_init.at_) fd := let ⟨_, c⟩ := T; c.2.2.1.def_ 6 (d := d_Event_init) rfl
theorem Tx.f_Event_eq (T : Tx w K mg) : ∃ fd, FunD K "__eq__" "Event.__eq__" (defArgs s_Event_eq) (defBody s_Event_eq) (defScope s_Event_eq) (d_Event_eq.dvs K) [] (He.fAd K d_Event_eq.at_) fd := let ⟨_, c⟩ := T; c.2.2.1.def_ 7 (d := d_Event_eq) rfl
theorem Tx.f_Order_init (T : Tx w K mg) : ∃ fd, FunD K "__init__" "Order.__init__" (defArgs s_Order_init) (defBody s_Order_init) (defScope s_Order_init) (d_Order_init.dvs K) [] (He.fAd K d_Order_init.at_) fd := let ⟨_, c⟩ := T; c.2.2.1.def_ 8 (d := d_Order_init) rfl
theorem Tx.f_Order_eq (T : Tx w K mg) : ∃ fd, FunD K "__eq__" "Order.__eq__" (defArgs s_Order_eq) (defBody s_Order_eq) (defScope s_Order_eq) (d_Order_eq.dvs K) [] (He.fAd K d_Order_eq.at_) fd := let ⟨_, c⟩ := T; c.2.2.1.def_ 9 (d := d_Order_eq) rfl
theorem Tx.f_Order_iter (T : Tx w K mg) : ∃ fd, FunD K "__iter__" "Order.__iter__" (defArgs s_Order_iter) (defBody s_Order_iter) (defScope s_Order_iter) (d_Order_iter.dvs K) [] (He.fAd K d_Order_iter.at_) fd := let ⟨_, c⟩ := T; c.2.2.1.def_ 10 (d := d_Order_iter) rfl
theorem Tx.f_Order_len (T : Tx w K mg) : ∃ fd, FunD K "__len__" "Order.__len__" (defArgs s_Order_len) (defBody s_Order_len) (defScope s_Order_len) (d_Order_len.dvs K) [] (He.fAd K d_Order_len.at_) fd := let ⟨_, c⟩ := T; c.2.2.1.def_ 11 (d := d_Order_len) rfl
theorem Tx.f_Order_place (T : Tx w K mg) : ∃ fd, FunD K "place" "Order.place" (defArgs s_Order_place) (defBody s_Order_place) (defScope s_Order_place) (d_Order_place.dvs K) [] (He.fAd K d_Order_place.at_) fd := let ⟨_, c⟩ := T; c.2.2.1.def_ 12 (d := d_Order_place) rfl
theorem Tx.f_Order_event (T : Tx w K mg) : ∃ fd, FunD K "event" "Order.event" (defArgs s_Order_event) (defBody s_Order_event) (defScope s_Order_event) (d_Order_event.dvs K) [] (He.fAd K d_Order_event.at_) fd := let ⟨_, c⟩ := T; c.2.2.1.def_ 13 (d := d_Order_event) rfl
theorem Tx.f_Order_of_end (T : Tx w K mg) : ∃ fd, FunD K "of_end" "Order.of_end" (defArgs s_Order_of_end) (defBody s_Order_of_end) (defScope s_Order_of_end) (d_Order_of_end.dvs K) [] (He.fAd K d_Order_of_end.at_) fd := let ⟨_, c⟩ := T; c.2.2.1.def_ 14 (d := d_Order_of_end) rfl
theorem Tx.f_Order_foreign (T : Tx w K mg) : ∃ fd, FunD K "foreign" "Order.foreign" (defArgs s_Order_foreign) (defBody s_Order_foreign) (defScope s_Order_foreign) (d_Order_foreign.dvs K) [] (He.fAd K d_Order_foreign.at_) fd := let ⟨_, c⟩ := T; c.2.2.1.def_ 15 (d := d_Order_foreign) rfl
theorem Tx.f_Order_behind (T : Tx w K mg) : ∃ fd, FunD K "behind" "Order.behind" (defArgs s_Order_behind) (defBody s_Order_behind) (defScope s_Order_behind) (d_Order_behind.dvs K) [] (He.fAd K d_Order_behind.at_) fd := let ⟨_, c⟩ := T; c.2.2.1.def_ 16 (d := d_Order_behind) rfl
theorem Tx.f_Order_loose (T : Tx w K mg) : ∃ fd, FunD K "loose" "Order.loose" (defArgs s_Order_loose) (defBody s_Order_loose) (defScope s_Order_loose) (d_Order_loose.dvs K) [] (He.fAd K d_Order_loose.at_) fd := let ⟨_, c⟩ := T; c.2.2.1.def_ 17 (d := d_Order_loose) rfl
theorem Tx.f_Order_sources (T : Tx w K mg) : ∃ fd, FunD K "sources" "Order.sources" (defArgs s_Order_sources) (defBody s_Order_sources) (defScope s_Order_sources) (d_Order_sources.dvs K) [] (He.fAd K d_Order_sources.at_) fd := let ⟨_, c⟩ := T; c.2.2.1.def_ 18 (d := d_Order_sources) rfl
theorem Tx.f_Order_as_kind (T : Tx w K mg) : ∃ fd, FunD K "as_kind" "Order.as_kind" (defArgs s_Order_as_kind) (defBody s_Order_as_kind) (defScope s_Order_as_kind) (d_Order_as_kind.dvs K) [] (He.fAd K d_Order_as_kind.at_) fd := let ⟨_, c⟩ := T; c.2.2.1.def_ 19 (d := d_Order_as_kind) rfl
theorem Tx.f_Order_key_of (T : Tx w K mg) : ∃ fd, FunD K "key_of" "Order.key_of" (defArgs s_Order_key_of) (defBody s_Order_key_of) (defScope s_Order_key_of) (d_Order_key_of.dvs K) [] (He.fAd K d_Order_key_of.at_) fd := let ⟨_, c⟩ := T; c.2.2.1.def_ 20 (d := d_Order_key_of) rfl
theorem Tx.f_Order_in_order (T : Tx w K mg) : ∃ fd, FunD K "_in_order" "Order._in_order" (defArgs s_Order_in_order) (defBody s_Order_in_order) (defScope s_Order_in_order) (d_Order_in_order.dvs K) [] (He.fAd K d_Order_in_order.at_) fd := let ⟨_, c⟩ := T; c.2.2.1.def_ 21 (d := d_Order_in_order) rfl
theorem Tx.f_event_fault (T : Tx w K mg) : ∃ fd, FunD K "event_fault" "event_fault" (defArgs s_event_fault) (defBody s_event_fault) (defScope s_event_fault) (d_event_fault.dvs K) [] (He.fAd K d_event_fault.at_) fd := let ⟨_, c⟩ := T; c.2.2.1.def_ 22 (d := d_event_fault) rfl
theorem Tx.f_are_needs (T : Tx w K mg) : ∃ fd, FunD K "are_needs" "are_needs" (defArgs s_are_needs) (defBody s_are_needs) (defScope s_are_needs) (d_are_needs.dvs K) [] (He.fAd K d_are_needs.at_) fd := let ⟨_, c⟩ := T; c.2.2.1.def_ 23 (d := d_are_needs) rfl
theorem Tx.f_entry_value (T : Tx w K mg) : ∃ fd, FunD K "entry_value" "entry_value" (defArgs s_entry_value) (defBody s_entry_value) (defScope s_entry_value) (d_entry_value.dvs K) [] (He.fAd K d_entry_value.at_) fd := let ⟨_, c⟩ := T; c.2.2.1.def_ 24 (d := d_entry_value) rfl
theorem Tx.f_with_answer (T : Tx w K mg) : ∃ fd, FunD K "with_answer" "with_answer" (defArgs s_with_answer) (defBody s_with_answer) (defScope s_with_answer) (d_with_answer.dvs K) [] (He.fAd K d_with_answer.at_) fd := let ⟨_, c⟩ := T; c.2.2.1.def_ 25 (d := d_with_answer) rfl
theorem Tx.f_play (T : Tx w K mg) : ∃ fd, FunD K "play" "play" (defArgs s_play) (defBody s_play) (defScope s_play) (d_play.dvs K) [] (He.fAd K d_play.at_) fd := let ⟨_, c⟩ := T; c.2.2.1.def_ 26 (d := d_play) rfl
theorem Tx.f_law_bag (T : Tx w K mg) : ∃ fd, FunD K "_law_bag" "_law_bag" (defArgs s_law_bag) (defBody s_law_bag) (defScope s_law_bag) (d_law_bag.dvs K) [] (He.fAd K d_law_bag.at_) fd := let ⟨_, c⟩ := T; c.2.2.1.def_ 27 (d := d_law_bag) rfl
theorem Tx.f_law_draw (T : Tx w K mg) : ∃ fd, FunD K "_law_draw" "_law_draw" (defArgs s_law_draw) (defBody s_law_draw) (defScope s_law_draw) (d_law_draw.dvs K) [] (He.fAd K d_law_draw.at_) fd := let ⟨_, c⟩ := T; c.2.2.1.def_ 28 (d := d_law_draw) rfl
theorem Tx.f_law_order (T : Tx w K mg) : ∃ fd, FunD K "_law_order" "_law_order" (defArgs s_law_order) (defBody s_law_order) (defScope s_law_order) (d_law_order.dvs K) [] (He.fAd K d_law_order.at_) fd := let ⟨_, c⟩ := T; c.2.2.1.def_ 29 (d := d_law_order) rfl
theorem Tx.f_law_made_world (T : Tx w K mg) : ∃ fd, FunD K "_law_made_world" "_law_made_world" (defArgs s_law_made_world) (defBody s_law_made_world) (defScope s_law_made_world) (d_law_made_world.dvs K) [] (He.fAd K d_law_made_world.at_) fd := let ⟨_, c⟩ := T; c.2.2.1.def_ 30 (d := d_law_made_world) rfl
theorem Tx.f_law_answer (T : Tx w K mg) : ∃ fd, FunD K "_law_answer" "_law_answer" (defArgs s_law_answer) (defBody s_law_answer) (defScope s_law_answer) (d_law_answer.dvs K) [] (He.fAd K d_law_answer.at_) fd := let ⟨_, c⟩ := T; c.2.2.1.def_ 31 (d := d_law_answer) rfl
theorem Tx.f_law_true (T : Tx w K mg) : ∃ fd, FunD K "_law_true" "_law_true" (defArgs s_law_true) (defBody s_law_true) (defScope s_law_true) (d_law_true.dvs K) [] (He.fAd K d_law_true.at_) fd := let ⟨_, c⟩ := T; c.2.2.1.def_ 32 (d := d_law_true) rfl
theorem Tx.f_law_order_of (T : Tx w K mg) : ∃ fd, FunD K "_law_order_of" "_law_order_of" (defArgs s_law_order_of) (defBody s_law_order_of) (defScope s_law_order_of) (d_law_order_of.dvs K) [] (He.fAd K d_law_order_of.at_) fd := let ⟨_, c⟩ := T; c.2.2.1.def_ 33 (d := d_law_order_of) rfl
theorem Tx.f_law_is_whole (T : Tx w K mg) : ∃ fd, FunD K "_law_is_whole" "_law_is_whole" (defArgs s_law_is_whole) (defBody s_law_is_whole) (defScope s_law_is_whole) (d_law_is_whole.dvs K) [] (He.fAd K d_law_is_whole.at_) fd := let ⟨_, c⟩ := T; c.2.2.1.def_ 34 (d := d_law_is_whole) rfl
theorem Tx.f_law_is_entry (T : Tx w K mg) : ∃ fd, FunD K "_law_is_entry" "_law_is_entry" (defArgs s_law_is_entry) (defBody s_law_is_entry) (defScope s_law_is_entry) (d_law_is_entry.dvs K) [] (He.fAd K d_law_is_entry.at_) fd := let ⟨_, c⟩ := T; c.2.2.1.def_ 35 (d := d_law_is_entry) rfl
theorem Tx.f_law_are_entries (T : Tx w K mg) : ∃ fd, FunD K "_law_are_entries" "_law_are_entries" (defArgs s_law_are_entries) (defBody s_law_are_entries) (defScope s_law_are_entries) (d_law_are_entries.dvs K) [] (He.fAd K d_law_are_entries.at_) fd := let ⟨_, c⟩ := T; c.2.2.1.def_ 36 (d := d_law_are_entries) rfl
theorem Tx.f_law_find (T : Tx w K mg) : ∃ fd, FunD K "_law_find" "_law_find" (defArgs s_law_find) (defBody s_law_find) (defScope s_law_find) (d_law_find.dvs K) [] (He.fAd K d_law_find.at_) fd := let ⟨_, c⟩ := T; c.2.2.1.def_ 37 (d := d_law_find) rfl
theorem Tx.f_law_walk (T : Tx w K mg) : ∃ fd, FunD K "_law_walk" "_law_walk" (defArgs s_law_walk) (defBody s_law_walk) (defScope s_law_walk) (d_law_walk.dvs K) [] (He.fAd K d_law_walk.at_) fd := let ⟨_, c⟩ := T; c.2.2.1.def_ 38 (d := d_law_walk) rfl
theorem Tx.f_law_wide_order (T : Tx w K mg) : ∃ fd, FunD K "_law_wide_order" "_law_wide_order" (defArgs s_law_wide_order) (defBody s_law_wide_order) (defScope s_law_wide_order) (d_law_wide_order.dvs K) [] (He.fAd K d_law_wide_order.at_) fd := let ⟨_, c⟩ := T; c.2.2.1.def_ 39 (d := d_law_wide_order) rfl
theorem Tx.f_law_due_play (T : Tx w K mg) : ∃ fd, FunD K "_law_due_play" "_law_due_play" (defArgs s_law_due_play) (defBody s_law_due_play) (defScope s_law_due_play) (d_law_due_play.dvs K) [] (He.fAd K d_law_due_play.at_) fd := let ⟨_, c⟩ := T; c.2.2.1.def_ 40 (d := d_law_due_play) rfl
theorem Tx.f_law_put (T : Tx w K mg) : ∃ fd, FunD K "_law_put" "_law_put" (defArgs s_law_put) (defBody s_law_put) (defScope s_law_put) (d_law_put.dvs K) [] (He.fAd K d_law_put.at_) fd := let ⟨_, c⟩ := T; c.2.2.1.def_ 41 (d := d_law_put) rfl
theorem Tx.f_law_grown (T : Tx w K mg) : ∃ fd, FunD K "_law_grown" "_law_grown" (defArgs s_law_grown) (defBody s_law_grown) (defScope s_law_grown) (d_law_grown.dvs K) [] (He.fAd K d_law_grown.at_) fd := let ⟨_, c⟩ := T; c.2.2.1.def_ 42 (d := d_law_grown) rfl
theorem Tx.f_law (T : Tx w K mg) : ∃ fd, FunD K "law" "law" (defArgs s_law) (defBody s_law) (defScope s_law) (d_law.dvs K) [] (He.fAd K d_law.at_) fd := let ⟨_, c⟩ := T; c.2.2.1.def_ 43 (d := d_law) rfl
theorem Tx.p_Order_names (T : Tx w K mg) : PropOf K (He.ga K "Order") "names" (He.ma K (He.ga K "Order") "names") (Ax.gAd K (He.ga K "Order") "names") ∧ ∃ fd, FunD K "names" "Order.names" (defArgs s_Order_names) (defBody s_Order_names) (defScope s_Order_names) [] [] (Ax.gAd K (He.ga K "Order") "names") fd := let ⟨_, c⟩ := T; c.2.2.getter 0 rfl
end
end K21
set_option maxHeartbeats 1000000
/-! The law's bag and its draws. -/
namespace K21
open PySem PySem.Spec PyProof.Rows L2 Ax DL
section
variable {P : Program} {w : World} {K : PySem.W.Frag} {mg : Str → Option Value} {base : Heap}
def spBag (K : PySem.W.Frag) : Sp := fun vs H Q _ => ∃ (a : Addr) (ns : List Int), vs = [.ref a] ∧ SqL K H a (ns.map V.int) ∧ ns.length ≤ 63 ∧ ∀ b c ms H', Ext H H' → H b = none → BagAt H' b c ms 0 → Q (.ref b) H'
theorem ok_bag (T : Tx w K mg) : Dn P w K mg base CX0 1 "_law_bag" ["script"] (spBag K) := by
  obtain ⟨fd, F⟩ := T.f_law_bag
  refine ⟨_, fd, F.ok sc_law_bag (fun vs H Q E h => ?_) (fun cdv A outer s H vs Q E hr h => ⟨_, PSs.nox (pss_cons
    (ps_setLc (i := 1) (own := [("cell", 2)]) (g := gName 2) (tt := tYes) (te := tCB (fun xs H Q => ∃ i, xs = [.int i] ∧ Q (.int (if i < 0 then -i else i)) H) (tCons (tVar 2) tNil)) (by rfl) sc_law_bag.nd rfl rfl (sw_true rfl rfl rfl (by decide +kernel)) (pi_list (pe_slice sl_list (pv 0) po_none (po_some pe_int)))
      (blkOk_by (own := [("cell", 2)]) (N := n_law_bag) (sc := defScope s_law_bag) (by decide +kernel)) (fun _ _ _ _ _ => pg_name (i := 2) sc_law_bag.nd rfl (Or.inl rfl)) (fun _ _ _ _ _ => pts_nil)
      (fun _ _ _ _ _ => pe_callB call_abs rfl T.b_abs (by decide +kernel) (pa_cons (pv 2) pa_nil))) (pss_cons
    (ps_if (pt_cmpR op_eq (pe_callB call_len_seq rfl T.b_len (by decide +kernel) (pa_cons (pv 1) pa_nil)) pe_int (nomark _)) (pss_one (ps_set (i := 1) sc_law_bag.nd rfl (Or.inl rfl) (pe_lst (pa_cons pe_int pa_nil)))) pss_nil)
    (pss_one (ps_ret (pe_lst (pa_cons (pv 1) (pa_cons pe_int (pa_cons pe_int pa_nil)))))))), ?_⟩), T.g_law_bag, F.kp, F.bindsN fun _ _ _ _ _ _ us hl => match us, hl with | [_], _ => rfl⟩
  · obtain ⟨a, ns, rfl, _⟩ := h
    rfl
  · obtain ⟨a, ns, rfl, ha, hl, h⟩ := h
    have hcut : cutV (ns.map V.int) none (some 63) = ns.map V.int := by
      have e := cut_to (ns.map V.int) 63
      rw [List.take_of_length_le (by rw [List.length_map]; exact hl)] at e
      exact e
    refine ⟨_, rfl, _, rfl, a, _, rfl, ha, fun p hp => ?_⟩
    have x1 : Ext H (upd H p (.lst (cutV (ns.map V.int) none (some 63)))) := Ext.upd hp
    have hp1 : (upd H p (.lst (cutV (ns.map V.int) none (some 63)))) p = some (.lst (ns.map V.int)) := by rw [upd_same, hcut]
    generalize (upd H p (.lst (cutV (ns.map V.int) none (some 63)))) = H1 at x1 hp1 ⊢
    refine ⟨p, rfl, ⟨_, SqL.of hp1⟩, fun D hD => ?_⟩
    refine lc_acc (walk_list (K := K) (xs := ns.map V.int)) hD (fun i acc B => Ext H1 B ∧ acc = (ns.take i).map fun m => V.int (if m < 0 then -m else m)) ⟨Ext.rfl', rfl⟩ (fun i acc H4 _ _ q => SqL.of (ext_del _ _ (q.1 _ _ hp1))) ?_ ?_
    · rintro i y H4 H' acc hi hacc hl2 ⟨xB, ea⟩ ⟨eH, hy⟩
      subst eH
      rw [List.getElem?_map] at hy
      rw [List.length_map] at hi
      cases qz : ns[i]? with
      | none => rw [qz] at hy; cases hy
      | some z =>
        rw [qz] at hy
        cases Option.some.inj hy
        refine ⟨rfl, ?_⟩
        refine yes_go (iteT ?_)
        refine ⟨_, rfl, z, rfl, ?_⟩
        refine acc_add hacc hl2 (by have : 63 < sizeLine := by decide
                                    omega) ⟨xB, ?_⟩
        rw [ea, List.take_add_one, qz, List.map_append]
        rfl
    · rintro H4 acc hacc hl2 ⟨xB, ea⟩
      have ea2 : acc = (ns.map fun m => if m < 0 then -m else m).map V.int := by
        rw [ea, List.map_map, List.length_map, List.take_of_length_le (Nat.le_refl _)]
        rfl
      rw [ea2] at hacc
      have x4 : Ext H H4 := x1.trans fun b o hb => ext_del _ _ (xB b o hb)
      have hD0 : H D = none := by
        cases q : H D with
        | none => rfl
        | some o => rw [x1 _ _ q] at hD; cases hD
      have fin : ∀ (c : Addr) (ms : List Int) (H5 : Hp), Ext H H5 → H5 c = some (.lst (ms.map V.int)) → ms ≠ [] → ms.length ≤ 63 → (∀ m ∈ ms, 0 ≤ m) → ∀ b, H5 b = none → Q (.ref b) (upd H5 b (.lst [.ref c, .int 0, .int 0])) := by
        intro c ms H5 x5 hc hne hln hpos b hb
        have hcb : c ≠ b := ne_of_none hc hb
        have hb0 : H b = none := by
          cases q : H b with
          | none => rfl
          | some o => rw [x5 _ _ q] at hb; cases hb
        exact h b c ms _ (ext_upd_of x5 hb0) hb0 ⟨0, 0, upd_same, (upd_ne hcb).trans hc, Ne.symm hcb, by decide, by decide, by decide, hne, hln, hpos⟩
      refine ⟨_, rfl, D, _, rfl, .inl (SqL.of hacc), rfl, _, rfl, ?_⟩
      by_cases c : ns = []
      · subst c
        refine iteTd (by rfl) ?_
        refine ⟨by decide, fun l hl3 => ?_⟩
        refine ⟨_, rfl, ?_, fun b hb => ?_⟩
        · show 3 ≤ sizeLine
          decide
        · exact fin l [5] _ (x4.trans (Ext.upd hl3)) upd_same (by decide) (by decide) (by decide) b hb
      · refine iteFd' ?_ ?_
        · have : ns.length ≠ 0 := fun z => c (List.length_eq_zero_iff.mp z)
          simp only [List.length_map, decide_eq_false_iff_not]
          intro z
          injection z with z
          omega
        · refine ⟨_, rfl, ?_, fun b hb => ?_⟩
          · show 3 ≤ sizeLine
            decide
          · refine fin D _ H4 x4 hacc ?_ ?_ ?_ b hb
            · intro z
              exact c (List.map_eq_nil_iff.mp z)
            · rw [List.length_map]
              exact hl
            · intro m hm
              obtain ⟨z, _, rfl⟩ := List.mem_map.mp hm
              split <;> omega
/-! ### draw -/
def spDraw : Sp := fun vs H Q _ => ∃ (b c : Addr) (ms : List Int) (n : Nat) (lim : Int), vs = [.ref b, .int lim] ∧ BagAt H b c ms n ∧ n < 1000000 ∧ 1 ≤ lim ∧ lim.natAbs < 2 ^ 200 ∧ ∀ d H', 0 ≤ d → d < lim → Off b H H' → BagAt H' b c ms (n + 1) → Q (.int d) H'
theorem ok_draw (T : Tx w K mg) : Dn P w K mg base CX0 1 "_law_draw" ["bag", "limit"] spDraw := by
  obtain ⟨fd, F⟩ := T.f_law_draw
  refine ⟨_, fd, F.ok sc_law_draw (fun vs H Q E h => ?_) (fun cdv A outer s H vs Q E hr h => ⟨_, PSs.nox (pss_cons
    (ps_if (pt_cmpR op_gt (pe_ix ix_list (pv 0) pe_int (fun _ _ => rfl)) pe_int (nomark _)) (pss_cons
      (ps_set (i := 2) sc_law_draw.nd rfl (Or.inl rfl) (pe_op op_mod (pe_callTy call_int1 rfl T.b_int (by decide +kernel) (pa_cons (pe_ix ix_list (pv 0) pe_int (fun _ _ => rfl)) pa_nil)) (pv 1))) (pss_cons
      (ps_asg (pe_op op_fdivW (pe_ix ix_list (pv 0) pe_int (fun _ _ => rfl)) (pv 1)) (pg_sub (pv 0) pe_int set_list))
      (pss_one (ps_ret (pv 2))))) pss_nil) (pss_cons
    (ps_set (i := 3) sc_law_draw.nd rfl (Or.inl rfl) (pe_ix ix_list (pv 0) pe_int (fun _ _ => rfl))) (pss_cons
    (ps_asg (pe_op op_add (pv 3) pe_int) (pg_sub (pv 0) pe_int set_list)) (pss_cons
    (ps_set (i := 4) sc_law_draw.nd rfl (Or.inl rfl) (pe_ix ix_list (pv 0) pe_int (fun _ _ => rfl))) (pss_cons
    (ps_set (i := 5) sc_law_draw.nd rfl (Or.inl rfl) (pe_ix ix_list (pv 4) (pe_op op_mod (pe_callTy call_int1 rfl T.b_int (by decide +kernel) (pa_cons (pv 3) pa_nil)) (pe_callB call_len_seq rfl T.b_len (by decide +kernel) (pa_cons (pv 4) pa_nil))) (fun _ _ => rfl))) (pss_cons
    (ps_if (PW.pt (pw_and (pt_cmpR op_lt (pv 3) (pe_callB call_len_seq rfl T.b_len (by decide +kernel) (pa_cons (pv 4) pa_nil)) (nomark _)) (pw_and1 (pt_cmpR op_ge (pv 5) (pe_op op_pow pe_int pe_int) (nomark _))))) (pss_cons
      (ps_asg (pe_op op_fdivW (pv 5) (pv 1)) (pg_sub (pv 0) pe_int set_list))
      (pss_one (ps_ret (pe_op op_mod (pe_callTy call_int1 rfl T.b_int (by decide +kernel) (pa_cons (pv 5) pa_nil)) (pv 1))))) pss_nil) (pss_cons
    (ps_set (i := 6) sc_law_draw.nd rfl (Or.inl rfl) (pe_op op_mod (pe_callTy call_int1 rfl T.b_int (by decide +kernel) (pa_cons
      (pe_op op_add (pe_op op_add (pe_op op_mul (pe_op op_add (pv 5) pe_int) pe_int) (pe_op op_mul (pe_op op_mul (pv 3) (pv 3)) pe_int)) (pe_op op_mul (pv 3) pe_int)) pa_nil)) pe_int)) (pss_cons
    (ps_set (i := 6) sc_law_draw.nd rfl (Or.inl rfl) (pe_op op_mod (pe_callTy call_int1 rfl T.b_int (by decide +kernel) (pa_cons
      (pe_op op_add (pe_op op_mul (pv 6) pe_int) (pe_op op_mul (pe_op op_add (pv 3) pe_int) pe_int)) pa_nil)) pe_int))
    (pss_one (ps_ret (pe_op op_mod (pe_callTy call_int1 rfl T.b_int (by decide +kernel) (pa_cons (pe_op op_fdiv (pv 6) pe_int) pa_nil)) (pv 1)))))))))))), ?_⟩), T.g_law_draw, F.kp, F.bindsN fun _ _ _ _ _ _ us hl => match us, hl with | [_, _], _ => rfl⟩
  · obtain ⟨b, c, ms, n, lim, rfl, _⟩ := h
    rfl
  · obtain ⟨b, c, ms, n, lim, rfl, ⟨t, r, hb, hc, hbc, ht0, htn, hr0, hne, hln, hpos⟩, hn, hl1, hl2, h⟩ := h
    refine ⟨_, rfl, b, _, _, _, rfl, rfl, SqL.of hb, atI_nat (j := 2) rfl, _, _, rfl, rfl, _, rfl, ?_⟩
    by_cases c0 : 0 < r
    · refine iteTd (decide_eq_true c0) ?_
      refine ⟨_, rfl, b, _, _, _, rfl, rfl, SqL.of hb, atI_nat (j := 2) rfl, .inl ⟨r, rfl, ?_⟩⟩
      refine ⟨_, rfl, _, _, rfl, rfl, by omega, ?_⟩
      refine ⟨_, rfl, b, _, _, _, rfl, rfl, SqL.of hb, atI_nat (j := 2) rfl, _, rfl, _, _, rfl, rfl, wide_div (by omega) hl2 (by decide) (by decide), ?_⟩
      refine ⟨_, rfl, b, _, _, 2, rfl, rfl, hb, rfl, ?_⟩
      refine ⟨_, rfl, ?_⟩
      refine h _ _ (mod_lt hl1).1 (mod_lt hl1).2 off_upd ⟨t, r / lim, upd_same, (upd_ne hbc.symm).trans hc, hbc, ht0, by omega, Int.ediv_nonneg hr0 (by omega), hne, hln, hpos⟩
    refine iteFd c0 ?_
    refine ⟨_, rfl, b, _, _, _, rfl, rfl, SqL.of hb, atI_nat (j := 1) rfl, ?_⟩
    refine ⟨_, rfl, _, _, rfl, rfl, _, rfl, b, _, _, 1, rfl, rfl, hb, rfl, ?_⟩
    have hb2 : (upd H b (.lst ([V.ref c, V.int t, V.int r].set 1 (V.int (t + 1))))) b = some (.lst [.ref c, .int (t + 1), .int r]) := upd_same
    have hc2 : (upd H b (.lst ([V.ref c, V.int t, V.int r].set 1 (V.int (t + 1))))) c = some (.lst (ms.map V.int)) := (upd_ne hbc.symm).trans hc
    have o2 : Off b H (upd H b (.lst ([V.ref c, V.int t, V.int r].set 1 (V.int (t + 1))))) := off_upd
    generalize (upd H b (.lst ([V.ref c, V.int t, V.int r].set 1 (V.int (t + 1))))) = H2 at hb2 hc2 o2 ⊢
    refine ⟨_, rfl, b, _, _, _, rfl, rfl, SqL.of hb2, atI_nat (j := 0) rfl, ?_⟩
    have hml : 0 < ms.length := by
      cases ms with
      | nil => exact absurd rfl hne
      | cons m r => exact Nat.zero_lt_succ _
    obtain ⟨j, hj⟩ : ∃ j : Nat, t % (ms.length : Int) = (j : Int) := ⟨(t % (ms.length : Int)).toNat, by
      have := Int.emod_nonneg t (show (ms.length : Int) ≠ 0 by omega)
      omega⟩
    have hjl : j < ms.length := by
      have := Int.emod_lt_of_pos t (show 0 < (ms.length : Int) by omega)
      omega
    have qm : ms[j]? = some ms[j] := List.getElem?_eq_getElem hjl
    have hm0 : 0 ≤ ms[j] := hpos _ (List.getElem_mem hjl)
    generalize ms[j] = m at qm hm0
    have hat : atI (ms.map V.int) (t % (ms.length : Int)) = some (.int m) := by
      rw [hj]
      exact atI_nat (by rw [List.getElem?_map, qm]; rfl)
    refine ⟨_, rfl, _, rfl, .inl ⟨t, rfl, ?_⟩⟩
    refine ⟨_, rfl, c, _, rfl, .inl (SqL.of hc2), ?_⟩
    refine ⟨_, _, rfl, rfl, by rw [List.length_map]; omega, ?_⟩
    refine ⟨c, _, _, _, rfl, rfl, SqL.of hc2, by rw [List.length_map]; exact hat, ?_⟩
    refine ⟨_, rfl, _, rfl, c, _, rfl, .inl (SqL.of hc2), _, _, rfl, rfl, _, rfl, ?_⟩
    by_cases c1 : t < ((ms.map V.int).length : Int)
    · refine iteTd (decide_eq_true c1) ?_
      refine ⟨_, rfl, _, _, rfl, rfl, ⟨by decide, by decide, by decide⟩, _, _, rfl, rfl, _, rfl, ?_⟩
      by_cases c2 : (10 : Int) ^ (18 : Int).toNat ≤ m
      · rw [decide_eq_true c2]
        refine iteT ?_
        refine ⟨_, rfl, _, rfl, _, _, rfl, rfl, wide_div (by omega) hl2 (by decide) (by decide), _, rfl, b, _, _, 2, rfl, rfl, hb2, rfl, ?_⟩
        refine ⟨_, rfl, .inl ⟨_, rfl, _, rfl, _, _, rfl, rfl, by omega, ?_⟩⟩
        refine h _ _ (mod_lt hl1).1 (mod_lt hl1).2 (o2.trans off_upd) ⟨t + 1, m / lim, upd_same, (upd_ne hbc.symm).trans hc2, hbc, by omega, by omega, Int.ediv_nonneg hm0 (by omega), hne, hln, hpos⟩
      · rw [decide_eq_false c2]
        refine iteF ?_
        refine ⟨_, rfl, _, _, rfl, rfl, _, _, rfl, rfl, .inr ⟨by decide, by decide⟩, _, rfl, _, rfl, _, _, rfl, rfl, .inl ⟨by omega, by omega⟩, _, _, rfl, rfl, .inr ⟨by decide, by decide⟩, _, _, rfl, rfl, _, rfl, _, _, rfl, rfl, .inr ⟨by decide, by decide⟩, _, _, rfl, rfl, .inl ⟨_, rfl, _, _, rfl, rfl, by show (0 : Int) < _; decide, ?_⟩⟩
        refine ⟨_, rfl, _, _, rfl, rfl, .inr ⟨by decide, by decide⟩, _, rfl, _, _, rfl, rfl, _, _, rfl, rfl, .inr ⟨by decide, by decide⟩, _, _, rfl, rfl, .inl ⟨_, rfl, _, _, rfl, rfl, by show (0 : Int) < _; decide, ?_⟩⟩
        refine ⟨_, rfl, _, _, rfl, rfl, ⟨by decide, by decide⟩, .inl ⟨_, rfl, _, rfl, _, _, rfl, rfl, by omega, ?_⟩⟩
        refine h _ _ (mod_lt hl1).1 (mod_lt hl1).2 o2 ⟨t + 1, r, hb2, hc2, hbc, by omega, by omega, hr0, hne, hln, hpos⟩
    · refine iteFd c1 ?_
      refine iteF ?_
      refine ⟨_, rfl, _, _, rfl, rfl, _, _, rfl, rfl, .inr ⟨by decide, by decide⟩, _, rfl, _, rfl, _, _, rfl, rfl, .inl ⟨by omega, by omega⟩, _, _, rfl, rfl, .inr ⟨by decide, by decide⟩, _, _, rfl, rfl, _, rfl, _, _, rfl, rfl, .inr ⟨by decide, by decide⟩, _, _, rfl, rfl, .inl ⟨_, rfl, _, _, rfl, rfl, by show (0 : Int) < _; decide, ?_⟩⟩
      refine ⟨_, rfl, _, _, rfl, rfl, .inr ⟨by decide, by decide⟩, _, rfl, _, _, rfl, rfl, _, _, rfl, rfl, .inr ⟨by decide, by decide⟩, _, _, rfl, rfl, .inl ⟨_, rfl, _, _, rfl, rfl, by show (0 : Int) < _; decide, ?_⟩⟩
      refine ⟨_, rfl, _, _, rfl, rfl, ⟨by decide, by decide⟩, .inl ⟨_, rfl, _, rfl, _, _, rfl, rfl, by omega, ?_⟩⟩
      refine h _ _ (mod_lt hl1).1 (mod_lt hl1).2 o2 ⟨t + 1, r, hb2, hc2, hbc, by omega, by omega, hr0, hne, hln, hpos⟩
/-! ### the same over data -/
def SDraw : GFB := fun ds n Φ => ∃ lim : Int, ds = [.int lim] ∧ 1 ≤ lim ∧ lim.natAbs < 2 ^ 200 ∧ n < 1000000 ∧ ∀ d, 0 ≤ d → d < lim → Φ (.int d) (n + 1)
theorem dn_draw (T : Tx w K mg) : Dn P w K mg base CX0 1 "_law_draw" ["bag", "limit"] (spB ⟨P, w, K, nE⟩ SDraw) := (ok_draw T).imp fun vs H Q E h => by
  obtain ⟨B, b, c, ms, n, us, ds, Φ, rfl, hb, b0, c0, xB, r, ⟨lim, rfl, h1, h2, h3, g⟩, q⟩ := h
  cases r with
  | cons a t =>
    cases a
    cases t
    refine ⟨b, c, ms, n, lim, rfl, hb, h3, h1, h2, fun d H' d0 d1 o hB => ?_⟩
    exact q B H' (.int d) (.int d) (n + 1) Ext.rfl' (fun a u e => o a u (ne_of_none e b0) (xB a u e)) (fun a u ne e => o a u ne e) (fun a e n => absurd n e) hB (.int d) (g d d0 d1)
end
end K21
/-! Readings that leave the state as it is, and rules of readings by their values. -/
namespace DL
open PySem PySem.Spec PyProof.Rows L2 Ax
def Ev (g : GX) (s : Stt) (w : W) : Prop := ∀ Φ : W → Stt → Prop, Φ w s → g s Φ
def EvB (g : GB) (s : Stt) (b : Bool) : Prop := ∀ Φ : Bool → Stt → Prop, Φ b s → g s Φ
def EvA (g : GA) (s : Stt) (ws : List W) : Prop := ∀ Φ : List W → Stt → Prop, Φ ws s → g s Φ
def EvI (g : GI) (s : Stt) (ds : List D) : Prop := ∀ Φ : List D → Stt → Prop, Φ ds s → g s Φ
def EvO (g : Stt → (Option Int → Stt → Prop) → Prop) (s : Stt) (o : Option Int) : Prop := ∀ Φ : Option Int → Stt → Prop, Φ o s → g s Φ
section
variable {s s' s2 : Stt} {g g1 g2 : GX} {gt gt1 gt2 : GB} {ga gk : GA} {w w1 w2 : W} {d e : D} {ds es : List D} {ws us : List W} {b b1 b2 : Bool} {i : Nat}
theorem Ev.name (h : s.r[i]? = some (some (.val d))) : Ev (gName i) s (.dat d) := fun Φ q => by
  unfold gName; rw [h]; exact q
theorem Ev.nameO (h : s.r[i]? = some (some (.own ds))) : Ev (gName i) s (.loc i) := fun Φ q => by
  unfold gName; rw [h]; exact q
theorem Ev.dt : Ev (gDat d) s (.dat d) := fun _ q => q
theorem Ev.bin {f : D → D → Option W} (h1 : Ev g1 s w1) (h2 : Ev g2 s w2) (r1 : rd w1 s = some d) (r2 : rd w2 s = some e) (h : f d e = some w) : Ev (gBin f g1 g2) s w := fun _ q => h1 _ (h2 _ ⟨d, e, w, r1, r2, h, q⟩)
theorem Ev.un {f : D → Option W} (h1 : Ev g1 s w1) (r1 : rd w1 s = some d) (h : f d = some w) : Ev (gUn f g1) s w := fun _ q => h1 _ ⟨d, w, r1, h, q⟩
theorem Ev.and (h1 : Ev g1 s w1) (r1 : rd w1 s = some (.bl b1)) (h2 : b1 = true → Ev g2 s w2 ∧ rd w2 s = some (.bl b2) ∧ w2 = .dat (.bl b2)) : Ev (gAnd g1 g2) s (.dat (.bl (b1 && b2))) := fun Φ q => h1 _ ⟨b1, r1, by
  cases b1 with
  | true =>
    obtain ⟨x, y, z⟩ := h2 rfl
    rw [if_pos rfl]
    subst z
    exact x _ q
  | false => exact q⟩
theorem Ev.or (h1 : Ev g1 s w1) (r1 : rd w1 s = some (.bl b1)) (h2 : b1 = false → Ev g2 s (.dat (.bl b2))) : Ev (gOr g1 g2) s (.dat (.bl (b1 || b2))) := fun Φ q => h1 _ ⟨b1, r1, by
  cases b1 with
  | false =>
    rw [if_neg (by decide)]
    exact h2 rfl _ q
  | true => exact q⟩
theorem Ev.not (h1 : Ev g1 s w1) (r1 : rd w1 s = some (.bl b1)) : Ev (gNot g1) s (.dat (.bl (!b1))) := fun Φ q => h1 _ ⟨b1, r1, q⟩
theorem Ev.isN (h1 : Ev g1 s w1) (r1 : rd w1 s = some d) : Ev (gIsN g1) s (.dat (.bl (isNonD d))) := fun Φ q => h1 _ ⟨d, r1, q⟩
theorem Ev.notN (h1 : Ev g1 s w1) (r1 : rd w1 s = some d) : Ev (gNotN g1) s (.dat (.bl (!isNonD d))) := fun Φ q => h1 _ ⟨d, r1, q⟩
theorem Ev.ifT (h : EvB gt s true) (h1 : Ev g1 s w) : Ev (gIf gt g1 g2) s w := fun Φ q => h _ (by rw [if_pos rfl]; exact h1 _ q)
theorem Ev.ifF (h : EvB gt s false) (h1 : Ev g2 s w) : Ev (gIf gt g1 g2) s w := fun Φ q => h _ (by rw [if_neg (by decide)]; exact h1 _ q)
theorem EvB.v (h1 : Ev g1 s w1) (r1 : rd w1 s = some (.bl b)) : EvB (gTv g1) s b := fun Φ q => h1 _ ⟨b, r1, q⟩
theorem EvB.of (h : EvB gt s b) (e : b = b1) : EvB gt s b1 := e ▸ h
theorem EvB.not (h : EvB gt s b) : EvB (gTNot gt) s (!b) := fun Φ q => h _ q
theorem EvB.yes : EvB gYes s true := fun Φ q => q
theorem EvB.and (h1 : EvB gt1 s b1) (h2 : b1 = true → EvB gt2 s b2) : EvB (gTAnd gt1 gt2) s (b1 && b2) := fun Φ q => h1 _ (by
  cases b1 with
  | true => rw [if_pos rfl]; exact h2 rfl _ q
  | false => exact q)
theorem EvB.or (h1 : EvB gt1 s b1) (h2 : b1 = false → EvB gt2 s b2) : EvB (gTOr gt1 gt2) s (b1 || b2) := fun Φ q => h1 _ (by
  cases b1 with
  | false => rw [if_neg (by decide)]; exact h2 rfl _ q
  | true => exact q)
theorem EvA.nil : EvA gaNil s [] := fun _ q => q
theorem EvA.cons (h1 : Ev g s w) (h2 : EvA ga s ws) : EvA (gaCons g ga) s (fixW w :: ws) := fun Φ q => h1 _ (h2 _ q)
theorem EvA.one (h1 : Ev g s w) : EvA (gaCons g gaNil) s [fixW w] := .cons h1 .nil
theorem Ev.tup (h : EvA ga s ws) (r : frzA ws s = some (ds, s)) (hl : ws.length ≤ 1000) : Ev (gTup ga) s (.dat (.tup ds)) := fun Φ q => h _ ⟨ds, s, r, hl, q⟩
theorem Ev.lst (h : EvA ga s ws) (r : frzA ws s = some (ds, s)) (hl : ws.length ≤ 1000) : Ev (gLst ga) s (.new ds) := fun Φ q => h _ ⟨ds, s, r, hl, q⟩
theorem Ev.cl {f : List D → Option W} (h : EvA ga s ws) (r : rdA ws s = some ds) (hf : f ds = some w) : Ev (gCl f ga) s w := fun Φ q => h _ ⟨ds, w, r, hf, q⟩
theorem Ev.isi {n : String} (h1 : Ev g1 s w1) (r1 : rd w1 s = some d) (hb : isiD n d = some b) : Ev (gIsi n g1) s (.dat (.bl b)) := fun Φ q => h1 _ ⟨d, b, r1, hb, q⟩
theorem Ev.sorted (h : EvA ga s ws) (r : rdA ws s = some [.lst ds]) (ok : okS ds) : Ev (gSorted ga) s (.new (sortD ds)) := fun Φ q => h _ ⟨ds, r, ok, q⟩
theorem Ev.count (h1 : Ev g1 s w1) (r1 : rd w1 s = some (.lst ds)) (h2 : Ev g2 s w2) (r2 : rd w2 s = some d) (o1 : okD (.lst ds) = true) (o2 : okD d = true) : Ev (gCount g1 g2) s (.dat (.int ((ds.countP fun z => eqD z d : Nat) : Int))) :=
  fun Φ q => h1 _ ⟨⟨ds, r1⟩, h2 _ ⟨ds, d, r1, r2, o1, o2, q⟩⟩
theorem Ev.sl {gl gh : Stt → (Option Int → Stt → Prop) → Prop} {lo hi : Option Int} (h1 : Ev g s w1) (hl : EvO gl s lo) (hh : EvO gh s hi) (r1 : rd w1 s = some d) (h : fSl d lo hi = some w) : Ev (gSl g gl gh) s w :=
  fun Φ q => h1 _ (hl _ (hh _ ⟨d, w, r1, h, q⟩))
theorem EvO.none : EvO goNone s none := fun _ q => q
theorem EvO.some {j : Int} (h1 : Ev g s w) (r : rd w s = some (.int j)) : EvO (goSome g) s (some j) := fun _ q => h1 _ ⟨j, r, q⟩
theorem Ev.maxA {ns : List Int} {k : Int} (h : EvA ga s ws) (hk : EvA gk s us) (r : rdA ws s = some [.lst (ns.map D.int)]) (rk : rdA us s = some [.int k]) : Ev (gMaxA ga gk) s (.dat (.int (maxOr ns k))) := fun Φ q => h _ (hk _ ⟨ns, k, r, rk, q⟩)
theorem EvI.seq (h : Ev g s w) (r : frz w s = some (d, s)) (hi : itemsD d = some ds) : EvI (giSeq g) s ds := fun Φ q => h _ ⟨d, s, ds, r, hi, q⟩
theorem EvI.range1 {j : Int} (h : EvA ga s ws) (r : rdA ws s = some [.int j]) (hj : -(2 ^ 62) ≤ j ∧ j < 2 ^ 62) : EvI (giRange1 ga) s (rangeD 0 j.toNat) := fun Φ q => h _ ⟨j, r, hj, q⟩
theorem EvI.enum (h : EvA ga s ws) (e1 : ws = [w]) (r : frz w s = some (d, s)) (hi : itemsD d = some ds) : EvI (giEnum ga) s ((enumD 0 ds).map fun p => D.tup [p.1, p.2]) := fun Φ q => h _ ⟨w, d, s, ds, e1, r, hi, q⟩
/-! ### promises -/
theorem Ev.call {G : GF} {dd : List D} (h : EvA ga s ws) (r : frzA ws s = some (ds, s)) (hG : ∀ Φ : D → Prop, Φ d → G (ds ++ dd) Φ) : Ev (gCall G dd ga) s (.dat d) := fun Φ q => h _ ⟨ds, s, r, hG _ q⟩
theorem Ev.callN {G : GF} {gV : List D → List D → List D} {n m : Nat} (h : EvA ga s ws) (hk : EvA gk s us) (r : frzA ws s = some (ds, s)) (rk : frzA us s = some (es, s)) (l1 : ds.length = n) (l2 : es.length = m) (hG : ∀ Φ : D → Prop, Φ d → G (gV ds es) Φ) :
    Ev (gCallN n m G gV ga gk) s (.dat d) := fun Φ q => h _ (hk _ ⟨ds, es, s, s, r, rk, l1, l2, hG _ q⟩)
theorem callB {G : GFB} {Φ : W → Stt → Prop} (hb : s.r[i]? = some (some .bag)) (h : EvA ga s ws) (r : frzA ws s = some (ds, s)) (hG : G ds s.n fun d n' => Φ (.dat d) { s with n := n' }) : gCallB i G ga s Φ := ⟨hb, h _ ⟨ds, s, r, hG⟩⟩
end
theorem div_int {i j : Int} (h : CDiv i j) : fIc CDiv (fun i j => i / j) (.int i) (.int j) = some (.dat (.int (i / j))) := if_pos h
theorem cutD_to (xs : List D) (k : Nat) : cutD xs none (some (k : Int)) = xs.take k := by
  unfold cutD
  rw [HT.sIx_nat, HT.sIx_none, List.drop_zero, Nat.sub_zero]
  by_cases h : k ≤ xs.length
  · rw [Nat.min_eq_left h]
  · rw [Nat.min_eq_right (by omega), List.take_of_length_le (Nat.le_refl _), List.take_of_length_le (by omega)]
theorem cutD_from (xs : List D) (k : Nat) : cutD xs (some (k : Int)) none = xs.drop k := by
  unfold cutD
  rw [HT.sIx_nat, HT.sIx_none]
  by_cases h : k ≤ xs.length
  · rw [Nat.min_eq_left h, List.take_of_length_le (by rw [List.length_drop]; omega)]
  · rw [Nat.min_eq_right (by omega), List.drop_eq_nil_of_le (Nat.le_refl _), List.drop_eq_nil_of_le (by omega), List.take_nil]
theorem add_lst {ds es : List D} (h : ds.length + es.length ≤ 1000000) : fAdd (.lst ds) (.lst es) = some (.new (ds ++ es)) := by
  simp [fAdd, orF, fI, fCat, h]
theorem add_tup {ds es : List D} (h : ds.length + es.length ≤ 1000000) : fAdd (.tup ds) (.tup es) = some (.dat (.tup (ds ++ es))) := by
  simp [fAdd, orF, fI, fCat, fCatT, h]
theorem add_int (i j : Int) : fAdd (.int i) (.int j) = some (.dat (.int (i + j))) := rfl
theorem allI_ints : ∀ l : List Int, allI (l.map D.int) = some l
  | [] => rfl
  | x :: l => by simp only [List.map_cons, allI, allI_ints l]
theorem sum_ints (l : List Int) : fSum [.lst (l.map D.int)] = some (.dat (.int l.sum)) := by
  show (allI (l.map D.int)).map _ = _
  rw [allI_ints]; rfl
theorem allB_bls : ∀ l : List Bool, DL.allB (l.map D.bl) = some l
  | [] => rfl
  | x :: l => by simp only [List.map_cons, DL.allB, allB_bls l]
theorem all_bls (l : List Bool) : fAll [.lst (l.map D.bl)] = some (.dat (.bl (l.all id))) := by
  show (DL.allB (l.map D.bl)).map _ = _
  rw [allB_bls]; rfl
theorem any_bls (l : List Bool) : fAny [.lst (l.map D.bl)] = some (.dat (.bl (l.any id))) := by
  show (DL.allB (l.map D.bl)).map _ = _
  rw [allB_bls]; rfl
def enumL {α : Type} : Nat → List α → List (Nat × α)
  | _, [] => []
  | k, e :: es => (k, e) :: enumL (k + 1) es
theorem enumL_D {α : Type} (f : α → D) : ∀ (k : Nat) (l : List α), (enumD k (l.map f)).map (fun p => D.tup [p.1, p.2]) = (enumL k l).map fun p => D.tup [.int (p.1 : Nat), f p.2]
  | _, [] => rfl
  | k, e :: l => by
    rw [List.map_cons, enumD, List.map_cons, enumL_D f (k + 1) l]
    rfl
theorem enumL_at {α : Type} : ∀ {l : List α} {k : Nat} {p : Nat × α}, p ∈ enumL k l → ∃ j, p.1 = k + j ∧ l[j]? = some p.2
  | [], k, p, h => by cases h
  | e :: l, k, p, h => by
    rcases List.mem_cons.mp h with rfl | h
    · exact ⟨0, rfl, rfl⟩
    · obtain ⟨j, h1, h2⟩ := enumL_at h
      exact ⟨j + 1, by omega, h2⟩
theorem enumL_len {α : Type} : ∀ (k : Nat) (l : List α), (enumL k l).length = l.length
  | _, [] => rfl
  | k, e :: l => by rw [enumL, List.length_cons, enumL_len (k + 1) l, List.length_cons]
/-! ### comprehensions -/
theorem getD_len {r : List (Option En)} {j : Nat} (h : j < r.length) : some ((r[j]?).getD none) = r[j]? := by
  rw [List.getElem?_eq_getElem h]; rfl
theorem back_wipe : ∀ {r0 r1 : List (Option En)} {vs : List Nat}, wipeS r1 vs = wipeS r0 vs → backS r0 r1 vs = r0 := by
  intro r0 r1 vs h
  have hl : r1.length = r0.length := by rw [← wipeS_len r1 vs, h, wipeS_len]
  have out : ∀ (r : List (Option En)) (j : Nat) (vs : List Nat), j ∉ vs → (wipeS r vs)[j]? = r[j]? := by
    intro r j vs
    induction vs with
    | nil => intro _; rfl
    | cons v vs ih =>
      intro hj
      rw [List.mem_cons, not_or] at hj
      rw [wipeS, List.getElem?_set_ne (Ne.symm hj.1)]
      exact ih hj.2
  apply List.ext_getElem?
  intro j
  by_cases c : j ∈ vs
  · by_cases q : j < r0.length
    · exact backS_in hl.symm c
    · rw [List.getElem?_eq_none (by rw [backS_len]; omega), List.getElem?_eq_none (by omega)]
  · rw [backS_out c, ← out r1 j vs c, h, out r0 j vs c]
theorem Stt.back_eq {s0 s1 : Stt} {vs : List Nat} (h : s1.wipe vs = s0.wipe vs) : s0.back s1 vs = s0 := by
  have h1 : wipeS s1.r vs = wipeS s0.r vs := congrArg Stt.r h
  have h2 : s1.n = s0.n := show (s1.wipe vs).n = (s0.wipe vs).n from by rw [h]
  cases s0; cases s1
  simp only [Stt.back]
  rw [back_wipe h1]
  cases h2; rfl
section
variable {s : Stt} {gi : GI} {f : D → Stt → Option Stt} {gc : GB} {ge : GX} {vs : List Nat}
theorem loopC_pure {α : Type} {dOf : α → D} {p : α → Bool} {g : α → D} {Φ : List D → Stt → Prop} : ∀ (xs : List α) (acc : List D) (s1 : Stt), s1.wipe vs = s.wipe vs →
    (∀ x ∈ xs, ∃ S, f (dOf x) (s.wipe vs) = some S ∧ S.wipe vs = s.wipe vs ∧ EvB gc S (p x) ∧ (p x = true → ∃ w, Ev ge S w ∧ frz w S = some (g x, S))) →
    (∀ s2, s2.wipe vs = s.wipe vs → Φ (acc ++ (xs.filter p).map g) s2) → loopC f gc ge vs (xs.map dOf) acc s1 Φ
  | [], acc, s1, e, h, q => by
    have := q s1 e
    simp only [List.filter_nil, List.map_nil, List.append_nil] at this
    exact this
  | x :: xs, acc, s1, e, h, q => by
    obtain ⟨S, a, b, c, d⟩ := h x (List.mem_cons_self ..)
    refine ⟨S, by rw [e]; exact a, c _ ?_⟩
    cases hp : p x with
    | true =>
      rw [if_pos rfl]
      obtain ⟨w, hw, hf⟩ := d hp
      refine hw _ ⟨_, _, hf, loopC_pure xs _ S b (fun y hy => h y (List.mem_cons_of_mem _ hy)) fun s2 e2 => ?_⟩
      have := q s2 e2
      rw [List.filter_cons_of_pos hp, List.map_cons] at this
      rw [List.append_assoc]
      exact this
    | false =>
      rw [if_neg (by decide)]
      refine loopC_pure xs _ S b (fun y hy => h y (List.mem_cons_of_mem _ hy)) fun s2 e2 => ?_
      have := q s2 e2
      rw [List.filter_cons_of_neg (by rw [hp]; decide)] at this
      exact this
theorem Ev.lc {α : Type} {xs : List α} {dOf : α → D} {p : α → Bool} {g : α → D} {ds : List D} (hi : EvI gi s ds) (hd : ds = xs.map dOf) (hl : xs.length ≤ 1000000)
    (h : ∀ x ∈ xs, ∃ S, f (dOf x) (s.wipe vs) = some S ∧ S.wipe vs = s.wipe vs ∧ EvB gc S (p x) ∧ (p x = true → ∃ w, Ev ge S w ∧ frz w S = some (g x, S))) : Ev (gLc gi f gc ge vs) s (.new ((xs.filter p).map g)) := by
  intro Φ q
  subst hd
  refine hi _ ⟨by rw [List.length_map]; exact hl, loopC_pure xs [] s rfl h fun s2 e2 => ?_⟩
  rw [Stt.back_eq e2]
  exact q
theorem Ev.lcA {α : Type} {xs : List α} {dOf : α → D} {g : α → D} {ds : List D} (hi : EvI gi s ds) (hd : ds = xs.map dOf) (hl : xs.length ≤ 1000000)
    (h : ∀ x ∈ xs, ∃ S, f (dOf x) (s.wipe vs) = some S ∧ S.wipe vs = s.wipe vs ∧ ∃ w, Ev ge S w ∧ frz w S = some (g x, S)) : Ev (gLc gi f gYes ge vs) s (.new (xs.map g)) := by
  have := Ev.lc (gc := gYes) (p := fun _ => true) (g := g) hi hd hl fun x hx => by
    obtain ⟨S, a, b, c⟩ := h x hx
    exact ⟨S, a, b, EvB.yes, fun _ => c⟩
  rw [List.filter_eq_self.mpr fun _ _ => rfl] at this
  exact this
end
/-! ### statements -/
section
variable {s s' : Stt} {De : EndsD} {g : GX} {gt : GB} {gi : GI} {a b : GS} {w : W} {d : D} {ds : List D} {i : Nat} {k : Bool} {f : D → Stt → Option Stt}
theorem gs_seq (h : a s { De with nx := fun s' => b s' De }) : gsSeq a b s De := h
theorem gs_nil (q : De.nx s) : gsNil s De := q
theorem gs_set (h : Ev g s w) (r : frz w s = some (d, s')) (q : De.nx (s'.put i (.val d))) : gsSet i g s De := h _ ⟨d, s', r, q⟩
theorem gs_own (h : Ev g s (.new ds)) (q : De.nx (s.put i (.own ds))) : gsOwn i g s De := h _ ⟨ds, rfl, q⟩
theorem gs_ret (h : Ev g s w) (q : De.rt w s) : gsRet g s De := h _ q
theorem gs_if (h : EvB gt s k) (h1 : k = true → a s De) (h2 : k = false → b s De) : gsIf gt a b s De := h _ (by
  cases k with
  | true => rw [if_pos rfl]; exact h1 rfl
  | false => rw [if_neg (by decide)]; exact h2 rfl)
theorem gs_ifT (h : EvB gt s true) (h1 : a s De) : gsIf gt a b s De := gs_if h (fun _ => h1) fun z => by cases z
theorem gs_ifF (h : EvB gt s false) (h1 : b s De) : gsIf gt a b s De := gs_if h (fun z => by cases z) fun _ => h1
theorem gs_app (h0 : s.r[i]? = some (some (.own ds))) (h : Ev g s w) (r : frz w s = some (d, s)) (hl : ds.length < 1000000) (q : De.nx (s.put i (.own (ds ++ [d])))) : gsApp i g s De := ⟨⟨ds, h0⟩, h _ ⟨d, s, ds, r, h0, hl, q⟩⟩
theorem gs_for (h : EvI gi s ds) (q : loopF f b ds s De) : gsFor gi f b s De := h _ q
theorem gs_loop {α : Type} {dOf : α → D} (I : List α → Stt → Prop) {L : List α}
    (step : ∀ pre x post s De', L = pre ++ x :: post → I pre s → De'.rt = De.rt → De'.bk = De.nx → (∀ s', I (pre ++ [x]) s' → De'.nx s') → (∀ s', I (pre ++ [x]) s' → De'.ct s') → ∃ s1, f (dOf x) s = some s1 ∧ b s1 De')
    (fin : ∀ s', I L s' → De.nx s') : ∀ (xs pre : List α) (s : Stt), L = pre ++ xs → I pre s → loopF f b (xs.map dOf) s De
  | [], pre, s, e, h => fin s (by rw [e, List.append_nil]; exact h)
  | x :: xs, pre, s, e, h => by
    obtain ⟨s1, h1, h2⟩ := step pre x xs s { nx := fun s2 => loopF f b (xs.map dOf) s2 De, ct := fun s2 => loopF f b (xs.map dOf) s2 De, bk := De.nx, rt := De.rt, ex := De.ex } e h rfl rfl
      (fun s' h' => gs_loop I step fin xs (pre ++ [x]) s' (by rw [e, List.append_assoc]; rfl) h') (fun s' h' => gs_loop I step fin xs (pre ++ [x]) s' (by rw [e, List.append_assoc]; rfl) h')
    exact ⟨s1, h1, h2⟩
theorem gs_forL {α : Type} {dOf : α → D} (I : List α → Stt → Prop) {L : List α} (h : EvI gi s ds) (hd : ds = L.map dOf) (h0 : I [] s)
    (step : ∀ pre x post s De', L = pre ++ x :: post → I pre s → De'.rt = De.rt → De'.bk = De.nx → (∀ s', I (pre ++ [x]) s' → De'.nx s') → (∀ s', I (pre ++ [x]) s' → De'.ct s') → ∃ s1, f (dOf x) s = some s1 ∧ b s1 De')
    (fin : ∀ s', I L s' → De.nx s') : gsFor gi f b s De := gs_for h (by rw [hd]; exact gs_loop I step fin L [] s rfl h0)
end
section
variable {s : Stt} {De : EndsD} {g1 g2 ge gk : GX} {w w2 : W} {d k : D} {kvs : List (NK × D)} {ks : List NK} {i : Nat}
theorem gs_dct (q : De.nx (s.put i (.dct []))) : gsDct i s De := q
theorem Ev.get2 (h0 : s.r[i]? = some (some (.dct kvs))) (h1 : Ev g1 s w) (r1 : rd w s = some (dN (.tup ks))) (hd : (NestedKey.tup ks).depth ≤ 8) (h2 : Ev g2 s w2) (r : frz w2 s = some (d, s)) : Ev (gGet2 i g1 g2) s (.dat ((getK kvs (.tup ks)).getD d)) :=
  fun Φ q => ⟨⟨kvs, h0⟩, h1 _ (h2 _ ⟨kvs, ks, d, s, r1, hd, r, h0, q⟩)⟩
theorem gs_putK (h0 : s.r[i]? = some (some (.dct kvs))) (he : Ev ge s w) (re : frz w s = some (d, s)) (hk : Ev gk s w2) (rk : frz w2 s = some (dN (.tup ks), s)) (hd : (NestedKey.tup ks).depth ≤ 8) (hl : kvs.length < 1000000) (q : De.nx (s.put i (.dct (DL.putK kvs (.tup ks) d)))) : gsPutK i ge gk s De :=
  he _ ⟨d, s, re, ⟨kvs, h0⟩, hk _ ⟨kvs, ks, s, rk, hd, h0, hl, q⟩⟩
theorem Ev.sortIt (h0 : s.r[i]? = some (some (.dct kvs))) (ok : okIt kvs) : Ev (gSortIt i) s (.new (sortD (kvs.map itD))) := fun Φ q => ⟨kvs, h0, ok, q⟩
end
/-! ### one step -/
section
variable {s : Stt} {De : EndsD} {g g1 g2 : GX} {gt gt1 gt2 : GB} {ga : GA} {gi : GI} {a b : GS} {i n : Nat} {dd : List D} {G : GF} {GB' : GFB}
theorem if_run (h : gt s fun k s1 => if k = true then a s1 De else b s1 De) : gsIf gt a b s De := h
theorem tv_run {Φ : Bool → Stt → Prop} (h : g s fun w s1 => ∃ b, rd w s1 = some (.bl b) ∧ Φ b s1) : gTv g s Φ := h
theorem tand_run {Φ : Bool → Stt → Prop} (h : gt1 s fun b s1 => if b = true then gt2 s1 Φ else Φ false s1) : gTAnd gt1 gt2 s Φ := h
theorem tor_run {Φ : Bool → Stt → Prop} (h : gt1 s fun b s1 => if b = true then Φ true s1 else gt2 s1 Φ) : gTOr gt1 gt2 s Φ := h
theorem tnot_run {Φ : Bool → Stt → Prop} (h : gt s fun b s1 => Φ (!b) s1) : gTNot gt s Φ := h
section
variable {Φ : W → Stt → Prop}
theorem bin_run {f : D → D → Option W} (h : g1 s fun w1 s1 => g2 s1 fun w2 s2 => ∃ d e w, rd w1 s2 = some d ∧ rd w2 s2 = some e ∧ f d e = some w ∧ Φ w s2) : gBin f g1 g2 s Φ := h
theorem binR {f : D → D → Option W} {w1 : W} (h1 : Ev g1 s w1) (h : g2 s fun w2 s2 => ∃ d e w, rd w1 s2 = some d ∧ rd w2 s2 = some e ∧ f d e = some w ∧ Φ w s2) : gBin f g1 g2 s Φ := h1 _ h
theorem and_run (h : g1 s fun w s1 => ∃ b, rd w s1 = some (.bl b) ∧ if b = true then g2 s1 Φ else Φ (.dat (.bl false)) s1) : gAnd g1 g2 s Φ := h
theorem or_run (h : g1 s fun w s1 => ∃ b, rd w s1 = some (.bl b) ∧ if b = true then Φ (.dat (.bl true)) s1 else g2 s1 Φ) : gOr g1 g2 s Φ := h
theorem xif_run (h : gt s fun b s1 => if b = true then g1 s1 Φ else g2 s1 Φ) : gIf gt g1 g2 s Φ := h
theorem cl_run {f : List D → Option W} (h : ga s fun ws s1 => ∃ ds w, rdA ws s1 = some ds ∧ f ds = some w ∧ Φ w s1) : gCl f ga s Φ := h
theorem tup_run (h : ga s fun ws s1 => ∃ ds s2, frzA ws s1 = some (ds, s2) ∧ ws.length ≤ 1000 ∧ Φ (.dat (.tup ds)) s2) : gTup ga s Φ := h
theorem lst_run (h : ga s fun ws s1 => ∃ ds s2, frzA ws s1 = some (ds, s2) ∧ ws.length ≤ 1000 ∧ Φ (.new ds) s2) : gLst ga s Φ := h
theorem lc_run {f : D → Stt → Option Stt} {gc : GB} {ge : GX} {vs : List Nat} (h : gi s fun ds s1 => ds.length ≤ 1000000 ∧ loopC f gc ge vs ds [] s1 fun acc s2 => Φ (.new acc) (s1.back s2 vs)) : gLc gi f gc ge vs s Φ := h
theorem lcR {f : D → Stt → Option Stt} {gc : GB} {ge : GX} {vs : List Nat} {ds : List D} (hi : EvI gi s ds) (hl : ds.length ≤ 1000000) (h : loopC f gc ge vs ds [] s fun acc s2 => Φ (.new acc) (s.back s2 vs)) : gLc gi f gc ge vs s Φ := hi _ ⟨hl, h⟩
theorem callB_run (hb : s.r[i]? = some (some .bag)) (h : ga s fun ws s1 => ∃ ds s2, frzA ws s1 = some (ds, s2) ∧ GB' ds s2.n fun d n' => Φ (.dat d) { s2 with n := n' }) : gCallB i GB' ga s Φ := ⟨hb, h⟩
theorem call_run (h : ga s fun ws s1 => ∃ ds s2, frzA ws s1 = some (ds, s2) ∧ G (ds ++ dd) fun d => Φ (.dat d) s2) : gCall G dd ga s Φ := h
end
theorem ga_run {Φ : List W → Stt → Prop} (h : g s fun w s1 => ga s1 fun ws s2 => Φ (fixW w :: ws) s2) : gaCons g ga s Φ := h
theorem gaR {Φ : List W → Stt → Prop} {w : W} (h1 : Ev g s w) (h : ga s fun ws s2 => Φ (fixW w :: ws) s2) : gaCons g ga s Φ := h1 _ h
theorem set_run (h : g s fun w s1 => ∃ d s2, frz w s1 = some (d, s2) ∧ De.nx (s2.put i (.val d))) : gsSet i g s De := h
theorem own_run (h : g s fun w s1 => ∃ ds, w = .new ds ∧ De.nx (s1.put i (.own ds))) : gsOwn i g s De := h
theorem ret_run (h : g s De.rt) : gsRet g s De := h
theorem app_run (h0 : ∃ ds, s.r[i]? = some (some (.own ds))) (h : g s fun w s1 => ∃ d s2 ds, frz w s1 = some (d, s2) ∧ s2.r[i]? = some (some (.own ds)) ∧ ds.length < 1000000 ∧ De.nx (s2.put i (.own (ds ++ [d])))) : gsApp i g s De := ⟨h0, h⟩
theorem range_run {Φ : List D → Stt → Prop} (h : ga s fun ws s1 => ∃ j : Int, rdA ws s1 = some [.int j] ∧ (-(2 ^ 62) ≤ j ∧ j < 2 ^ 62) ∧ Φ (rangeD 0 j.toNat) s1) : giRange1 ga s Φ := h
theorem for_run {f : D → Stt → Option Stt} (h : gi s fun ds s1 => loopF f b ds s1 De) : gsFor gi f b s De := h
end
end DL
/-! Instances as data: fields, methods, their making, their own ==. -/
namespace DL
open PySem PySem.Spec PyProof.Rows L2 Ax
theorem zip_lookup {K : Bk} {B : Hp} {f : Str} : ∀ {ks : List Str} {vs : List V} {ds : List D} {d : D}, RpA K B vs ds → (ks.zip ds).lookup f = some d → ∃ v, (ks.zip vs).lookup f = some v ∧ Rp K B v d
  | [], _, _, d, _, h => by simp at h
  | k :: ks, _, _, d, .nil, h => by simp at h
  | k :: ks, _, _, d, .cons (v := v) (d := d') r t, h => by
    simp only [List.zip_cons_cons, List.lookup_cons] at h ⊢
    split at h
    · cases Option.some.inj h
      exact ⟨v, rfl, r⟩
    · exact zip_lookup t h
theorem zip_none {f : Str} : ∀ {ks : List Str} {vs : List V}, f ∉ ks → (ks.zip vs).lookup f = none
  | [], _, _ => by simp
  | k :: ks, [], _ => by simp
  | k :: ks, v :: vs, h => by
    rw [List.mem_cons, not_or] at h
    simp only [List.zip_cons_cons, List.lookup_cons]
    have : (f == k) = false := by simpa using h.1
    rw [this]
    exact zip_none h.2
theorem zip_put {f : Str} {v : V} : ∀ {ks : List Str} {vs : List V}, f ∉ ks → vs.length = ks.length → putF f v (ks.zip vs) = (ks ++ [f]).zip (vs ++ [v])
  | [], [], _, _ => rfl
  | k :: ks, w :: vs, h, e => by
    rw [List.mem_cons, not_or] at h
    have e' : vs.length = ks.length := by simpa using e
    simp only [List.zip_cons_cons, List.cons_append, putF]
    rw [if_neg (fun z => h.1 z.symm), zip_put h.2 e']
theorem Rq.ins {F : Fx} {c : Cf} {v : V} {C : Str} {ks : List Str} {ds : List D} (h : Rq F c v (.ins C ks ds)) : ∃ a dx xs, v = .ref a ∧ c.B a = some (.ins (He.ga F.K C) dx (ks.zip xs)) ∧ xs.length = ks.length ∧ RpA F.K c.B xs ds := by
  rcases h with h | ⟨l, vs, es, _, e, _⟩
  · cases h with
    | ins h1 h2 h3 => exact ⟨_, _, _, rfl, h1, h2, h3⟩
  · cases e
section
variable {K : Bd}
/-- e.f -/
def gFld (C f : Str) (g : GX) : GX := fun s Φ => g s fun w s1 => ∃ ks ds d, rd w s1 = some (.ins C ks ds) ∧ (ks.zip ds).lookup f = some d ∧ Φ (.dat d) s1
theorem se_fld {C f : Str} {t : TE} {g : GX} (hc : Cls K.K (He.ga K.K C)) (hn : NoAttr K.K (He.ga K.K C) f) (h : SE K t g) : SE K (tFld K t f) (gFld C f g) := by
  intro F hK c Φ Q R p q
  subst hK
  refine h F rfl c _ _ R p fun c1 v w R1 G1 D1 p1 => ?_
  obtain ⟨ks, ds, d, e, l, p2⟩ := p1
  obtain ⟨a, dx, xs, rfl, hB, hl, r⟩ := (rd_ok R1 D1 e).ins
  obtain ⟨v', l', r'⟩ := zip_lookup r l
  exact ⟨a, _, dx, _, v', rfl, R1.le _ _ hB, hc, hn, l', q c1 v' (.dat d) R1 G1 r' p2⟩
/-- o.m(..) -/
def gMeth (C m : Str) (G : GF) (dd : List D) (g : GX) (ga : GA) : GX := fun s Φ => g s fun w s1 => ∃ ks ds0, rd w s1 = some (.ins C ks ds0) ∧ m ∉ ks ∧ ga s1 fun ws s2 => ∃ ds s3, frzA ws s2 = some (ds, s3) ∧ G (.ins C ks ds0 :: (ds ++ dd)) fun d => Φ (.dat d) s3
theorem se_meth {C m : Str} {G : GF} {dv : List V} {dd : List D} {E : XK} {t : TE} {ta : TA} {g : GX} {ga : GA} (hd : ∀ B : Hp, RpA K B dv dd) (h : SE K t g) (h2 : SA K ta ga) : SE K (tMeth (He.ga K.K C) m (spP K G) dv E t ta) (gMeth C m G dd g ga) := by
  intro F hK c Φ Q R p q
  subst hK
  refine h F rfl c _ _ R p fun c1 v w R1 G1 D1 p1 => ?_
  obtain ⟨ks, ds0, e, hm, p2⟩ := p1
  obtain ⟨a, dx, xs, rfl, hB, hl, r⟩ := (rd_ok R1 D1 e).ins
  refine ⟨a, dx, _, rfl, R1.le _ _ hB, zip_none hm, ?_⟩
  refine h2.run rfl G1.σ rfl R1 p2 fun c2 vs ws R2 G2 D2 p3 => ?_
  obtain ⟨ds, s3, e3, g3⟩ := p3
  obtain ⟨c3, b1, b2, R3, G3, r3⟩ := frzA_ok R2 D2 e3
  have x12 := (G2.trans G3).go.b
  refine ⟨c3.B, .ins C ks ds0 :: (ds ++ dd), _, by rw [← b1]; exact R3.le, .cons (Rp.ext x12 (.ins hB hl r)) (r3.app (hd _)), g3, fun B' H' v d x1 x2 x3 nb rv hΦ => ?_⟩
  rw [← b1] at x3 nb
  obtain ⟨R4, G4⟩ := R3.grow x1 x2 x3 nb
  exact q _ v (.dat d) R4 (((G1.trans G2).trans G3).trans G4) rv (by rw [← b2] at hΦ; exact hΦ)
/-- x == y, x != y by the own __eq__ of C -/
def gEqO (C : Str) (G : GF) (g1 g2 : GX) : GX := fun s Φ => g1 s fun w1 s1 => g2 s1 fun w2 s2 => ∃ ks ds ks2 ds2, rd w1 s2 = some (.ins C ks ds) ∧ rd w2 s2 = some (.ins C ks2 ds2) ∧ G [.ins C ks ds, .ins C ks2 ds2] fun d => ∃ k, d = .bl k ∧ Φ (.dat (.bl k)) s2
def gNeO (C : Str) (G : GF) (g1 g2 : GX) : GX := fun s Φ => g1 s fun w1 s1 => g2 s1 fun w2 s2 => ∃ ks ds ks2 ds2, rd w1 s2 = some (.ins C ks ds) ∧ rd w2 s2 = some (.ins C ks2 ds2) ∧ G [.ins C ks ds, .ins C ks2 ds2] fun d => ∃ k, d = .bl k ∧ Φ (.dat (.bl (!k))) s2
theorem Rp.bl_of {K : Bk} {B : Hp} {v : V} {k : Bool} (h : Rp K B v (.bl k)) : v = .bl k := by cases h; rfl
theorem se_eqO {C : Str} {G : GF} {E : XK} {t1 t2 : TE} {g1 g2 : GX} (hn : PySem.W.notFirst K.K (He.ga K.K C) (.ref (He.ga K.K C)) = true) (h1 : SE K t1 g1) (h2 : SE K t2 g2) : SE K (tOp (rOwnEq K.K (He.ga K.K C) (spP K G) E) t1 t2) (gEqO C G g1 g2) := by
  intro F hK c Φ Q R p q
  subst hK
  refine h1 F rfl c _ _ R p fun c1 v1 w1 R1 G1 D1 p1 => ?_
  refine h2.run rfl G1.σ R1 p1 fun c2 v2 w2 R2 G2 D2 p2 => ?_
  obtain ⟨ks, ds, ks2, ds2, e1, e2, g⟩ := p2
  obtain ⟨a, dx, xs, rfl, hB, hl, r⟩ := (rd_ok R2 (D1.keep G2) e1).ins
  obtain ⟨b, dy, ys, rfl, hB2, hl2, r2⟩ := (rd_ok R2 D2 e2).ins
  refine ⟨a, b, _, dx, dy, _, _, rfl, rfl, R2.le _ _ hB, R2.le _ _ hB2, hn, c2.B, [.ins C ks ds, .ins C ks2 ds2], _, R2.le, .cons (.ins hB hl r) (.cons (.ins hB2 hl2 r2) .nil), g, fun B' H' v d x1 x2 x3 nb rv hΦ => ?_⟩
  obtain ⟨k, rfl, hq⟩ := hΦ
  obtain ⟨R3, G3⟩ := R2.grow x1 x2 x3 nb
  exact ⟨k, rv.bl_of, q _ (.bl k) (.dat (.bl k)) R3 ((G1.trans G2).trans G3) (Rp.bl k) hq⟩
theorem se_neO {C : Str} {G : GF} {E : XK} {t1 t2 : TE} {g1 g2 : GX} (hn : PySem.W.notFirst K.K (He.ga K.K C) (.ref (He.ga K.K C)) = true) (h1 : SE K t1 g1) (h2 : SE K t2 g2) : SE K (tOp (rOwnNe K.K (He.ga K.K C) (spP K G) E) t1 t2) (gNeO C G g1 g2) := by
  intro F hK c Φ Q R p q
  subst hK
  refine h1 F rfl c _ _ R p fun c1 v1 w1 R1 G1 D1 p1 => ?_
  refine h2.run rfl G1.σ R1 p1 fun c2 v2 w2 R2 G2 D2 p2 => ?_
  obtain ⟨ks, ds, ks2, ds2, e1, e2, g⟩ := p2
  obtain ⟨a, dx, xs, rfl, hB, hl, r⟩ := (rd_ok R2 (D1.keep G2) e1).ins
  obtain ⟨b, dy, ys, rfl, hB2, hl2, r2⟩ := (rd_ok R2 D2 e2).ins
  refine ⟨a, b, _, dx, dy, _, _, rfl, rfl, R2.le _ _ hB, R2.le _ _ hB2, hn, c2.B, [.ins C ks ds, .ins C ks2 ds2], _, R2.le, .cons (.ins hB hl r) (.cons (.ins hB2 hl2 r2) .nil), g, fun B' H' v d x1 x2 x3 nb rv hΦ => ?_⟩
  obtain ⟨k, rfl, hq⟩ := hΦ
  obtain ⟨R3, G3⟩ := R2.grow x1 x2 x3 nb
  exact ⟨k, rv.bl_of, q _ (.bl (!k)) (.dat (.bl (!k))) R3 ((G1.trans G2).trans G3) (Rp.bl (!k)) hq⟩
end
/-! ### the making of an instance -/
abbrev GFI := List D → (List Str → List D → Prop) → Prop
def spI (K : Bd) (C : Str) (G : GFI) : Sp := fun vs H Q _ => ∃ (x dx : Addr) (us : List V) (B : Hp) (ds : List D) (Φ : List Str → List D → Prop), vs = .ref x :: us ∧ H x = some (.ins (He.ga K.K C) dx []) ∧ B x = none ∧ Ext B H ∧ RpA K B us ds ∧ G ds Φ ∧
  ∀ (B' H' : Hp) (dx' : Addr) (ks : List Str) (vs' : List V) (ds' : List D), Ext B B' → Ext B' H' → (∀ a o, a ≠ x → H a = some o → H' a = some o) → (∀ a, B' a ≠ none → B a = none → H a = none) →
    H' x = some (.ins (He.ga K.K C) dx' (ks.zip vs')) → vs'.length = ks.length → RpA K B' vs' ds' → Φ ks ds' → Q .non H'
section
variable {K : Bd}
def gMake (C : Str) (G : GFI) (dd : List D) (ga : GA) : GX := fun s Φ => ga s fun ws s1 => ∃ ds s2, frzA ws s1 = some (ds, s2) ∧ G (ds ++ dd) fun ks es => Φ (.dat (.ins C ks es)) s2
theorem se_make {C : Str} {G : GFI} {dv : List V} {dd : List D} {E : XK} {t : TA} {ga : GA} (hd : ∀ B : Hp, RpA K B dv dd) (h : SA K t ga) : SE K (tMake (He.ga K.K C) (spI K C G) dv E t) (gMake C G dd ga) := by
  intro F hK c Φ Q R p q
  subst hK
  refine h F rfl c _ _ R p fun c1 vs ws R1 G1 D1 p1 => ?_
  obtain ⟨ds, s2, e1, g⟩ := p1
  obtain ⟨c2, b1, b2, R2, G2, r⟩ := frzA_ok R1 D1 e1
  rw [← b1]
  intro x dx hx hdx hne
  have bx : ∀ {a : Addr}, c2.H a = none → c2.B a = none := fun {a} h => by
    cases z : c2.B a with
    | none => rfl
    | some o => rw [R2.le _ _ z] at h; cases h
  have H3at : ∀ {a : Addr} {o : HO}, c2.H a = some o → (upd (upd c2.H dx (.own x)) x (.ins (He.ga F.K C) dx [])) a = some o := fun {a o} h => by
    rw [upd_ne (fun z => by rw [z, hx] at h; cases h), upd_ne (fun z => by rw [z, hdx] at h; cases h)]
    exact h
  refine ⟨x, dx, vs ++ dv, c2.B, ds ++ dd, _, rfl, upd_same, bx hx, fun a o z => H3at (R2.le _ _ z), r.app (hd _), g, fun B' H' dx' ks vs' ds' x1 x2 fr nb hx' hl rp hΦ => ⟨rfl, ?_⟩⟩
  have B'x : B' x = none := by
    cases z : B' x with
    | none => rfl
    | some o =>
      have := nb x (by rw [z]; exact fun y => nomatch y) (bx hx)
      rw [upd_same] at this
      cases this
  have y1 : Ext c2.B (upd B' x (.ins (He.ga F.K C) dx' (ks.zip vs'))) := fun a o z => by
    rw [upd_ne (fun y => by rw [y, bx hx] at z; cases z)]
    exact x1 _ _ z
  have y2 : Ext (upd B' x (.ins (He.ga F.K C) dx' (ks.zip vs'))) H' := fun a o z => by
    by_cases y : a = x
    · rw [y, upd_same] at z
      cases Option.some.inj z
      rw [y]; exact hx'
    · rw [upd_ne y] at z
      exact x2 _ _ z
  have y3 : Ext c2.H H' := fun a o z => fr a o (fun y => by rw [y, hx] at z; cases z) (H3at z)
  have y4 : ∀ a, (upd B' x (.ins (He.ga F.K C) dx' (ks.zip vs'))) a ≠ none → c2.B a = none → c2.H a = none := fun a z w => by
    by_cases y : a = x
    · rw [y]; exact hx
    · rw [upd_ne y] at z
      have := nb a z w
      cases u : c2.H a with
      | none => rfl
      | some o => rw [H3at u] at this; cases this
  have y5 : Ext B' (upd B' x (.ins (He.ga F.K C) dx' (ks.zip vs'))) := fun a o z => by
    rw [upd_ne (fun y => by rw [y, B'x] at z; cases z)]
    exact z
  obtain ⟨R3, G3⟩ := R2.grow y1 y2 y3 y4
  exact q _ (.ref x) (.dat (.ins C ks ds')) R3 ((G1.trans G2).trans G3) (.ins upd_same hl (rp.ext y5)) (by rw [← b2] at hΦ; exact hΦ)
/-- self.f = e -/
def gsFld (i : Nat) (C f : Str) (g : GX) : GS := fun s De => g s fun w s1 => ∃ d s2 a ks ds, frz w s1 = some (d, s2) ∧ s2.r[i]? = some (some (.obj a C ks ds)) ∧ f ∉ ks ∧ ks.length < 1000 ∧ De.nx (s2.put i (.obj a C (ks ++ [f]) (ds ++ [d])))
theorem ss_fld {i : Nat} {C f : Str} {t : TE} {g : GX} (hc : Cls K.K (He.ga K.K C)) (hn : NoAttr K.K (He.ga K.K C) f) (h : SE K t g) : SS K (sFld K (tVar i) t f) (gsFld i C f g) := by
  intro F hK c E De R p ok
  subst hK
  refine h F rfl c _ _ R p fun c1 v w R1 G1 D1 p1 => ?_
  obtain ⟨d, s2, a, ks, ds, e1, e2, hf, hl, p2⟩ := p1
  obtain ⟨c2, a1, a2, a3, _, R2, G2, rv⟩ := frz_ok R1 G1 D1 e1
  rw [← a2] at e2 p2
  obtain ⟨l, o, b1, b2, ⟨el, dx, vs, rfl, hvl, hr⟩, b4, b5⟩ := (R2.at_ i _ e2).own rfl
  have hσ : c.σ[i]? = some (some (.ref l)) := by rw [← G2.σ]; exact b1
  refine ⟨.ref l, hσ, l, _, dx, ks.zip vs, rfl, by rw [← a1]; exact b2, hc, hn, ?_, ?_⟩
  · rw [List.length_zip, hvl, Nat.min_self]
    exact hl
  · rw [zip_put hf hvl, ← a1]
    have hv : OwR F c2.B l (.obj a C (ks ++ [f]) (ds ++ [d])) (.ins (He.ga F.K C) dx ((ks ++ [f]).zip (vs ++ [v]))) := ⟨el, dx, vs ++ [v], rfl, by rw [List.length_append, List.length_append, hvl]; rfl, hr.snoc rv⟩
    obtain ⟨R3, G3⟩ := R2.updE e2 rfl b1 hv
    exact ok.nxE R3 (G2.trans G3) p2
def retI (x : Addr) (C : Str) (Φ : List Str → List D → Prop) : EndsD := { nx := fun s => ∃ ks ds, s.r[0]? = some (some (.obj x C ks ds)) ∧ Φ ks ds, rt := fun _ _ => False }
def startI (x : Addr) (C : Str) (N : List Str) (ds : List D) : List (Option En) := some (.obj x C [] []) :: startD N.tail ds
theorem body_okI {t : TS} {g : GS} {y : Str} {N : List Str} {C : Str} {G : GFI} (ss : SS K t g) (hG : ∀ x ds Φ, G ds Φ → g ⟨startI x C (y :: N) ds, 0⟩ (retI x C Φ)) {vs : List V} {H : Hp} {Q : VK} {E : XK} (h : spI K C G vs H Q E) : t { nx := fun _ H' => Q .non H', rt := Q } (L2.start (y :: N) vs) H := by
  obtain ⟨x, dx, us, B, ds, Φ, rfl, hx, bx, xB, r, g0, q⟩ := h
  have es : L2.start (y :: N) (.ref x :: us) = some (.ref x) :: L2.start N us := by
    simp [L2.start]
  rw [es]
  have at0 : ∀ (i : Nat) (e : En), (startI x C (y :: N) ds)[i]? = some (some e) → (i = 0 ∧ e = .obj x C [] []) ∨ ∃ j d v, i = j + 1 ∧ e = .val d ∧ (L2.start N us)[j]? = some (some v) ∧ Rp K B v d := by
    intro i e h
    cases i with
    | zero => exact .inl ⟨rfl, by simpa [startI] using h.symm⟩
    | succ j =>
      have h' : (startD N ds)[j]? = some (some e) := by simpa [startI] using h
      obtain ⟨d, v, h1, h2, h3⟩ := start_get r h'
      exact .inr ⟨j, d, v, rfl, h1, h2, h3⟩
  let c0 : Cf := ⟨B, H, some (.ref x) :: L2.start N us, ⟨startI x C (y :: N) ds, 0⟩⟩
  have R0 : Rep ⟨K, 0, 0, [], false⟩ c0 := by
    refine ⟨xB, ?_, fun i e h => ?_, fun i j ei ej l h1 o1 h2 o2 _ _ => ?_, fun on => by cases on⟩
    · show (some (V.ref x) :: L2.start N us).length = (startI x C (y :: N) ds).length
      simp [startI, start_len (N := N) r]
    · rcases at0 i e h with ⟨rfl, rfl⟩ | ⟨j, d, v, rfl, rfl, h1, h2⟩
      · exact ⟨x, _, rfl, hx, ⟨rfl, dx, [], rfl, rfl, .nil⟩, bx, fun on => by cases on⟩
      · exact ⟨v, by simpa [c0] using h1, h2⟩
    · rcases at0 i ei h1 with ⟨rfl, _⟩ | ⟨_, _, _, _, rfl, _⟩
      · rcases at0 j ej h2 with ⟨rfl, _⟩ | ⟨_, _, _, _, rfl, _⟩
        · rfl
        · cases o2
      · cases o1
  have own0 : ∀ a, Own c0 a → a = x := by
    rintro a ⟨i, e, h1, o1, h2⟩
    rcases at0 i e h1 with ⟨rfl, _⟩ | ⟨_, _, _, _, rfl, _⟩
    · have : some (some (V.ref x)) = some (some (V.ref a)) := h2
      cases this
      rfl
    · cases o1
  refine ss ⟨K, 0, 0, [], false⟩ rfl c0 _ (retI x C Φ) R0 (hG x ds Φ g0) ⟨fun c' R' G' p => ?_, fun c' v w R' G' D' p => p.elim, fun c' R' G' p => p.elim, fun c' R' G' p => p.elim, fun c' R' G' _ _ _ _ _ _ _ _ z => z.elim⟩
  obtain ⟨ks, es', e, hΦ⟩ := p
  obtain ⟨l, o, b1, b2, ⟨rfl, dx', vs', rfl, hl, hr⟩, b4, b5⟩ := (R'.at_ 0 _ e).own rfl
  refine q c'.B c'.H dx' ks vs' es' G'.b R'.le (fun a o n h => G'.fr a o h fun m => m.elim (fun z => n (own0 a z)) fun z => by cases z.1) (fun a h n => ?_) b2 hl hr hΦ
  rcases G'.nb a h n with z | z
  · exact z
  · rw [own0 a z] at h
    exact absurd b4 h
end
end DL
/-! a < b < c, *e in a display, comb, isinstance of an own class. -/
namespace DL
open PySem PySem.Spec PyProof.Rows L2 Ax
section
variable {K : Bd}
/-- a < b < c -/
def gChain (f f' : D → D → Option W) (g1 g2 g3 : GX) : GX := fun s Φ => g1 s fun w1 s1 => g2 s1 fun w2 s2 => ∃ d e k, rd w1 s2 = some d ∧ rd w2 s2 = some e ∧ f d e = some (.dat (.bl k)) ∧
  if k = true then g3 s2 fun w3 s3 => ∃ e' d' w, rd w2 s3 = some e' ∧ rd w3 s3 = some d' ∧ f' e' d' = some w ∧ Φ w s3 else Φ (.dat (.bl false)) s2
theorem se_chain {r r' : R2} {f f' : D → D → Option W} {ta tb tc : TE} {g1 g2 g3 : GX} (ho : OpS K r f) (ho' : OpS K r' f') (ha : SE K ta g1) (hb : SE K tb g2) (hc : SE K tc g3) : SE K (tChain r r' ta tb tc) (gChain f f' g1 g2 g3) := by
  intro F hK c Φ Q R p q
  refine ha F hK c _ _ R p fun c1 v1 w1 R1 G1 D1 p1 => ?_
  refine hb.run hK G1.σ R1 p1 fun c2 v2 w2 R2 G2 D2 p2 => ?_
  obtain ⟨d, e, k, e1, e2, e3, p3⟩ := p2
  refine ho F hK c2 _ _ d e _ _ R2 (rd_ok R2 (D1.keep G2) e1) (rd_ok R2 D2 e2) e3 fun c3 v R3 G3 es D3 => ?_
  have hv : v = .bl k := Rp.bl_of (show Rp F.K c3.B v (.bl k) from D3)
  refine ⟨k, hv, ?_⟩
  cases k with
  | true =>
    rw [if_pos rfl] at p3 ⊢
    refine hc.run hK ((G3.σ).trans (G2.σ.trans G1.σ)) R3 (by rw [es]; exact p3) fun c4 v4 w4 R4 G4 D4 p4 => ?_
    obtain ⟨e', d', w, x1, x2, x3, p5⟩ := p4
    have D2' := D2.keep (G3.trans G4)
    refine ho' F hK c4 _ _ e' d' w _ R4 (rd_ok R4 D2' x1) (rd_ok R4 D4 x2) x3 fun c5 v5 R5 G5 es5 D5 => ?_
    exact q c5 v5 w R5 ((((G1.trans G2).trans G3).trans G4).trans G5) (D5.back ((((G1.trans G2).trans G3).trans G4)).go) (es5 ▸ p5)
  | false =>
    rw [if_neg (by decide)] at p3 ⊢
    exact q c3 _ (.dat (.bl false)) R3 ((G1.trans G2).trans G3) (Rp.bl false) (by rw [es]; exact p3)
/-- *e, .. -/
def gaStar (g : GX) (ga : GA) : GA := fun s Φ => g s fun w s1 => ∃ d s2 ds, frz w s1 = some (d, s2) ∧ itemsD d = some ds ∧ ga s2 fun ws s3 => Φ (ds.map W.dat ++ ws) s3
theorem DenA.dats {F : Fx} {c : Cf} : ∀ {vs : List V} {ds : List D}, RpA F.K c.B vs ds → DenA F c vs (ds.map W.dat)
  | _, _, .nil => .nil
  | _, _, .cons h t => .cons h (DenA.dats t)
theorem DenA.app {F : Fx} {c : Cf} : ∀ {vs us : List V} {ws zs : List W}, DenA F c vs ws → DenA F c us zs → DenA F c (vs ++ us) (ws ++ zs)
  | _, _, _, _, .nil, h => h
  | _, _, _, _, .cons h t, g => .cons h (DenA.app t g)
theorem sa_star {te : TE} {t : TA} {g : GX} {ga : GA} (h : SE K te g) (hr : SA K t ga) : SA K (StX.tStar K.K te t) (gaStar g ga) := by
  intro F hK c Φ Q R p q
  subst hK
  refine h F rfl c _ _ R p fun c1 v w R1 G1 D1 p1 => ?_
  obtain ⟨d, s2, ds, e, e', p2⟩ := p1
  obtain ⟨c2, e1, e2, e3, _, R2, G2, r⟩ := frz_ok R1 G1 D1 e
  have go : ∀ xs : List V, RpA F.K c2.B xs ds → t c.σ c1.H fun ys H2 => Q (xs ++ ys) H2 := fun xs rx => by
    refine hr.run rfl (G2.σ) e1 R2 (by rw [e2]; exact p2) fun c3 vs ws R3 G3 D3 p3 => ?_
    exact q c3 _ _ R3 (G2.trans G3) (DenA.app (DenA.dats (rx.ext G3.go.b)) D3) p3
  cases r with
  | @lst a xs ds' h1 h2 =>
    cases Option.some.inj e'
    exact ⟨a, xs, rfl, .inr (by rw [← e1]; exact SqL.of (R2.le _ _ h1)), go xs h2⟩
  | @tup a xs ds' h1 h2 =>
    cases Option.some.inj e'
    exact ⟨a, xs, rfl, .inl (by rw [← e1]; exact h1.ext R2.le), go xs h2⟩
  | @tpz a ob xs ds' h1 _ _ h2 =>
    cases Option.some.inj e'
    have h1 : SqT F.bd.K c2.B a xs := .inl (.inr ⟨_, h1⟩)
    exact ⟨a, xs, rfl, .inl (by rw [← e1]; exact h1.ext R2.le), go xs h2⟩
  | _ => cases e'
/-- comb(a, b) -/
def rComb : List V → Hp → VK → Prop := fun vs H Q => ∃ a b : Int, vs = [.int a, .int b] ∧ 0 ≤ a ∧ 0 ≤ b ∧ a ≤ 18000 ∧ Q (.int (PySem.W.mcComb a b)) H
theorem cr_comb {X : Cx} : CallR X (.builtin "math.comb") rComb := by
  intro pins s σ H vs us Q I r h
  obtain ⟨a, b, rfl, h1, h2, h3, q⟩ := h
  obtain ⟨t, u, rfl⟩ := Vals.int2 r
  exact PySem.W.mc_comb h1 h2 (by omega) (.inr h3) fun _ => ⟨.int _, H, I.tok _, ⟨_, rfl⟩, q⟩
def fComb : List D → Option W
  | [.int a, .int b] => if 0 ≤ a ∧ 0 ≤ b ∧ a ≤ 18000 then some (.dat (.int (PySem.W.mcComb a b))) else none
  | _ => none
theorem cs_comb : ClS K rComb fComb := by
  intro F hK c xs ds w Q R hx hf q
  match ds, hx, hf with
  | [.int a, .int b], .cons h1 (.cons h2 .nil), hf =>
    simp only [fComb] at hf
    split at hf
    · rename_i h
      cases Option.some.inj hf
      exact ⟨a, b, by rw [h1.int, h2.int], h.1, h.2.1, h.2.2, q c _ R GoE.rfl' rfl (Rp.int _)⟩
    · cases hf
end
end DL
/-! while over data. -/
namespace DL
open PySem PySem.Spec PyProof.Rows L2 Ax
def whileN (gt : GB) (b : GS) : Nat → Stt → EndsD → Prop
  | 0, _, _ => False
  | n + 1, s, De => gt s fun k s1 => if k = true then b s1 { nx := fun s2 => whileN gt b n s2 De, ct := fun s2 => whileN gt b n s2 De, bk := De.nx, rt := De.rt, ex := De.ex } else De.nx s1
/-- while: some number of rounds bounds it -/
def gsWhile (gt : GB) (b : GS) : GS := fun s De => ∃ n, whileN gt b n s De
section
variable {K : Bd}
theorem ss_while {tt : TT} {tb : TS} {gt : GB} {b : GS} (ht : SB K tt gt) (hb : SS K tb b) : SS K (tWhile tt tb) (gsWhile gt b) := by
  intro F hK c E De R p ok
  obtain ⟨n, p⟩ := p
  refine ⟨fun m σ H => ∃ c2, c2.σ = σ ∧ c2.H = H ∧ Rep F c2 ∧ Go F c c2 ∧ whileN gt b m c2.s De, ⟨n, c, rfl, rfl, R, Go.rfl', p⟩, ?_⟩
  rintro m σ H ⟨c2, rfl, rfl, R2, G2, p2⟩
  cases m with
  | zero => exact p2.elim
  | succ m =>
    refine ht F hK c2 _ _ R2 p2 fun c3 k R3 G3 p3 => ?_
    cases k with
    | true =>
      rw [if_pos rfl] at p3 ⊢
      refine ⟨fun σ' H' => ∃ c4, c4.σ = σ' ∧ c4.H = H' ∧ Rep F c4 ∧ Go F c c4 ∧ whileN gt b m c4.s De, fun σ' H' h => ⟨m, Nat.lt_succ_self m, h⟩, ?_⟩
      have G13 := G2.trans G3.go
      refine hb.run hK G3.σ (De := { nx := fun s2 => whileN gt b m s2 De, ct := fun s2 => whileN gt b m s2 De, bk := De.nx, rt := De.rt, ex := De.ex }) R3 p3 ⟨fun c5 R5 G5 p5 => ⟨c5, rfl, rfl, R5, G13.trans G5, p5⟩, fun c5 v w R5 G5 D5 p5 => ?_, fun c5 R5 G5 p5 => ?_, fun c5 R5 G5 p5 => ⟨c5, rfl, rfl, R5, G13.trans G5, p5⟩, fun c5 R5 G5 => ok.ex c5 R5 (G13.trans G5)⟩
      · exact ok.rt c5 v w R5 (G13.trans G5) (D5.back G13) p5
      · exact ok.nx c5 R5 (G13.trans G5) p5
    | false =>
      rw [if_neg (by decide)] at p3 ⊢
      exact (ok.go G2).nxE R3 G3 p3
/-- x op= e -/
def gsAug (i : Nat) (f : D → D → Option W) (g : GX) : GS := fun s De => ∃ d0, s.r[i]? = some (some (.val d0)) ∧ g s fun w s1 => ∃ e w' d s2, rd w s1 = some e ∧ f d0 e = some w' ∧ frz w' s1 = some (d, s2) ∧ De.nx (s2.put i (.val d))
theorem ss_aug {i : Nat} {r : R2} {f : D → D → Option W} {t : TE} {g : GX} (ho : OpS K r f) (h : SE K t g) : SS K (tAug i t r) (gsAug i f g) := by
  intro F hK c E De R p ok
  obtain ⟨d0, e0, p⟩ := p
  have y : EnR F c i (.val d0) := R.at_ i _ e0
  obtain ⟨v0, hv0, r0⟩ := y
  refine ⟨v0, hv0, ?_⟩
  refine h F hK c _ _ R p fun c1 v1 w1 R1 G1 D1 p1 => ?_
  obtain ⟨e, w', d, s2, e1, e2, e3, p2⟩ := p1
  refine ho F hK c1 _ _ d0 e w' _ R1 (.inl (by subst hK; exact r0.ext G1.go.b)) (rd_ok R1 D1 e1) e2 fun c2 v2 R2 G2 es D2 => ?_
  obtain ⟨c3, a1, a2, a3, _, R3, G3, rv⟩ := frz_ok R2 G2 D2 (by rw [es]; exact e3)
  obtain ⟨R4, G4⟩ := R3.setV (i := i) rv
  have key := ok.nx _ R4 ((G1.go.trans G3.go).trans G4) (by rw [← a2] at p2; exact p2)
  have eσ : c3.σ = c.σ := by rw [a3, G2.σ, G1.σ]
  rw [← a1, ← eσ]
  exact key
end
end DL
/-! Dicts whose keys are numbers and texts, own ones and told ones, over data. -/
namespace DL
open PySem PySem.Spec PyProof.Rows L2 Ax
def getC (kvs : List (L2.Key × D)) (k : L2.Key) : Option D := (kvs.find? fun p => decide (p.1 = k)).map (·.2)
def putC (kvs : List (L2.Key × D)) (k : L2.Key) (d : D) : List (L2.Key × D) := if (kvs.any fun p => decide (p.1 = k)) = true then kvs.map (fun p => if p.1 = k then (p.1, d) else p) else kvs ++ [(k, d)]
def kyD : L2.Key → D
  | .inl i => .int i
  | .inr x => .str x
/-- a dict as it stands now -/
def rdk : W → Stt → Option (List (L2.Key × D))
  | .dat (.dic ks ds), _ => some (ks.zip ds)
  | .loc i, s => match s.r[i]? with
    | some (some (.dck kvs)) => some kvs
    | _ => none
  | _, _ => none
section
variable {K : Bk} {B : Hp}
theorem kk_zip : ∀ {ks : List L2.Key} {xs : List V} {ds : List D}, RpA K B xs ds → Paired (KkR K B) (ks.zip xs) (ks.zip ds)
  | [], _, _, _ => by simp only [List.zip_nil_left]; exact .nil
  | k :: ks, _, _, .nil => by simp only [List.zip_nil_right]; exact .nil
  | k :: ks, _, _, .cons h t => by simp only [List.zip_cons_cons]; exact .cons ⟨rfl, h⟩ (kk_zip t)
theorem kk_get : ∀ {ks : List (L2.Key × V)} {kvs : List (L2.Key × D)}, Paired (KkR K B) ks kvs → ∀ k, (valV ks k = none ∧ getC kvs k = none) ∨ ∃ v d, valV ks k = some v ∧ getC kvs k = some d ∧ Rp K B v d
  | _, _, .nil, k => .inl ⟨rfl, rfl⟩
  | _, _, .cons (a := p) (b := q) (l₁ := l1) (l₂ := l2) h r, k => by
    obtain ⟨e1, rv⟩ := h
    by_cases c : p.1 = k
    · refine .inr ⟨p.2, q.2, valV_pos c, ?_, rv⟩
      unfold getC
      rw [List.find?_cons_of_pos (by rw [← e1]; simpa using c)]
      rfl
    · have g2 : getC (q :: l2) k = getC l2 k := by
        unfold getC
        rw [List.find?_cons_of_neg (by rw [← e1]; simpa using c)]
      rw [valV_neg c, g2]
      exact kk_get r k
theorem kk_any (k : L2.Key) : ∀ {ks : List (L2.Key × V)} {kvs : List (L2.Key × D)}, Paired (KkR K B) ks kvs → (ks.any fun p => decide (p.1 = k)) = (kvs.any fun p => decide (p.1 = k))
  | _, _, .nil => rfl
  | _, _, .cons h r => by
    rw [List.any_cons, List.any_cons, h.1, kk_any k r]
theorem kk_snoc : ∀ {ks : List (L2.Key × V)} {kvs : List (L2.Key × D)} {p : L2.Key × V} {q : L2.Key × D}, Paired (KkR K B) ks kvs → KkR K B p q → Paired (KkR K B) (ks ++ [p]) (kvs ++ [q])
  | _, _, _, _, .nil, h => .cons h .nil
  | _, _, _, _, .cons g r, h => .cons g (kk_snoc r h)
theorem kk_map {k : L2.Key} {v : V} {d : D} (rv : Rp K B v d) : ∀ {ks : List (L2.Key × V)} {kvs : List (L2.Key × D)}, Paired (KkR K B) ks kvs → Paired (KkR K B) (ks.map fun p => if p.1 = k then (p.1, v) else p) (kvs.map fun p => if p.1 = k then (p.1, d) else p)
  | _, _, .nil => .nil
  | _, _, .cons (a := p) (b := q) h r => by
    refine .cons ?_ (kk_map rv r)
    show KkR K B (if p.1 = k then (p.1, v) else p) (if q.1 = k then (q.1, d) else q)
    by_cases c : p.1 = k
    · rw [if_pos c, if_pos (h.1 ▸ c)]
      exact ⟨h.1, rv⟩
    · rw [if_neg c, if_neg (h.1 ▸ c)]
      exact h
theorem kk_put {ks : List (L2.Key × V)} {kvs : List (L2.Key × D)} (h : Paired (KkR K B) ks kvs) (k : L2.Key) {v : V} {d : D} (rv : Rp K B v d) : Paired (KkR K B) (L2.putK ks k v) (putC kvs k d) := by
  unfold L2.putK putC
  rw [kk_any k h]
  by_cases c : (kvs.any fun p => decide (p.1 = k)) = true
  · rw [if_pos c, if_pos c]
    exact kk_map rv h
  · rw [if_neg c, if_neg c]
    exact kk_snoc h ⟨rfl, rv⟩
theorem kk_len : ∀ {ks : List (L2.Key × V)} {kvs : List (L2.Key × D)}, Paired (KkR K B) ks kvs → ks.length = kvs.length
  | _, _, .nil => rfl
  | _, _, .cons _ r => congrArg (· + 1) (kk_len r)
end
section
variable {K : Bd}
theorem rdk_ok {F : Fx} {H0 : Hp} {c : Cf} {v : V} {w : W} {kvs : List (L2.Key × D)} (R : Rep F c) (h : Den F H0 c v w) (e : rdk w c.s = some kvs) : ∃ a ks, v = .ref a ∧ c.H a = some (.dK ks) ∧ Paired (KkR F.K c.B) ks kvs := by
  cases w with
  | dat d =>
    cases d with
    | dic ks ds =>
      cases Option.some.inj e
      cases (show Rp F.K c.B v (.dic ks ds) from h) with
      | dic h1 h2 h3 => exact ⟨_, _, rfl, R.le _ _ h1, kk_zip h3⟩
    | _ => cases e
  | loc i =>
    obtain ⟨h1, en, h2⟩ := h
    simp only [rdk, h2] at e
    cases en with
    | dck kv =>
      cases Option.some.inj e
      obtain ⟨l, o, q1, q2, ⟨ks, rfl, q3⟩, _⟩ := R.at_ i _ h2
      rw [h1] at q1
      cases q1
      exact ⟨l, ks, rfl, q2, q3⟩
    | _ => cases e
  | new ds => cases e
theorem key_of {F : Fx} {c : Cf} {v : V} {k : L2.Key} (h : Rq F c v (kyD k)) : v = kV k := by
  cases k with
  | inl i => exact h.int
  | inr x => exact h.str
/-- k in d, k not in d -/
def gInC (neg : Bool) (g1 g2 : GX) : GX := fun s Φ => g1 s fun w1 s1 => g2 s1 fun w2 s2 => ∃ k kvs, rd w1 s2 = some (kyD k) ∧ rdk w2 s2 = some kvs ∧ Φ (.dat (.bl (if neg then !(getC kvs k).isSome else (getC kvs k).isSome))) s2
theorem get_isSome {F : Fx} {c : Cf} {ks : List (L2.Key × V)} {kvs : List (L2.Key × D)} (h : Paired (KkR F.K c.B) ks kvs) (k : L2.Key) : (valV ks k).isSome = (getC kvs k).isSome := by
  rcases kk_get h k with ⟨a, b⟩ | ⟨v, d, a, b, _⟩ <;> rw [a, b] <;> rfl
theorem se_inC {t1 t2 : TE} {g1 g2 : GX} (h1 : SE K t1 g1) (h2 : SE K t2 g2) : SE K (tDIn t1 t2) (gInC false g1 g2) := by
  intro F hK c Φ Q R p q
  refine h1 F hK c _ _ R p fun c1 v1 w1 R1 G1 D1 p1 => ?_
  refine h2.run hK G1.σ R1 p1 fun c2 v2 w2 R2 G2 D2 p2 => ?_
  obtain ⟨k, kvs, e1, e2, p3⟩ := p2
  obtain ⟨a, ks, rfl, ha, r⟩ := rdk_ok R2 D2 e2
  have ek := key_of (rd_ok R2 (D1.keep G2) e1)
  refine ⟨a, _, rfl, by rw [ek]; exact DGet.k ha, ?_⟩
  rw [get_isSome r k]
  exact q c2 _ (.dat (.bl _)) R2 (G1.trans G2) (Rp.bl _) p3
theorem se_notInC {t1 t2 : TE} {g1 g2 : GX} (h1 : SE K t1 g1) (h2 : SE K t2 g2) : SE K (tDNotIn t1 t2) (gInC true g1 g2) := by
  intro F hK c Φ Q R p q
  refine h1 F hK c _ _ R p fun c1 v1 w1 R1 G1 D1 p1 => ?_
  refine h2.run hK G1.σ R1 p1 fun c2 v2 w2 R2 G2 D2 p2 => ?_
  obtain ⟨k, kvs, e1, e2, p3⟩ := p2
  obtain ⟨a, ks, rfl, ha, r⟩ := rdk_ok R2 D2 e2
  have ek := key_of (rd_ok R2 (D1.keep G2) e1)
  refine ⟨a, _, rfl, by rw [ek]; exact DGet.k ha, ?_⟩
  rw [get_isSome r k]
  exact q c2 _ (.dat (.bl _)) R2 (G1.trans G2) (Rp.bl _) p3
/-- d[k] -/
def gIxC (g1 g2 : GX) : GX := fun s Φ => g1 s fun w1 s1 => g2 s1 fun w2 s2 => ∃ kvs k d, rdk w1 s2 = some kvs ∧ rd w2 s2 = some (kyD k) ∧ getC kvs k = some d ∧ Φ (.dat d) s2
theorem se_ixC {t1 t2 : TE} {g1 g2 : GX} (h1 : SE K t1 g1) (h2 : SE K t2 g2) : SE K (tDGet t1 t2) (gIxC g1 g2) := by
  intro F hK c Φ Q R p q
  refine h1 F hK c _ _ R p fun c1 v1 w1 R1 G1 D1 p1 => ?_
  refine h2.run hK G1.σ R1 p1 fun c2 v2 w2 R2 G2 D2 p2 => ?_
  obtain ⟨kvs, k, d, e1, e2, e3, p3⟩ := p2
  obtain ⟨a, ks, rfl, ha, r⟩ := rdk_ok R2 (D1.keep G2) e1
  have ek := key_of (rd_ok R2 D2 e2)
  rcases kk_get r k with ⟨_, f2⟩ | ⟨v, d', f1, f2, rv⟩
  · rw [f2] at e3; cases e3
  · rw [f2] at e3
    cases e3
    refine ⟨a, v, rfl, ?_, q c2 _ (.dat d) R2 (G1.trans G2) rv p3⟩
    rw [ek, ← f1]
    exact DGet.k ha
/-- d.get(k), d.get(k, x) -/
def gGetC (g1 g2 g3 : GX) : GX := fun s Φ => g1 s fun w1 s1 => (∃ kvs, rdk w1 s1 = some kvs) ∧ g2 s1 fun w2 s2 => g3 s2 fun w3 s3 => ∃ kvs k d s4, rdk w1 s3 = some kvs ∧ rd w2 s3 = some (kyD k) ∧ frz w3 s3 = some (d, s4) ∧ Φ (.dat ((getC kvs k).getD d)) s4
theorem se_getC1 {t1 t2 : TE} {g1 g2 : GX} (h1 : SE K t1 g1) (h2 : SE K t2 g2) : SE K (tDGet1 t1 t2) (gGetC g1 g2 (gDat .non)) := by
  intro F hK c Φ Q R p q
  refine h1 F hK c _ _ R p fun c1 v1 w1 R1 G1 D1 p1 => ?_
  obtain ⟨⟨kv0, e0⟩, p1⟩ := p1
  obtain ⟨a, ks0, rfl, ha0, _⟩ := rdk_ok R1 D1 e0
  refine ⟨a, rfl, .inl ⟨ks0, .of ha0⟩, ?_⟩
  refine h2.run hK G1.σ R1 p1 fun c2 v2 w2 R2 G2 D2 p2 => ?_
  obtain ⟨kvs, k, d, s4, e1, e2, e3, p3⟩ := p2
  cases Option.some.inj e3
  obtain ⟨a', ks, ea, ha, r⟩ := rdk_ok R2 (D1.keep G2) e1
  cases ea
  have ek := key_of (rd_ok R2 D2 e2)
  refine ⟨valV ks k, by rw [ek]; exact DGet.k ha, ?_⟩
  rcases kk_get r k with ⟨f1, f2⟩ | ⟨v, d', f1, f2, rv⟩
  · rw [f1]
    rw [f2] at p3
    exact q c2 _ (.dat .non) R2 (G1.trans G2) Rp.non p3
  · rw [f1]
    rw [f2] at p3
    exact q c2 _ (.dat d') R2 (G1.trans G2) rv p3
/-- d = {} -/
def gsDck (i : Nat) : GS := fun s De => De.nx (s.put i (.dck []))
theorem ss_dck {i : Nat} : SS K (tAsg tDNewK (L2.gName i)) (gsDck i) := by
  intro F hK c E De R p ok l hl
  subst hK
  obtain ⟨R1, G1⟩ := R.putH (o := .dK []) hl
  obtain ⟨R2, hO⟩ := R1.setE (i := i) (v := .ref l) (e := .dck []) (fun q => ⟨l, .dK [], List.getElem?_set_self q, upd_same, ⟨[], rfl, .nil⟩, R.notB hl, R.notBag hl⟩) (fun l' _ e => by cases e; exact fun m => R.notOwn hl (m.ofEq rfl rfl))
  refine ok.nx _ R2 ⟨G1.go.b, G1.go.fr, G1.go.nb, fun a m => ?_, G1.go.dom⟩ p
  rcases hO a m with z | ⟨_, z⟩
  · exact G1.go.ow a z
  · cases z; exact .inr hl
/-- d[k] = v -/
def gsPutC (i : Nat) (ge gk : GX) : GS := fun s De => ge s fun w s1 => ∃ d s2, frz w s1 = some (d, s2) ∧ (∃ kvs, s2.r[i]? = some (some (.dck kvs))) ∧ gk s2 fun wk s3 => ∃ kvs k, rd wk s3 = some (kyD k) ∧ s3.r[i]? = some (some (.dck kvs)) ∧ kvs.length < 1000000 ∧ De.nx (s3.put i (.dck (putC kvs k d)))
theorem Rep.dckE {F : Fx} {c : Cf} (R : Rep F c) {i : Nat} {kvs : List (L2.Key × D)} (h : c.s.r[i]? = some (some (.dck kvs))) : ∃ l ks, c.σ[i]? = some (some (.ref l)) ∧ c.H l = some (.dK ks) ∧ Paired (KkR F.K c.B) ks kvs := by
  obtain ⟨l, o, q1, q2, ⟨ks, rfl, q3⟩, q4, q5⟩ := R.at_ i _ h
  exact ⟨l, ks, q1, q2, q3⟩
theorem ss_putC {i : Nat} {t tk : TE} {ge gk : GX} (h1 : SE K t ge) (h2 : SE K tk gk) : SS K (sDPut (tVar i) tk t) (gsPutC i ge gk) := by
  intro F hK c E De R p ok
  subst hK
  refine h1 F rfl c _ _ R p fun c1 v w R1 G1 D1 p1 => ?_
  obtain ⟨d, s2, e1, ⟨kv0, e0⟩, p2⟩ := p1
  obtain ⟨c2, b1, b2, b3, x2, R2, G2, r⟩ := frz_ok R1 G1 D1 e1
  rw [← b2] at e0 p2
  obtain ⟨l, ks0, q1, q2, _⟩ := R2.dckE e0
  rw [← b1]
  refine ⟨.ref l, by rw [← G2.σ]; exact q1, ?_⟩
  refine h2.run rfl G2.σ R2 p2 fun c3 vk wk R3 G3 D3 p3 => ?_
  obtain ⟨kvs, k, e3, e4, hl, p4⟩ := p3
  have ek := key_of (rd_ok R3 D3 e3)
  obtain ⟨l', kv', y1, y2, y3⟩ := R3.dckE e4
  rw [G3.σ, q1] at y1
  cases y1
  have rv : Rp F.K c3.B v d := r.ext G3.go.b
  obtain ⟨R5, G5⟩ := R3.updE (e' := .dck (putC kvs k d)) (o' := .dK (L2.putK kv' k v)) e4 rfl (by rw [G3.σ]; exact q1) ⟨_, rfl, kk_put y3 k rv⟩
  refine ⟨l, _, rfl, by rw [ek]; exact DPut.k y2 (by rw [kk_len y3, sizeLine_eq]; omega), ?_⟩
  exact ok.nxE R5 ((G2.trans G3).trans G5) p4
end
end DL
/-! Readings by their values: instances, dicts, chains, stars, while. -/
namespace DL
open PySem PySem.Spec PyProof.Rows L2 Ax
section
variable {s s' s2 : Stt} {g g1 g2 g3 : GX} {gt : GB} {ga gk : GA} {w w1 w2 w3 : W} {d e : D} {ds es : List D} {ws us : List W} {b b1 b2 k : Bool} {i : Nat} {C f m : Str} {ks ks2 : List Str} {dd : List D} {G : GF}
theorem Ev.fld (h : Ev g s w) (r : rd w s = some (.ins C ks ds)) (l : (ks.zip ds).lookup f = some d) : Ev (gFld C f g) s (.dat d) := fun Φ q => h _ ⟨ks, ds, d, r, l, q⟩
theorem Ev.meth (h : Ev g s w) (r : rd w s = some (.ins C ks ds)) (hm : m ∉ ks) (ha : EvA ga s ws) (ra : frzA ws s = some (es, s)) (hG : ∀ Φ : D → Prop, Φ d → G (.ins C ks ds :: (es ++ dd)) Φ) : Ev (gMeth C m G dd g ga) s (.dat d) :=
  fun Φ q => h _ ⟨ks, ds, r, hm, ha _ ⟨es, s, ra, hG _ q⟩⟩
theorem Ev.eqO (h1 : Ev g1 s w1) (h2 : Ev g2 s w2) (r1 : rd w1 s = some (.ins C ks ds)) (r2 : rd w2 s = some (.ins C ks2 es)) (hG : ∀ Φ : D → Prop, Φ (.bl k) → G [.ins C ks ds, .ins C ks2 es] Φ) : Ev (gEqO C G g1 g2) s (.dat (.bl k)) :=
  fun Φ q => h1 _ (h2 _ ⟨ks, ds, ks2, es, r1, r2, hG _ ⟨k, rfl, q⟩⟩)
theorem Ev.neO (h1 : Ev g1 s w1) (h2 : Ev g2 s w2) (r1 : rd w1 s = some (.ins C ks ds)) (r2 : rd w2 s = some (.ins C ks2 es)) (hG : ∀ Φ : D → Prop, Φ (.bl k) → G [.ins C ks ds, .ins C ks2 es] Φ) : Ev (gNeO C G g1 g2) s (.dat (.bl (!k))) :=
  fun Φ q => h1 _ (h2 _ ⟨ks, ds, ks2, es, r1, r2, hG _ ⟨k, rfl, q⟩⟩)
theorem Ev.make {GI' : GFI} (ha : EvA ga s ws) (ra : frzA ws s = some (es, s)) (hG : ∀ Φ : List Str → List D → Prop, Φ ks ds → GI' (es ++ dd) Φ) : Ev (gMake C GI' dd ga) s (.dat (.ins C ks ds)) := fun Φ q => ha _ ⟨es, s, ra, hG _ q⟩
theorem Ev.chain {f1 f2 : D → D → Option W} (h1 : Ev g1 s w1) (h2 : Ev g2 s w2) (r1 : rd w1 s = some d) (r2 : rd w2 s = some e) (hf : f1 d e = some (.dat (.bl b1))) {d3 : D} (h3 : b1 = true → Ev g3 s w3 ∧ rd w3 s = some d3 ∧ f2 e d3 = some (.dat (.bl b2))) : Ev (gChain f1 f2 g1 g2 g3) s (.dat (.bl (b1 && b2))) :=
  fun Φ q => h1 _ (h2 _ ⟨d, e, b1, r1, r2, hf, by
    cases b1 with
    | true =>
      obtain ⟨x, y, z⟩ := h3 rfl
      rw [if_pos rfl]
      exact x _ ⟨e, d3, _, r2, y, z, q⟩
    | false => exact q⟩)
theorem frzA_dats : ∀ (ds : List D) (s : Stt), frzA (ds.map W.dat) s = some (ds, s)
  | [], s => rfl
  | d :: ds, s => by simp only [List.map_cons, frzA, frz, frzA_dats ds s]
theorem EvA.star (h : Ev g s w) (r : frz w s = some (d, s)) (hi : itemsD d = some ds) (ha : EvA ga s ws) : EvA (gaStar g ga) s (ds.map W.dat ++ ws) := fun Φ q => h _ ⟨d, s, ds, r, hi, ha _ q⟩
theorem Ev.inC {neg : Bool} {k : L2.Key} {kvs : List (L2.Key × D)} (h1 : Ev g1 s w1) (h2 : Ev g2 s w2) (r1 : rd w1 s = some (kyD k)) (r2 : rdk w2 s = some kvs) : Ev (gInC neg g1 g2) s (.dat (.bl (if neg then !(getC kvs k).isSome else (getC kvs k).isSome))) := fun Φ q => h1 _ (h2 _ ⟨k, kvs, r1, r2, q⟩)
theorem Ev.ixC {k : L2.Key} {kvs : List (L2.Key × D)} (h1 : Ev g1 s w1) (h2 : Ev g2 s w2) (r1 : rdk w1 s = some kvs) (r2 : rd w2 s = some (kyD k)) (hg : getC kvs k = some d) : Ev (gIxC g1 g2) s (.dat d) := fun Φ q => h1 _ (h2 _ ⟨kvs, k, d, r1, r2, hg, q⟩)
theorem Ev.getC {k : L2.Key} {kvs : List (L2.Key × D)} (h1 : Ev g1 s w1) (h2 : Ev g2 s w2) (h3 : Ev g3 s w3) (r1 : rdk w1 s = some kvs) (r2 : rd w2 s = some (kyD k)) (r3 : frz w3 s = some (d, s)) : Ev (gGetC g1 g2 g3) s (.dat ((DL.getC kvs k).getD d)) := fun Φ q => h1 _ ⟨⟨kvs, r1⟩, h2 _ (h3 _ ⟨kvs, k, d, s, r1, r2, r3, q⟩)⟩
end
section
variable {s s' : Stt} {De : EndsD} {g ge gk : GX} {gt : GB} {a b : GS} {w w2 : W} {d d0 e : D} {i : Nat} {C f : Str} {ks : List Str} {ds : List D} {x : Addr}
theorem gs_fld (h : Ev g s w) (r : frz w s = some (d, s)) (h0 : s.r[i]? = some (some (.obj x C ks ds))) (hf : f ∉ ks) (hl : ks.length < 1000) (q : De.nx (s.put i (.obj x C (ks ++ [f]) (ds ++ [d])))) : gsFld i C f g s De := h _ ⟨d, s, x, ks, ds, r, h0, hf, hl, q⟩
theorem gs_dck (q : De.nx (s.put i (.dck []))) : gsDck i s De := q
theorem gs_putC {k : L2.Key} {kvs : List (L2.Key × D)} (h0 : s.r[i]? = some (some (.dck kvs))) (he : Ev ge s w) (re : frz w s = some (d, s)) (hk : Ev gk s w2) (rk : rd w2 s = some (kyD k)) (hl : kvs.length < 1000000) (q : De.nx (s.put i (.dck (putC kvs k d)))) : gsPutC i ge gk s De :=
  he _ ⟨d, s, re, ⟨kvs, h0⟩, hk _ ⟨kvs, k, rk, h0, hl, q⟩⟩
theorem gs_aug {f1 : D → D → Option W} {w' : W} (h0 : s.r[i]? = some (some (.val d0))) (h : Ev g s w) (r : rd w s = some e) (hf : f1 d0 e = some w') (rf : frz w' s = some (d, s)) (q : De.nx (s.put i (.val d))) : gsAug i f1 g s De := ⟨d0, h0, h _ ⟨e, w', d, s, r, hf, rf, q⟩⟩
/-- a while by a measure -/
theorem gs_while (I : Nat → Stt → Prop)
    (step : ∀ n s De', I n s → De'.rt = De.rt → De'.bk = De.nx → (∀ m s', m < n → I m s' → De'.nx s') → (∀ m s', m < n → I m s' → De'.ct s') → gt s fun k s1 => if k = true then b s1 De' else De.nx s1) (n : Nat) (h0 : I n s) : gsWhile gt b s De := by
  have key : ∀ N n s, n < N → I n s → whileN gt b N s De := by
    intro N
    induction N with
    | zero => intro n s h; omega
    | succ N ih =>
      intro n s h hI
      exact step n s { nx := fun s2 => whileN gt b N s2 De, ct := fun s2 => whileN gt b N s2 De, bk := De.nx, rt := De.rt, ex := De.ex } hI rfl rfl (fun m s' hm h' => ih m s' (by omega) h') fun m s' hm h' => ih m s' (by omega) h'
  exact ⟨n + 1, key (n + 1) n s (by omega) h0⟩
end
end DL
/-! A law's body behind its bag. -/
namespace DL
open PySem PySem.Spec PyProof.Rows L2 Ax
theorem top_run {K : Bd} {t : TS} {g : GS} (ss : SS K t g) {n : Nat} {b c : Addr} {ms : List Int} {H : Hp} {σ : L2.St} {Q : VK} (hB : BagAt H b c ms 0) (e1 : σ[1]? = some (some (.ref b))) (el : σ.length = n + 2)
    (hg : g ⟨none :: some .bag :: List.replicate n none, 0⟩ (retD fun d => d = .bl true)) (hQ : ∀ H', Q (.bl true) H') : t { nx := fun _ H' => Q .non H', rt := Q } σ H := by
  have at0 : ∀ (i : Nat) (e : En), (none :: some En.bag :: List.replicate n none)[i]? = some (some e) → i = 1 ∧ e = .bag := by
    intro i e h
    match i, h with
    | 0, h => cases h
    | 1, h => exact ⟨rfl, (Option.some.inj (Option.some.inj h)).symm⟩
    | i + 2, h =>
      have h' : (List.replicate n (none : Option En))[i]? = some (some e) := h
      rw [List.getElem?_replicate] at h'
      split at h' <;> cases h'
  let s0 : Stt := ⟨none :: some .bag :: List.replicate n none, 0⟩
  let B : Hp := fun a => if a = b ∨ a = c then none else H a
  have noOwn : ∀ (i : Nat) (e : En), s0.r[i]? = some (some e) → e.isOwn = true → False := by
    intro i e h o
    obtain ⟨_, rfl⟩ := at0 i e h
    cases o
  have b0 : B b = none := if_pos (.inl rfl)
  have c0 : B c = none := if_pos (.inr rfl)
  have xB : Ext B H := by
    intro a o h
    by_cases z : a = b ∨ a = c
    · have : B a = none := if_pos z
      rw [this] at h
      cases h
    · have : B a = H a := if_neg z
      rw [← this]
      exact h
  have R0 : Rep ⟨K, b, c, ms, true⟩ ⟨B, H, σ, s0⟩ := by
    refine ⟨xB, ?_, fun i e h => ?_, fun i j ei ej l h1 o1 _ _ _ _ => (noOwn i ei h1 o1).elim, fun _ => ⟨hB, b0, c0⟩⟩
    · show σ.length = (none :: some En.bag :: List.replicate n none).length
      rw [el]
      simp
    · obtain ⟨rfl, rfl⟩ := at0 i e h
      exact ⟨rfl, e1⟩
  have n0 : ∀ a, ¬ Own ⟨B, H, σ, s0⟩ a := by
    rintro a ⟨i, e, h1, o1, _⟩
    exact noOwn i e h1 o1
  refine ss ⟨K, b, c, ms, true⟩ rfl ⟨B, H, σ, s0⟩ _ (retD fun d => d = .bl true) R0 hg ⟨fun c' R' G' p => ?_, fun c' v w R' G' D' p => ?_, fun c' R' G' p => p.elim, fun c' R' G' p => p.elim, fun c' R' G' _ _ _ _ _ _ _ _ z => z.elim⟩
  · cases p
  · obtain ⟨d, s', e, rfl⟩ := p
    obtain ⟨B', _, _, b3, _⟩ := outB R' G' n0 D' e
    cases b3
    exact hQ _
end DL
/-! Methods and classes as they are called: a promise with where they stand. -/
namespace DL
open PySem PySem.Spec PyProof.Rows L2 Ax
/-- the method m of the class C keeps sp -/
def DMt (P : Program) (w : World) (K : PySem.W.Frag) (mg : Str → Option Value) (base : Heap) (CX : CXT) (k : Nat) (C m : Str) (ps : List Str) (dvs : List V) (sp : Sp) : Prop :=
  ∃ (f : Addr) (fd : FuncData) (ds : List Value), FnOk P w K mg base CX k f fd ps sp ∧ Cls K (He.ga K C) ∧ Meth K (He.ga K C) m f ∧ Vals dvs ds ∧ Binds K fd ps ds
/-- the class of the module's name x, defaults that fill up: its __init__ keeps sp -/
def DcD (P : Program) (w : World) (K : PySem.W.Frag) (mg : Str → Option Value) (base : Heap) (CX : CXT) (k : Nat) (x : Str) (ps : List Str) (dvs : List V) (sp : Sp) : Prop :=
  ∃ (f : Addr) (fd : FuncData) (ds : List Value), FnOk P w K mg base CX k f fd ps sp ∧ mg x = some (.ref (He.ga K x)) ∧ Mk K (He.ga K x) f ∧ Vals dvs ds ∧ Binds K fd ps ds
section
variable {X : Cx} {CX : CXT} {k : Nat} {ps : List Str} {dvs : List V} {sp : Sp} {E : XK} {C m x : Str} {p pos apos : Pos} {o e : Expr} {es : List Expr} {ta : TE} {t : TA}
theorem pe_dmt {pl : Sem Bool} (D : DMt X.prog X.w X.K X.mg X.base CX k C m ps dvs sp) (hr : Room k X.A) (hx : Passes CX X E) (he : PE X o ta) (ha : PA X (e :: es) t)
    (hst : starEach (e :: es) X.env = (false, eval e X.env) :: starEach es X.env := by rfl) (hpl : (backTo pos (starEach es X.env)).any (·.1) = false := by rfl)
    (ht : eval (.Call (.Attribute o m apos) (e :: es) [] pos) X.env = (do
      let ov ← eval o X.env
      standAt apos.atName
      let (f, first) ← holding [ov] (getMethod ov m pl)
      callWith pos f first (backTo pos (starEach (e :: es) X.env)) (backToKw pos (keywordEach [] X.env))) := by rfl) :
    PE X (.Call (.Attribute o m apos) (e :: es) [] pos) (tMeth (He.ga X.K C) m sp dvs E ta t) := by
  obtain ⟨f, fd, ds, F, c, hm, hd, hb⟩ := D
  exact pe_meth he c hm F hr hb hd hx ha hst hpl ht
theorem pe_dmt0 {pl : Sem Bool} (D : DMt X.prog X.w X.K X.mg X.base CX k C m ps dvs sp) (hr : Room k X.A) (hx : Passes CX X E) (he : PE X o ta)
    (ht : eval (.Call (.Attribute o m apos) [] [] pos) X.env = (do
      let ov ← eval o X.env
      standAt apos.atName
      let (f, first) ← holding [ov] (getMethod ov m pl)
      callWith pos f first (backTo pos (starEach [] X.env)) (backToKw pos (keywordEach [] X.env))) := by rfl) :
    PE X (.Call (.Attribute o m apos) [] [] pos) (tMeth (He.ga X.K C) m sp dvs E ta tNil) := by
  obtain ⟨f, fd, ds, F, c, hm, hd, hb⟩ := D
  exact pe_meth0 he c hm F hr hb hd hx ht
theorem pe_dcD (D : DcD X.prog X.w X.K X.mg X.base CX k x ps dvs sp) (hr : Room (k + 1) X.A) (hg : Gl X x) (hx : Passes CX X E) (ha : PA X (e :: es) t) (hdb : (x == ("__debug__" : Str)) = false := by decide)
    (he : starEach (e :: es) X.env = (false, eval e X.env) :: starEach es X.env := by rfl) (hpl : (backTo pos (starEach es X.env)).any (·.1) = false := by rfl) :
    PE X (.Call (.Name x p) (e :: es) [] pos) (tMake (He.ga X.K x) sp dvs E t) := by
  obtain ⟨f, fd, ds, F, hm, hk, hd, hb⟩ := D
  exact pe_make hk F hr hg hm hb hd hx ha hdb he hpl
theorem pe_dcD0 (D : DcD X.prog X.w X.K X.mg X.base CX k x ps dvs sp) (hr : Room (k + 1) X.A) (hg : Gl X x) (hx : Passes CX X E) (hdb : (x == ("__debug__" : Str)) = false := by decide) :
    PE X (.Call (.Name x p) [] [] pos) (tMake (He.ga X.K x) sp dvs E tNil) := by
  obtain ⟨f, fd, ds, F, hm, hk, hd, hb⟩ := D
  exact pe_make0 hk F hr hg hm hb hd hx hdb
end
section
variable {K : Bd}
/-- a statement that is never reached -/
def gsNever : GS := fun _ _ => False
theorem ss_never {t : TS} : SS K t gsNever := fun _ _ _ _ _ _ p _ => p.elim
theorem ps_false {X : Cx} {st : Stmt} : PS X st (fun _ _ _ => False) := ⟨fun _ _ _ _ _ _ h => h.elim⟩
/-- a def's promise as an __init__ of data -/
theorem lenI {C : Str} {G : GFI} {n : Nat} {vs : List V} {H : Hp} {Q : VK} {E : XK} (h : spI K C G vs H Q E) (hl : ∀ ds Φ, G ds Φ → ds.length = n) : vs.length = n + 1 := by
  obtain ⟨x, dx, us, B, ds, Φ, rfl, _, _, _, r, g, _⟩ := h
  rw [List.length_cons, r.len, hl ds Φ g]
end
end DL
/-! isinstance of two types, of an own class. -/
namespace DL
open PySem PySem.Spec PyProof.Rows L2 Ax
section
variable {K : Bd}
def gIsiT (n1 n2 : String) (g : GX) : GX := fun s Φ => g s fun w s1 => ∃ d b1 b2, rd w s1 = some d ∧ isiD n1 d = some b1 ∧ isiD n2 d = some b2 ∧ Φ (.dat (.bl (b1 || b2))) s1
theorem se_isiT {n1 n2 : String} {t : TE} {g : GX} (h : SE K t g) : SE K (tCB (rIsiT K) (tCons t (tCons (tTup (tCons (tC (.ty n1)) (tCons (tC (.ty n2)) tNil))) tNil))) (gIsiT n1 n2 g) := by
  intro F hK c Φ Q R p q
  refine h F hK c _ _ R p fun c1 v w R1 G1 D1 p1 => ?_
  obtain ⟨d, b1, b2, e1, e2, e3, p2⟩ := p1
  subst hK
  refine ⟨by show 2 ≤ sizeLine; decide, fun tp htp => ?_⟩
  obtain ⟨R2, G2⟩ := R1.putH (o := .tup [.ty n1, .ty n2]) htp
  unfold isiD at e2 e3
  split at e2
  · rename_i t et
    rw [et] at e3
    have k1 := kit_ty (K := F.K) e2
    have k2 := kit_ty (K := F.K) e3
    refine ⟨v, tp, [.ty n1, .ty n2], .type t, [.type n1, .type n2], b1 || b2, rfl, upd_same, .cons (.ty n1) (.cons (.ty n2) .nil), ty_of R2 (rd_ok R2 (D1.keep G2) e1) et, ?_, q _ _ (.dat (.bl (b1 || b2))) R2 (G1.trans G2) (Rp.bl _) p2⟩
    simp only [PySem.W.kitAny, k1, k2]
    cases b1 <;> cases b2 <;> rfl
  · cases e2
/-- isinstance(x, C), x an instance of C -/
def rIsC (C : Addr) : List V → Hp → VK → Prop := fun xs H Q => ∃ a dx fs, xs = [.ref a, .ref C] ∧ H a = some (.ins C dx fs) ∧ Q (.bl true) H
def gIsC (C : Str) (g : GX) : GX := fun s Φ => g s fun w s1 => ∃ ks ds, rd w s1 = some (.ins C ks ds) ∧ Φ (.dat (.bl true)) s1
theorem se_isC {C : Str} {t : TE} {g : GX} (h : SE K t g) : SE K (tCB (rIsC (He.ga K.K C)) (tCons t (tCons (tC (.ref (He.ga K.K C))) tNil))) (gIsC C g) := by
  intro F hK c Φ Q R p q
  subst hK
  refine h F rfl c _ _ R p fun c1 v w R1 G1 D1 p1 => ?_
  obtain ⟨ks, ds, e, p2⟩ := p1
  obtain ⟨a, dx, xs, rfl, hB, _, _⟩ := (rd_ok R1 D1 e).ins
  exact ⟨a, dx, _, rfl, R1.le _ _ hB, q c1 _ (.dat (.bl true)) R1 G1 (Rp.bl true) p2⟩
theorem kit_self {K : PySem.W.Frag} {C : Addr} : PySem.W.kitOne K (.ref C) (.ref C) = some true := by
  unfold PySem.W.kitOne
  simp
theorem se_isO {C : Str} {t : TE} {g : GX} (hc : Cls K.K (He.ga K.K C)) (ha : PySem.W.findIn K.K (.ref (He.ga K.K C)) "__class__" = some (some (.builtin "object.__class__"))) (hn : PySem.W.specialIn K.K (.builtin "object.__class__") "__get__" = some (some (.builtin "getset_descriptor.__get__")))
    (htk : PySem.W.takesIn K.K (.builtin "object.__class__") = some true) (hm : PySem.W.mroIn K.K (He.ga K.K C) (.type "object") = some true) (h : SE K t g) : SE K (tCB (rIsi K) (tCons t (tCons (tC (.ref (He.ga K.K C))) tNil))) (gIsC C g) := by
  intro F hK c Φ Q R p q
  subst hK
  refine h F rfl c _ _ R p fun c1 v w R1 G1 D1 p1 => ?_
  obtain ⟨ks, ds, e, p2⟩ := p1
  obtain ⟨a, dx, xs, rfl, hB, _, _⟩ := (rd_ok R1 D1 e).ins
  exact ⟨.ref a, .ref (He.ga F.K C), .ref (He.ga F.K C), .ref (He.ga F.K C), true, rfl, .own _, .base (.ins (R1.le _ _ hB) hc ha hn htk hm), kit_self, q c1 _ (.dat (.bl true)) R1 G1 (Rp.bl true) p2⟩
theorem Ev.isiT {s : Stt} {g : GX} {w : W} {d : D} {n1 n2 : String} {b1 b2 : Bool} (h : Ev g s w) (r : rd w s = some d) (e1 : isiD n1 d = some b1) (e2 : isiD n2 d = some b2) : Ev (gIsiT n1 n2 g) s (.dat (.bl (b1 || b2))) := fun Φ q => h _ ⟨d, b1, b2, r, e1, e2, q⟩
theorem Ev.isC {s : Stt} {g : GX} {w : W} {C : Str} {ks : List Str} {ds : List D} (h : Ev g s w) (r : rd w s = some (.ins C ks ds)) : Ev (gIsC C g) s (.dat (.bl true)) := fun Φ q => h _ ⟨ks, ds, r, q⟩
end
end DL
/-! zip of two lists over data. -/
namespace DL
open PySem PySem.Spec PyProof.Rows L2 Ax
section
variable {K : Bd}
def giZip (ga : GA) : GI := fun s Φ => ga s fun ws s1 => ∃ w1 w2 ds es s2 s3, ws = [w1, w2] ∧ frz w1 s1 = some (.lst ds, s2) ∧ frz w2 s2 = some (.lst es, s3) ∧ Φ ((ds.zip es).map fun p => D.tup [p.1, p.2]) s3
theorem zip_rel {K : Bk} {B : Hp} {xs ys : List V} {ds es : List D} (h1 : RpA K B xs ds) (h2 : RpA K B ys es) {i : Nat} {x y : V} (hx : xs[i]? = some x) (hy : ys[i]? = some y) : ∃ p, (ds.zip es)[i]? = some p ∧ Rp K B x p.1 ∧ Rp K B y p.2 := by
  obtain ⟨d, e1, r1⟩ := h1.get hx
  obtain ⟨e, e2, r2⟩ := h2.get hy
  exact ⟨(d, e), by rw [List.getElem?_zip_eq_some]; exact ⟨e1, e2⟩, r1, r2⟩
theorem si_zip {t : TA} {ga : GA} (h : SA K t ga) : SI K (iZip K t) (giZip ga) := by
  intro F hK c Φ Rr R p q
  refine h F hK c _ _ R p fun c1 vs ws R1 G1 D1 p1 => ?_
  obtain ⟨w1, w2, ds, es, s2, s3, rfl, e1, e2, p2⟩ := p1
  cases D1 with
  | @cons v _ vs _ dw t =>
    cases t with
    | @cons v' _ vs _ dw' t =>
      cases t
      obtain ⟨c2, a1, a2, R2, G2, r⟩ := frz2_ok R1 dw e1
      obtain ⟨c3, b1, b2, R3, G3, r'⟩ := frz2_ok R2 (dw'.keep G2) (by rw [a2]; exact e2)
      subst hK
      cases (r.ext G3.go.b) with
      | @lst a xs _ h1 h2 =>
        cases r' with
        | @lst b ys _ k1 k2 =>
          have sx : SqL F.K c1.H a xs := by rw [← a1, ← b1]; exact SqL.of (R3.le _ _ h1)
          have sy : SqL F.K c1.H b ys := by rw [← a1, ← b1]; exact SqL.of (R3.le _ _ k1)
          refine ⟨a, b, xs, ys, rfl, sx, sy, ?_⟩
          rw [← a1, ← b1]
          exact q c3 _ _ R3 ((G1.trans G2).trans G3) (wd_pairs (n := min xs.length ys.length) (by rw [List.length_zip, h2.len, k2.len]) ((walk_zip (K := F.K) (a := a) (b := b) (xs := xs) (ys := ys) rfl).mono (fun H e => ⟨SqL.of (e _ _ h1), SqL.of (e _ _ k1)⟩) fun _ _ _ _ _ _ y => y) fun i x y hi hx hy => zip_rel h2 k2 hx hy) (by rw [b2]; exact p2)
theorem EvI.zip {s : Stt} {ga : GA} {ws : List W} {w1 w2 : W} {ds es : List D} (h : EvA ga s ws) (e : ws = [w1, w2]) (r1 : frz w1 s = some (.lst ds, s)) (r2 : frz w2 s = some (.lst es, s)) : EvI (giZip ga) s ((ds.zip es).map fun p => D.tup [p.1, p.2]) := fun Φ q => h _ ⟨w1, w2, ds, es, s, s, e, r1, r2, q⟩
end
/-! ### where a comprehension's scope stands in a def -/
def stAt (b : List Stmt) (i : Nat) : Stmt := b.getD i (.Pass ⟨0, 0, 0, 0⟩)
def stE : Stmt → Expr
  | .Return (some e) _ => e
  | .Assign _ e _ => e
  | .Expr e _ => e
  | _ => .Name "" ⟨0, 0, 0, 0⟩
def callA (i : Nat) : Expr → Expr
  | .Call _ as _ _ => as.getD i (.Name "" ⟨0, 0, 0, 0⟩)
  | e => e
def lcElt : Expr → Expr
  | .ListComp e _ _ _ => e
  | e => e
def lcScope : Expr → Scope
  | .ListComp _ _ sc _ => sc
  | _ => { kind := .function, names := [], isGenerator := false, isCoroutine := false }
end DL
set_option maxHeartbeats 1000000
/-! zip of a list or a tuple with a list or a tuple. -/
namespace DL
open PySem PySem.Spec PyProof.Rows L2 Ax
/-- at a: a tuple (true) or a list (false) of xs -/
def Sq2 (K : PySem.W.Frag) : Bool → Hp → Addr → List V → Prop
  | true, H, a, xs => SqT K H a xs
  | false, H, a, xs => SqL K H a xs
def sHp : Bool → Heap → Addr → Array Value → Prop
  | true, h, a, vs => h.IsTuple a vs
  | false, h, a, vs => h.IsList a vs
def sIt : Bool → Heap → Addr → Addr → Nat → Prop
  | true, h, j, a, i => h.IsTupleIter j a i
  | false, h, j, a, i => h.IsListIter j a i
def sNew : Bool → Addr → Obj
  | true, a => { cls := .type "tuple_iterator", data := .fields #[.ref a, .int 0 0] }
  | false, a => { cls := .type "list_iterator", data := .fields #[.ref a, .int 0 0] }
theorem sIt_new {b : Bool} {h : Heap} {j a : Addr} (e : h.get? j = some (sNew b a)) : sIt b h j a 0 := by
  cases b <;> exact ⟨_, e, rfl, rfl⟩
theorem sIt_keep {b : Bool} {h h' : Heap} {j a : Addr} {i : Nat} (x : sIt b h j a i) (k : ∀ o, h.get? j = some o → h'.get? j = some o) : sIt b h' j a i := by
  cases b <;> exact x.at k
theorem sIt_obj {b : Bool} {h : Heap} {j a : Addr} {i : Nat} (x : sIt b h j a i) : ∃ o, h.get? j = some o ∧ ∀ v, o.data ≠ .cell v := by
  cases b <;> (obtain ⟨o, h1, _, h3⟩ := x; exact ⟨o, h1, fun v z => by rw [h3] at z; cases z⟩)
theorem sDraws {P : Program} {w : World} {A : Around} (hh : A.handled = none) (b : Bool) {j a : Addr} (ne : a ≠ j) (vs : Array Value) : Draws P w A j [j, a] vs.size (fun i v => vs[i]? = some v) (fun i h => sIt b h j a i ∧ sHp b h a vs) := by
  cases b
  · exact Draws.list hh j a ne vs
  · exact Draws.tuple hh j a ne vs
theorem sBegins (b : Bool) (a : Addr) (vs : Array Value) : Begins (.ref a) (sNew b a) fun h => sHp b h a vs := by
  cases b
  · exact begins_list a vs
  · exact begins_tuple a vs
section
variable {X : Cx} {pins : List (Addr × Obj)} {σ : L2.St} {H : Hp} {s : Shared} {b : Bool} {a : Addr} {xs ys : List V}
theorem sq2_inv (I : Inv X pins σ H s) (h : Sq2 X.K b H a xs) : ∃ vs : List Value, Vals xs vs ∧ sHp b s.heap a vs.toArray ∧ a < s.heap.objs.size := by
  cases b
  · obtain ⟨vs, r, p, _⟩ := I.list h
    exact ⟨vs, r, p.isList, p.lt⟩
  · obtain ⟨vs, r, p, _⟩ := I.tuple h
    obtain ⟨o, ho, _⟩ := id p
    exact ⟨vs, r, p, Heap.lt_size ho⟩
theorem sq2_inj (I : Inv X pins σ H s) (h : Sq2 X.K b H a xs) (g : Sq2 X.K b H a ys) : xs = ys := by
  cases b
  · exact I.list_inj h g
  · exact I.tuple_inj h g
end
/-- both as they stand at each turn; each turn makes a new pair -/
def Jz2 (K : PySem.W.Frag) (b1 b2 : Bool) (a1 a2 : Addr) : It where
  go := fun i H => ∃ xs ys : List V, Sq2 K b1 H a1 xs ∧ Sq2 K b2 H a2 ys ∧ i < xs.length ∧ i < ys.length
  yld := fun i H v H' => ∃ T x y, v = .ref T ∧ H T = none ∧ H' = upd H T (.tup [x, y]) ∧ (∀ xs, Sq2 K b1 H a1 xs → xs[i]? = some x) ∧ (∀ ys, Sq2 K b2 H a2 ys → ys[i]? = some y)
  stop := fun i H => ∃ xs ys : List V, Sq2 K b1 H a1 xs ∧ Sq2 K b2 H a2 ys ∧ i = min xs.length ys.length
theorem walk_z2 {K : PySem.W.Frag} {b1 b2 : Bool} {a1 a2 : Addr} {xs ys : List V} : Walk (Jz2 K b1 b2 a1 a2) (min xs.length ys.length) (fun H => Sq2 K b1 H a1 xs ∧ Sq2 K b2 H a2 ys) (YPair (fun i => xs[i]?) (fun i => ys[i]?)) where
  goes := fun i H hi ⟨h1, h2⟩ => ⟨xs, ys, h1, h2, by omega, by omega⟩
  stops := fun H ⟨h1, h2⟩ => ⟨xs, ys, h1, h2, rfl⟩
  yields := fun i H v H' _ ⟨h1, h2⟩ ⟨T, x, y, e1, e2, e3, e4, e5⟩ => ⟨T, x, y, e1, e2, e3, e4 xs h1, e5 ys h2⟩
def fp2 (z TI TO j1 j2 : Addr) : List Addr := [z, TI, TO, j1, j2]
theorem turn_z2 {P : Program} {w : World} {K : PySem.W.Frag} {es : List Expr} {k : Nat} {ps : Pos} {b1 b2 : Bool} {a1 a2 z TI TO j1 j2 : Addr} (S : ZipSep2 z TI TO j1 j2 [j1, a1] [j2, a2]) (ne1 : a1 ≠ j1) (ne2 : a2 ≠ j2) :
    Turn P w K (.Tuple es k ps) (Jz2 K b1 b2 a1 a2) (fp2 z TI TO j1 j2) z (fun i h => IsZip h z TI TO .none ∧ IsTupOf2 h TI (.ref j1) (.ref j2) ∧ (∃ p q, IsTupOf2 h TO p q) ∧ sIt b1 h j1 a1 i ∧ sIt b2 h j2 a2 i) where
  mem := List.mem_cons_self
  obj := fun i h ⟨t1, t2, ⟨p, q, t3⟩, t4, t5⟩ c hc => by
    simp only [fp2, List.mem_cons, List.not_mem_nil, or_false] at hc
    rcases hc with rfl | rfl | rfl | rfl | rfl
    · exact ⟨_, t1, fun v y => nomatch y⟩
    · exact ⟨_, t2, fun v y => nomatch y⟩
    · exact ⟨_, t3, fun v y => nomatch y⟩
    · exact sIt_obj t4
    · exact sIt_obj t5
  keep := fun i h h' ⟨t1, t2, ⟨p, q, t3⟩, t4, t5⟩ kp => by
    have m : ∀ {c}, c = z ∨ c = TI ∨ c = TO ∨ c = j1 ∨ c = j2 → c ∈ fp2 z TI TO j1 j2 := fun {c} hc => by simpa [fp2] using hc
    exact ⟨kp z (m (.inl rfl)) _ t1, kp TI (m (.inr (.inl rfl))) _ t2, ⟨p, q, kp TO (m (.inr (.inr (.inl rfl)))) _ t3⟩, sIt_keep t4 (kp j1 (m (.inr (.inr (.inr (.inl rfl)))))), sIt_keep t5 (kp j2 (m (.inr (.inr (.inr (.inr rfl))))))⟩
  item := by
    intro X hP hw hK hc i pins s σ H E I fr st hg
    subst hP hw hK
    obtain ⟨t1, t2, ⟨p0, q0, t3⟩, t4, t5⟩ := st
    obtain ⟨xs, ys, q1, q2, l1, l2⟩ := hg
    obtain ⟨vs, rv, pv, _⟩ := sq2_inv I q1
    obtain ⟨us, ru, pu, _⟩ := sq2_inv I q2
    have hh := I.ok.hd hc
    have n1 : i < vs.toArray.size := by have := rv.length; simp; omega
    have n2 : i < us.toArray.size := by have := ru.length; simp; omega
    have sz : z < s.heap.objs.size := Heap.lt_size t1
    refine wpAny_pyNext_zipD2_item S (sDraws (A := X.A.in1) hh b1 ne1 vs.toArray) (sDraws (A := X.A.in1) hh b2 ne2 us.toArray) t1 t2 t3 ⟨t4, pv⟩ ⟨t5, pu⟩ n1 n2 fun v u h' tk e1 e2 z' o' d1 d2 nt sz' kp => ?_
    refine ⟨_, rfl, wpAny_letOwnedTupleGo_zip (s := { s with heap := h', toks := tk }) z' fun h2 z2 sb => ?_⟩
    obtain ⟨o1, g1, _⟩ := sIt_obj t4
    obtain ⟨o2, g2, _⟩ := sIt_obj t5
    have old : ∀ {c : Addr}, c ∈ fp2 z TI TO j1 j2 → c < s.heap.objs.size := fun {c} hm => by
      simp only [fp2, List.mem_cons, List.not_mem_nil, or_false] at hm
      rcases hm with rfl | rfl | rfl | rfl | rfl
      · exact sz
      · exact Heap.lt_size t2
      · exact Heap.lt_size t3
      · exact Heap.lt_size g1
      · exact Heap.lt_size g2
    have out : ∀ {c : Addr}, c ∉ fp2 z TI TO j1 j2 → c ≠ z ∧ c ≠ TO ∧ c ≠ j1 ∧ c ≠ j2 := fun {c} hm => by
      simp only [fp2, List.mem_cons, List.not_mem_nil, or_false, not_or] at hm
      exact ⟨hm.1, hm.2.2.1, hm.2.2.2.1, hm.2.2.2.2⟩
    obtain ⟨x, hx, rx⟩ : ∃ x, xs[i]? = some x ∧ RelV x v := by
      have hx := List.getElem?_eq_getElem l1
      obtain ⟨v', e', r'⟩ := rv.get hx
      have : v' = v := by
        have e1' : vs[i]? = some v := by simpa using e1
        rw [e1'] at e'
        exact (Option.some.inj e').symm
      exact ⟨_, hx, this ▸ r'⟩
    obtain ⟨y, hy, ry⟩ : ∃ y, ys[i]? = some y ∧ RelV y u := by
      have hy := List.getElem?_eq_getElem l2
      obtain ⟨u', e', r'⟩ := ru.get hy
      have : u' = u := by
        have e2' : us[i]? = some u := by simpa using e2
        rw [e2'] at e'
        exact (Option.some.inj e').symm
      exact ⟨_, hy, this ▸ r'⟩
    have nt2 : h2.get? s.heap.objs.size = some { cls := .type "tuple", data := .seq #[v, u] } := (sb.2 _ (Nat.ne_of_gt sz)).trans nt
    have mk : ObjOk X.prog X.w (upd H s.heap.objs.size (.tup [x, y])) h2 s.heap.objs.size (.tup [x, y]) := ⟨Nat.le_of_ble_eq_true rfl, [v, u], .cons rx (.cons ry .nil), _, nt2, rfl, _, rfl⟩
    have J : Inv X pins σ (upd H s.heap.objs.size (.tup [x, y])) { s with heap := h2, toks := tk } :=
      I.turnedNew (t' := tk) (ch := fp2 z TI TO j1 j2) (fun c o hm g => by
        obtain ⟨m1, m2, m3, m4⟩ := out hm
        exact (sb.2 c m1).trans (kp c o m1 m2 m3 m4 g)) fr (Nat.le_refl _) mk
    refine ⟨.ref s.heap.objs.size, _, J, rfl, ⟨_, x, y, rfl, I.hok.fresh (Nat.le_refl _), rfl, fun l hl => by rw [sq2_inj I hl q1]; exact hx, fun l hl => by rw [sq2_inj I hl q2]; exact hy⟩, ⟨z2, (sb.2 _ S.TIz).trans (kp _ _ S.TIz S.TITO S.TIi1 S.TIi2 t2), ⟨v, u, (sb.2 _ S.TOz).trans o'⟩, sIt_keep d1.1 fun o g => (sb.2 _ S.zi1.symm).trans g, sIt_keep d2.1 fun o g => (sb.2 _ S.zi2.symm).trans g⟩, fun c hm => ?_⟩
    rw [upd_ne (Nat.ne_of_lt (old hm))]
    exact (fr c hm).1
  done := by
    intro X hP hw hK hc i pins s σ H E I fr st hg
    subst hP hw hK
    obtain ⟨t1, t2, ⟨p0, q0, t3⟩, t4, t5⟩ := st
    obtain ⟨xs, ys, q1, q2, hi⟩ := hg
    obtain ⟨vs, rv, pv, _⟩ := sq2_inv I q1
    obtain ⟨us, ru, pu, _⟩ := sq2_inv I q2
    have hh := I.ok.hd hc
    have n1 := rv.length
    have n2 := ru.length
    refine wpAny_pyNext_zipD2_end S (sDraws (A := X.A.in1) hh b1 ne1 vs.toArray) (sDraws (A := X.A.in1) hh b2 ne2 us.toArray) t1 t2 t3 ⟨t4, pv⟩ ⟨t5, pu⟩ (by simp; omega) (by simp; omega) (by simp; omega) fun h' tk kp => ?_
    refine ⟨rfl, I.turnedL (t' := tk) (ch := fp2 z TI TO j1 j2) (fun c o hm g => ?_) fr⟩
    simp only [fp2, List.mem_cons, List.not_mem_nil, or_false, not_or] at hm
    exact kp c o hm.1 hm.2.2.1 hm.2.2.2.1 hm.2.2.2.2 g
  self := fun A i s Q E st h => wpAny_pyIter_zip st.1 h
theorem nN {a b : Nat} (h : a ≠ b) : @Ne Addr a b := h
theorem n2 {a b c : Nat} (h : a ≠ b) (g : a ≠ c) : (a : Addr) ∉ ([b, c] : List Addr) := fun z => by
  rcases List.mem_cons.mp z with z | z
  · exact h z
  · rcases List.mem_cons.mp z with z | z
    · exact g z
    · cases z
theorem zsep (n a b : Nat) (h1 : a < n) (h2 : b < n) : ZipSep2 (n + 4) (n + 2) (n + 3) n (n + 1) [n, a] [n + 1, b] where
  TIz := nN (by omega)
  TOz := nN (by omega)
  TITO := nN (by omega)
  TIi1 := nN (by omega)
  mem1 := List.mem_cons_self
  zf1 := n2 (by omega) (by omega)
  Tf1 := n2 (by omega) (by omega)
  TIi2 := nN (by omega)
  mem2 := List.mem_cons_self
  zf2 := n2 (by omega) (by omega)
  Tf2 := n2 (by omega) (by omega)
  sep1_2 := n2 (by omega) (by omega)
  sep2_1 := n2 (by omega) (by omega)
/-- zip(e, e2), each a list or a tuple -/
def iZip2 (K : PySem.W.Frag) (ta : TA) : TI := fun σ H R => ta σ H fun vs H1 => ∃ (b1 b2 : Bool) (a1 a2 : Addr) (xs ys : List V), vs = [.ref a1, .ref a2] ∧ Sq2 K b1 H1 a1 xs ∧ Sq2 K b2 H1 a2 ys ∧ R (Jz2 K b1 b2 a1 a2) H1
theorem pi_zip2 {X : Cx} {e e2 : Expr} {ta : TA} {p pos ps : Pos} {es : List Expr} {k : Nat} (gl : Gl X "zip") (nm : X.mg "zip" = none) (ha : PA X [e, e2] ta)
    (st : starEach [e, e2] X.env = (false, eval e X.env) :: starEach [e2] X.env := by rfl) (pl : (backTo pos (starEach [e2] X.env)).any (·.1) = false := by rfl) :
    PI X (.Tuple es k ps) (.Call (.Name "zip" p) [e, e2] [] pos) (iZip2 X.K ta) := by
  constructor
  intro pins s σ H R I h
  refine Call_ (ld_blt I gl nm PyProof.Rows.boot_zip (PyProof.Rows.callWith_type1 (thn (ha.run pos pins s σ H _ I h) fun us s1 got => ?_) st pl))
  obtain ⟨ws, H1, I1, rw1, b1, b2, a1, a2, xs, ys, rfl, q1, q2, hR⟩ := got
  obtain ⟨u1, u2, rfl, r1, r2⟩ := vals2 rw1
  obtain rfl : u1 = Value.ref a1 := r1
  obtain rfl : u2 = Value.ref a2 := r2
  obtain ⟨vs, _, pv, l1⟩ := sq2_inv I1 q1
  obtain ⟨us, _, pu, l2⟩ := sq2_inv I1 q2
  refine zip_begins2 (sBegins b1 a1 vs.toArray) (sBegins b2 a2 us.toArray) pv pu fun h' z' i' o' g1 g2 sz kp => wpAny_pyIter_zip z' ?_
  have I2 : Inv X pins σ H1 { s1 with heap := h' } := I1.kept (t' := s1.toks) kp
  have S : ZipSep2 (s1.heap.objs.size + 4) (s1.heap.objs.size + 2) (s1.heap.objs.size + 3) s1.heap.objs.size (s1.heap.objs.size + 1) [s1.heap.objs.size, a1] [s1.heap.objs.size + 1, a2] := by
    exact zsep _ _ _ l1 l2
  refine ⟨s1.heap.objs.size + 4, fp2 (s1.heap.objs.size + 4) (s1.heap.objs.size + 2) (s1.heap.objs.size + 3) s1.heap.objs.size (s1.heap.objs.size + 1), _, _, H1, rfl, I2, turn_z2 S (Nat.ne_of_lt l1) (Nat.ne_of_lt (Nat.lt_succ_of_lt l2)), ⟨z', i', ⟨_, _, o'⟩, sIt_new g1, sIt_new g2⟩, fun c hm => ?_, hR⟩
  have le : s1.heap.objs.size ≤ c := by
    simp only [fp2, List.mem_cons, List.not_mem_nil, or_false] at hm
    rcases hm with rfl | rfl | rfl | rfl | rfl
    · exact Nat.le_add_right _ _
    · exact Nat.le_add_right _ _
    · exact Nat.le_add_right _ _
    · exact Nat.le_refl _
    · exact Nat.le_add_right _ _
  exact I1.fpOk le (I1.hok.fresh le)
section
variable {K : Bd}
def giZip2 (ga : GA) : GI := fun s Φ => ga s fun ws s1 => ∃ w1 w2 d1 d2 ds es s2 s3, ws = [w1, w2] ∧ frz w1 s1 = some (d1, s2) ∧ frz w2 s2 = some (d2, s3) ∧ itemsD d1 = some ds ∧ itemsD d2 = some es ∧ Φ ((ds.zip es).map fun p => D.tup [p.1, p.2]) s3
theorem sq2_of {K : Bk} {B : Hp} {v : V} {d : D} {ds : List D} (r : Rp K B v d) (e : itemsD d = some ds) : ∃ b a xs, v = .ref a ∧ RpA K B xs ds ∧ ∀ H, Ext B H → Sq2 K b H a xs := by
  cases r with
  | @lst a xs _ h1 h2 =>
    cases Option.some.inj e
    exact ⟨false, a, xs, rfl, h2, fun H x => SqL.of (x _ _ h1)⟩
  | @tup a xs _ h1 h2 =>
    cases Option.some.inj e
    exact ⟨true, a, xs, rfl, h2, fun H x => h1.ext x⟩
  | @tpz a ob xs _ h1 _ _ h2 =>
    cases Option.some.inj e
    have h1 : SqT K B a xs := .inl (.inr ⟨_, h1⟩)
    exact ⟨true, a, xs, rfl, h2, fun H x => h1.ext x⟩
  | _ => cases e
theorem si_zip2 {t : TA} {ga : GA} (h : SA K t ga) : SI K (iZip2 K t) (giZip2 ga) := by
  intro F hK c Φ Rr R p q
  refine h F hK c _ _ R p fun c1 vs ws R1 G1 D1 p1 => ?_
  obtain ⟨w1, w2, d1, d2, ds, es, s2, s3, rfl, e1, e2, i1, i2, p2⟩ := p1
  cases D1 with
  | @cons v _ vs _ dw t =>
    cases t with
    | @cons v' _ vs _ dw' t =>
      cases t
      obtain ⟨c2, a1, a2, R2, G2, r⟩ := frz2_ok R1 dw e1
      obtain ⟨c3, b1, b2, R3, G3, r'⟩ := frz2_ok R2 (dw'.keep G2) (by rw [a2]; exact e2)
      subst hK
      obtain ⟨k1, x1, xs, rfl, rx, sx⟩ := sq2_of (r.ext G3.go.b) i1
      obtain ⟨k2, x2, ys, rfl, ry, sy⟩ := sq2_of r' i2
      have eH : c3.H = c1.H := b1.trans a1
      refine ⟨k1, k2, x1, x2, xs, ys, rfl, eH ▸ sx _ R3.le, eH ▸ sy _ R3.le, ?_⟩
      rw [← eH]
      exact q c3 _ _ R3 ((G1.trans G2).trans G3) (wd_pairs (n := min xs.length ys.length) (by rw [List.length_zip, rx.len, ry.len]) (walk_z2.mono (fun H x => ⟨sx H x, sy H x⟩) fun _ _ _ _ _ _ y => y) fun i x y hi hx hy => zip_rel rx ry hx hy) (by rw [b2]; exact p2)
end
end DL
set_option maxHeartbeats 1000000
/-! Errors over data: defs that raise, what raises, what is let through. -/
namespace DL
open PySem PySem.Spec PyProof.Rows L2 Ax
abbrev PX := Str → List Str → List D → Prop
abbrev GFX := List D → (D → Prop) → PX → Prop
abbrev GFIX := List D → (List Str → List D → Prop) → PX → Prop
abbrev GXX := Stt → (W → Stt → Prop) → (Stt → PX) → Prop
/-- a def that makes new things alone, or raises -/
def spX (K : Bd) (G : GFX) : Sp := fun vs H Q E => ∃ (B : Hp) (ds : List D) (Φ : D → Prop) (Ψ : PX), Ext B H ∧ RpA K B vs ds ∧ G ds Φ Ψ ∧
  (∀ (B' H' : Hp) (v : V) (d : D), Ext B B' → Ext B' H' → Ext H H' → (∀ a, B' a ≠ none → B a = none → H a = none) → Rp K B' v d → Φ d → Q v H') ∧
  ∀ (B' H' : Hp) (C : Str) (d : Addr) (ks : List Str) (ws : List V) (es : List D), Ext B B' → Ext B' H' → Ext H H' → (∀ a, B' a ≠ none → B a = none → H a = none) → H' d = some (.xd (ks.zip ws)) → ws.length = ks.length → RpA K B' ws es → Ψ C ks es → E (.ref (He.ga K.K C)) (some d) H'
/-- an __init__ that may raise -/
def spIX (K : Bd) (C : Str) (G : GFIX) : Sp := fun vs H Q E => ∃ (x dx : Addr) (us : List V) (B : Hp) (ds : List D) (Φ : List Str → List D → Prop) (Ψ : PX), vs = .ref x :: us ∧ H x = some (.ins (He.ga K.K C) dx []) ∧ B x = none ∧ Ext B H ∧ RpA K B us ds ∧ G ds Φ Ψ ∧
  (∀ (B' H' : Hp) (dx' : Addr) (ks : List Str) (vs' : List V) (ds' : List D), Ext B B' → Ext B' H' → (∀ a o, a ≠ x → H a = some o → H' a = some o) → (∀ a, B' a ≠ none → B a = none → H a = none) →
    H' x = some (.ins (He.ga K.K C) dx' (ks.zip vs')) → vs'.length = ks.length → RpA K B' vs' ds' → Φ ks ds' → Q .non H') ∧
  ∀ (B' H' : Hp) (C' : Str) (d : Addr) (ks : List Str) (ws : List V) (es : List D), Ext B B' → Ext B' H' → (∀ a o, a ≠ x → H a = some o → H' a = some o) → (∀ a, a ≠ x → B' a ≠ none → B a = none → H a = none) → H' d = some (.xd (ks.zip ws)) → ws.length = ks.length → RpA K B' ws es → Ψ C' ks es → E (.ref (He.ga K.K C')) (some d) H'
abbrev noX : PX := fun _ _ _ => False
section
variable {K : Bd}
theorem spX_P {G : GFX} {vs : List V} {H : Hp} {Q : VK} {E : XK} (h : spP K (fun ds Φ => G ds Φ noX) vs H Q E) : spX K G vs H Q E := by
  obtain ⟨B, ds, Φ, x, r, g, q⟩ := h
  exact ⟨B, ds, Φ, noX, x, r, g, q, fun _ _ _ _ _ _ _ _ _ _ _ _ _ _ z => z.elim⟩
theorem spIX_I {C : Str} {G : GFIX} {vs : List V} {H : Hp} {Q : VK} {E : XK} (h : spI K C (fun ds Φ => G ds Φ noX) vs H Q E) : spIX K C G vs H Q E := by
  obtain ⟨x, dx, us, B, ds, Φ, e, h1, h2, h3, r, g, q⟩ := h
  exact ⟨x, dx, us, B, ds, Φ, noX, e, h1, h2, h3, r, g, q, fun _ _ _ _ _ _ _ _ _ _ _ _ _ _ z => z.elim⟩
theorem lenX {G : GFX} {n : Nat} {vs : List V} {H : Hp} {Q : VK} {E : XK} (h : spX K G vs H Q E) (hl : ∀ ds Φ Ψ, G ds Φ Ψ → ds.length = n) : vs.length = n := by
  obtain ⟨B, ds, Φ, Ψ, _, r, g, _⟩ := h
  rw [r.len]; exact hl ds Φ Ψ g
theorem lenIX {C : Str} {G : GFIX} {n : Nat} {vs : List V} {H : Hp} {Q : VK} {E : XK} (h : spIX K C G vs H Q E) (hl : ∀ ds Φ Ψ, G ds Φ Ψ → ds.length = n) : vs.length = n + 1 := by
  obtain ⟨x, dx, us, B, ds, Φ, Ψ, rfl, _, _, _, r, g, _⟩ := h
  rw [List.length_cons, r.len, hl ds Φ Ψ g]
/-! ### expressions that may raise -/
def SEX (K : Bd) (t : TE) (g : GXX) : Prop := ∀ F : Fx, F.bd = K → ∀ (c : Cf) (Φ : W → Stt → Prop) (Ψ : Stt → PX) (Q : VK), Rep F c → g c.s Φ Ψ → (∀ c' v w, Rep F c' → GoE F c c' → Den F c.H c' v w → Φ w c'.s → Q v c'.H) → (∀ c', Rep F c' → GoE F c c' → XOut F c' (Ψ c'.s)) → t c.σ c.H Q
def gLift (g : GX) : GXX := fun s Φ _ => g s Φ
theorem sex_of {t : TE} {g : GX} (h : SE K t g) : SEX K t (gLift g) := fun F hK c Φ Ψ Q R p q _ => h F hK c Φ Q R p q
def gCallX (G : GFX) (dd : List D) (ga : GA) : GXX := fun s Φ Ψ => ga s fun ws s1 => ∃ ds s2, frzA ws s1 = some (ds, s2) ∧ G (ds ++ dd) (fun d => Φ (.dat d) s2) (Ψ s2)
theorem sex_call {G : GFX} {dv : List V} {dd : List D} {E : XK} {t : TA} {ga : GA} (hE : E = K.E) (hd : ∀ B : Hp, RpA K B dv dd) (h : SA K t ga) : SEX K (tCall (spX K G) dv E t) (gCallX G dd ga) := by
  intro F hK c Φ Ψ Q R p q qx
  subst hK
  subst hE
  refine h F rfl c _ _ R p fun c1 vs ws R1 G1 D1 p1 => ?_
  obtain ⟨ds, s2, e1, g⟩ := p1
  obtain ⟨c2, b1, b2, R2, G2, r⟩ := frzA_ok R1 D1 e1
  refine ⟨c2.B, ds ++ dd, _, _, by rw [← b1]; exact R2.le, r.app (hd _), g, fun B' H' v d x1 x2 x3 nb rv hΦ => ?_, fun B' H' C d ks us es x1 x2 x3 nb hd hl rv hΨ => ?_⟩
  · rw [← b1] at x3 nb
    obtain ⟨R3, G3⟩ := R2.grow x1 x2 x3 nb
    exact q _ v (.dat d) R3 ((G1.trans G2).trans G3) rv (by rw [← b2] at hΦ; exact hΦ)
  · rw [← b1] at x3 nb
    obtain ⟨R3, G3⟩ := R2.grow x1 x2 x3 nb
    exact qx _ R3 ((G1.trans G2).trans G3) C d ks us es hd hl rv (by rw [← b2] at hΨ; exact hΨ)
def gMakeX (C : Str) (G : GFIX) (dd : List D) (ga : GA) : GXX := fun s Φ Ψ => ga s fun ws s1 => ∃ ds s2, frzA ws s1 = some (ds, s2) ∧ G (ds ++ dd) (fun ks es => Φ (.dat (.ins C ks es)) s2) (Ψ s2)
theorem sex_make {C : Str} {G : GFIX} {dv : List V} {dd : List D} {E : XK} {t : TA} {ga : GA} (hE : E = K.E) (hd : ∀ B : Hp, RpA K B dv dd) (h : SA K t ga) : SEX K (tMake (He.ga K.K C) (spIX K C G) dv E t) (gMakeX C G dd ga) := by
  intro F hK c Φ Ψ Q R p q qx
  subst hK
  subst hE
  refine h F rfl c _ _ R p fun c1 vs ws R1 G1 D1 p1 => ?_
  obtain ⟨ds, s2, e1, g⟩ := p1
  obtain ⟨c2, b1, b2, R2, G2, r⟩ := frzA_ok R1 D1 e1
  rw [← b1]
  intro x dx hx hdx hne
  have bx : ∀ {a : Addr}, c2.H a = none → c2.B a = none := fun {a} h => by
    cases z : c2.B a with
    | none => rfl
    | some o => rw [R2.le _ _ z] at h; cases h
  have H3at : ∀ {a : Addr} {o : HO}, c2.H a = some o → (upd (upd c2.H dx (.own x)) x (.ins (He.ga F.K C) dx [])) a = some o := fun {a o} h => by
    rw [upd_ne (fun z => by rw [z, hx] at h; cases h), upd_ne (fun z => by rw [z, hdx] at h; cases h)]
    exact h
  refine ⟨x, dx, vs ++ dv, c2.B, ds ++ dd, _, _, rfl, upd_same, bx hx, fun a o z => H3at (R2.le _ _ z), r.app (hd _), g, fun B' H' dx' ks vs' ds' x1 x2 fr nb hx' hl rp hΦ => ⟨rfl, ?_⟩, fun B' H' C' d ks us es x1 x2 fr nb hd hl rp hΨ => ?_⟩
  · have B'x : B' x = none := by
      cases z : B' x with
      | none => rfl
      | some o =>
        have := nb x (by rw [z]; exact fun y => nomatch y) (bx hx)
        rw [upd_same] at this
        cases this
    have y1 : Ext c2.B (upd B' x (.ins (He.ga F.K C) dx' (ks.zip vs'))) := fun a o z => by
      rw [upd_ne (fun y => by rw [y, bx hx] at z; cases z)]
      exact x1 _ _ z
    have y2 : Ext (upd B' x (.ins (He.ga F.K C) dx' (ks.zip vs'))) H' := fun a o z => by
      by_cases y : a = x
      · rw [y, upd_same] at z
        cases Option.some.inj z
        rw [y]; exact hx'
      · rw [upd_ne y] at z
        exact x2 _ _ z
    have y3 : Ext c2.H H' := fun a o z => fr a o (fun y => by rw [y, hx] at z; cases z) (H3at z)
    have y4 : ∀ a, (upd B' x (.ins (He.ga F.K C) dx' (ks.zip vs'))) a ≠ none → c2.B a = none → c2.H a = none := fun a z w => by
      by_cases y : a = x
      · rw [y]; exact hx
      · rw [upd_ne y] at z
        have := nb a z w
        cases u : c2.H a with
        | none => rfl
        | some o => rw [H3at u] at this; cases this
    have y5 : Ext B' (upd B' x (.ins (He.ga F.K C) dx' (ks.zip vs'))) := fun a o z => by
      rw [upd_ne (fun y => by rw [y, B'x] at z; cases z)]
      exact z
    obtain ⟨R3, G3⟩ := R2.grow y1 y2 y3 y4
    exact q _ (.ref x) (.dat (.ins C ks ds')) R3 ((G1.trans G2).trans G3) (.ins upd_same hl (rp.ext y5)) (by rw [← b2] at hΦ; exact hΦ)
  · have y3 : Ext c2.H H' := fun a o z => fr a o (fun y => by rw [y, hx] at z; cases z) (H3at z)
    have y4 : ∀ a, B' a ≠ none → c2.B a = none → c2.H a = none := fun a z w => by
      by_cases y : a = x
      · rw [y]; exact hx
      have := nb a y z w
      cases u : c2.H a with
      | none => rfl
      | some o => rw [H3at u] at this; cases this
    obtain ⟨R3, G3⟩ := R2.grow x1 x2 y3 y4
    exact qx _ R3 ((G1.trans G2).trans G3) C' d ks us es hd hl rp (by rw [← b2] at hΨ; exact hΨ)
def gMethX (C m : Str) (G : GFX) (dd : List D) (g : GX) (ga : GA) : GXX := fun s Φ Ψ => g s fun w s1 => ∃ ks ds0, rd w s1 = some (.ins C ks ds0) ∧ m ∉ ks ∧ ga s1 fun ws s2 => ∃ ds s3, frzA ws s2 = some (ds, s3) ∧ G (.ins C ks ds0 :: (ds ++ dd)) (fun d => Φ (.dat d) s3) (Ψ s3)
theorem sex_meth {C m : Str} {G : GFX} {dv : List V} {dd : List D} {E : XK} {to : TE} {t : TA} {g : GX} {ga : GA} (hE : E = K.E) (hd : ∀ B : Hp, RpA K B dv dd) (ho : SE K to g) (h : SA K t ga) : SEX K (tMeth (He.ga K.K C) m (spX K G) dv E to t) (gMethX C m G dd g ga) := by
  intro F hK c Φ Ψ Q R p q qx
  subst hK
  subst hE
  refine ho F rfl c _ _ R p fun c1 v w1 R1 G1 D1 p1 => ?_
  obtain ⟨ks, ds0, e1, hm, p2⟩ := p1
  obtain ⟨a, dx, xs, rfl, hB, hl, r⟩ := (rd_ok R1 D1 e1).ins
  refine ⟨a, dx, _, rfl, R1.le _ _ hB, zip_none hm, ?_⟩
  refine h.run rfl G1.σ rfl R1 p2 fun c2 vs ws R2 G2 D2 p3 => ?_
  obtain ⟨ds, s3, e3, g3⟩ := p3
  obtain ⟨c3, b1, b2, R3, G3, r3⟩ := frzA_ok R2 D2 e3
  have x12 := (G2.trans G3).go.b
  refine ⟨c3.B, .ins C ks ds0 :: (ds ++ dd), _, _, by rw [← b1]; exact R3.le, .cons (Rp.ext x12 (.ins hB hl r)) (r3.app (hd _)), g3, fun B' H' v d x1 x2 x3 nb rv hΦ => ?_, fun B' H' C' d us zs es x1 x2 x3 nb hd hl' rv hΨ => ?_⟩
  · rw [← b1] at x3 nb
    obtain ⟨R4, G4⟩ := R3.grow x1 x2 x3 nb
    exact q _ v (.dat d) R4 (((G1.trans G2).trans G3).trans G4) rv (by rw [← b2] at hΦ; exact hΦ)
  · rw [← b1] at x3 nb
    obtain ⟨R4, G4⟩ := R3.grow x1 x2 x3 nb
    exact qx _ R4 (((G1.trans G2).trans G3).trans G4) C' d us zs es hd hl' rv (by rw [← b2] at hΨ; exact hΨ)
theorem passN {X : Cx} : Passes (L2.CX X.prog X.w) X (fun _ _ _ => False) := fun _ _ _ _ _ _ _ h => by
  obtain ⟨a, B, H', cls, d, _, _, _, _, _, _, _, h⟩ := h
  exact h.elim
section
variable {P : Program} {w : World} {K : PySem.W.Frag} {mg : Str → Option Value} {base : Heap} {CX : CXT} {k : Nat} {C m x : Str} {ps : List Str} {dvs : List V} {sp sp' : Sp}
theorem DMt.imp (D : DMt P w K mg base CX k C m ps dvs sp) (h : ∀ vs H Q E, sp' vs H Q E → sp vs H Q E) : DMt P w K mg base CX k C m ps dvs sp' := let ⟨f, fd, ds, F, a⟩ := D; ⟨f, fd, ds, F.imp h, a⟩
theorem DcD.imp (D : DcD P w K mg base CX k x ps dvs sp) (h : ∀ vs H Q E, sp' vs H Q E → sp vs H Q E) : DcD P w K mg base CX k x ps dvs sp' := let ⟨f, fd, ds, F, a⟩ := D; ⟨f, fd, ds, F.imp h, a⟩
end
/-! ### statements that may raise -/
def gsDropX (g : GXX) : GS := fun s De => g s (fun _ s1 => De.nx s1) fun _ => De.ex
theorem ss_dropX {t : TE} {g : GXX} (h : SEX K t g) : SS K (tDrop t) (gsDropX g) := by
  intro F hK c E De R p ok
  exact h F hK c _ _ _ R p (fun c1 v w R1 G1 D1 p1 => ok.nxE R1 G1 p1) fun c1 R1 G1 => ok.ex c1 R1 G1.go
def gsRetX (g : GXX) : GS := fun s De => g s De.rt fun _ => De.ex
theorem ss_retX {t : TE} {g : GXX} (h : SEX K t g) : SS K (tRet t) (gsRetX g) := by
  intro F hK c E De R p ok
  exact h F hK c _ _ _ R p (fun c' v w R' G' D' p' => ok.rt c' v w R' G'.go D' p') fun c1 R1 G1 => ok.ex c1 R1 G1.go
def gsSetX (i : Nat) (g : GXX) : GS := fun s De => g s (fun w s1 => ∃ d s2, frz w s1 = some (d, s2) ∧ De.nx (s2.put i (.val d))) fun _ => De.ex
theorem ss_setX {i : Nat} {t : TE} {g : GXX} (h : SEX K t g) : SS K (tAsg t (L2.gName i)) (gsSetX i g) := by
  intro F hK c E De R p ok
  refine h F hK c _ _ _ R p (fun c1 v w R1 G1 D1 p1 => ?_) fun c1 R1 G1 => ok.ex c1 R1 G1.go
  obtain ⟨d, s2, e, p2⟩ := p1
  obtain ⟨c2, a1, a2, a3, _, R2, G2, rv⟩ := frz_ok R1 G1 D1 e
  obtain ⟨R4, G4⟩ := R2.setV (i := i) rv
  have key := ok.nx _ R4 (G2.go.trans G4) (by rw [← a2] at p2; exact p2)
  have eσ : c2.σ = c.σ := by rw [a3, G1.σ]
  rw [← a1, ← eσ]
  exact key
theorem gs_retX {g : GXX} {s : Stt} {De : EndsD} (h : g s De.rt fun _ => De.ex) : gsRetX g s De := h
theorem gs_dropX {g : GXX} {s : Stt} {De : EndsD} (h : g s (fun _ s1 => De.nx s1) fun _ => De.ex) : gsDropX g s De := h
/-! ### raise -/
/-- what stands where an error was made: its own fields, last set first, then what it told -/
def spErr (K : PySem.W.Frag) (C : Addr) (n : Nat) (ks : List Str) (is : List Nat) : Sp := fun vs H Q _ => ∃ (a : Addr) (ws : List V), vs = .ref a :: ws ∧ ws.length = n ∧ H a = some (exo a C none) ∧
  ∀ (d t : Addr) H', H d = none → H t = none → Off a H H' → H' a = some (exo a C (some d)) → H' d = some (exd d ((ks.zip (is.map fun i => ws.getD i .non)) ++ [(("told" : Str), V.ref t)])) → H' t = some (.tup ws) → Q .non H'
def gsRaise (C : Str) (n : Nat) (ks : List Str) (is : List Nat) (ga : GA) : GS := fun s De => ga s fun ws s1 => ∃ ds s2, frzA ws s1 = some (ds, s2) ∧ ds.length = n ∧ De.ex C (ks ++ [("told" : Str)]) ((is.map fun i => ds.getD i .non) ++ [.tup ds])
theorem RpA.sel {K : Bk} {B : Hp} {vs : List V} {ds : List D} (r : RpA K B vs ds) : ∀ is : List Nat, RpA K B (is.map fun i => vs.getD i .non) (is.map fun i => ds.getD i .non)
  | [] => .nil
  | i :: is => by
    refine .cons ?_ (RpA.sel r is)
    show Rp K B (vs.getD i .non) (ds.getD i .non)
    rw [List.getD_eq_getElem?_getD, List.getD_eq_getElem?_getD]
    cases e : ds[i]? with
    | none =>
      have : vs[i]? = none := by
        rw [List.getElem?_eq_none_iff] at e ⊢
        rw [r.len]; exact e
      rw [this]
      exact .non
    | some d =>
      obtain ⟨v, h1, h2⟩ := r.getD e
      rw [h1]
      exact h2
theorem ss_raise {C : Str} {n : Nat} {ks : List Str} {is : List Nat} {E : XK} {t : TA} {ga : GA} (hE : E = K.E) (hn : n ≤ 900) (hk : ks.length = is.length) (h : SA K t ga) :
    SS K (fun _ σ H => tMkO (He.ga K.K C) (spErr K.K (He.ga K.K C) n ks is) [] t σ H fun cls d H' => E cls d H') (gsRaise C n ks is ga) := by
  intro F hK c E' De R p ok
  subst hK
  subst hE
  refine h F rfl c _ _ R p fun c1 vs ws R1 G1 D1 p1 => ?_
  obtain ⟨ds, s2, e1, ln, hx⟩ := p1
  obtain ⟨c2, b1, b2, R2, G2, r⟩ := frzA_ok R1 D1 e1
  have lv : vs.length = n := by rw [r.len, ln]
  refine ⟨by omega, fun a ha => ⟨a, vs ++ [], rfl, by rw [List.append_nil]; exact lv, upd_same, fun d t' H' hd ht off e1' e2' e3' => ?_⟩⟩
  rw [List.append_nil] at e2' e3'
  have hda : d ≠ a := fun z => by rw [z, upd_same] at hd; cases hd
  have hta : t' ≠ a := fun z => by rw [z, upd_same] at ht; cases ht
  rw [upd_ne hda] at hd
  rw [upd_ne hta] at ht
  have htd : t' ≠ d := fun z => at_ne e2' e3' exd_tup z
  refine ⟨rfl, d, _, e1', e2', hd, ?_⟩
  have hB : c2.B t' = none := R2.notB (by rw [b1]; exact ht)
  have old : ∀ {b : Addr} {o : HO}, c2.H b = some o → b ≠ a ∧ b ≠ d ∧ b ≠ t' := fun {b o} hb => by
    rw [b1] at hb
    exact ⟨(fun z => by rw [z, ha] at hb; cases hb), (fun z => by rw [z, hd] at hb; cases hb), (fun z => by rw [z, ht] at hb; cases hb)⟩
  have x3 : Ext c2.H (upd (del H' a) d (.xd ((ks.zip (is.map fun i => vs.getD i .non)) ++ [(("told" : Str), V.ref t')]))) := fun b o hb => by
    obtain ⟨n1, n2, n3⟩ := old hb
    rw [upd_ne n2, del_ne n1]
    refine off b o n1 ?_
    rw [upd_ne n1, ← b1]
    exact hb
  have x1 : Ext c2.B (upd c2.B t' (.tup vs)) := Ext.upd hB
  have x2 : Ext (upd c2.B t' (.tup vs)) (upd (del H' a) d (.xd ((ks.zip (is.map fun i => vs.getD i .non)) ++ [(("told" : Str), V.ref t')]))) := fun b o hb => by
    by_cases z : b = t'
    · rw [z, upd_same] at hb
      rw [z, upd_ne htd, del_ne hta, e3']
      exact hb
    · rw [upd_ne z] at hb
      exact x3 b o (R2.le _ _ hb)
  obtain ⟨R3, G3⟩ := R2.grow x1 x2 x3 fun b h1 h2 => by
    by_cases z : b = t'
    · rw [z, b1]; exact ht
    · rw [upd_ne z] at h1
      exact absurd h2 h1
  have lz : (ks.zip (is.map fun i => vs.getD i V.non)) ++ [(("told" : Str), V.ref t')] = (ks ++ [("told" : Str)]).zip ((is.map fun i => vs.getD i V.non) ++ [V.ref t']) := by
    rw [List.zip_append (by rw [List.length_map]; exact hk)]
    rfl
  refine ok.ex _ R3 ((G1.trans G2).trans G3).go C d (ks ++ [("told" : Str)]) ((is.map fun i => vs.getD i .non) ++ [.ref t']) _ ?_ ?_ ?_ hx
  · show (upd _ d _) d = _
    rw [upd_same, lz]
  · rw [List.length_append, List.length_append, List.length_map, hk]; rfl
  · exact ((r.ext x1).sel is).snoc (.tup (SqT.of upd_same) (r.ext x1))
/-! ### bodies that may raise -/
def retX (Φ : D → Prop) (Ψ : PX) : EndsD := { nx := fun _ => Φ .non, rt := fun w s => ∃ d s', frz w s = some (d, s') ∧ Φ d, ex := Ψ }
theorem body_okX {P : Program} {w : World} {K : PySem.W.Frag} {t : TS} {g : GS} {N : List Str} {G : GFX} {vs : List V} {H : Hp} {Q : VK} {E E0 : XK} (ss : SS ⟨P, w, K, E⟩ t g) (hG : ∀ ds Φ Ψ, G ds Φ Ψ → g ⟨startD N ds, 0⟩ (retX Φ Ψ)) (h : spX ⟨P, w, K, E0⟩ G vs H Q E) : t { nx := fun _ H' => Q .non H', rt := Q } (L2.start N vs) H := by
  obtain ⟨B, ds, Φ, Ψ, x, r, g0, q, qx⟩ := h
  let Kb : Bd := ⟨P, w, K, E⟩
  have R0 : Rep ⟨Kb, 0, 0, [], false⟩ ⟨B, H, L2.start N vs, ⟨startD N ds, 0⟩⟩ := by
    refine ⟨x, start_len r, fun i e h => ?_, fun i j ei ej l h1 o1 _ _ _ _ => ?_, fun on => by cases on⟩
    · obtain ⟨d, v, rfl, h1, h2⟩ := start_get r h
      exact ⟨v, h1, h2⟩
    · obtain ⟨d, v, rfl, _⟩ := start_get r h1
      cases o1
  have n0 : ∀ a, ¬ Own ⟨B, H, L2.start N vs, ⟨startD N ds, 0⟩⟩ a := by
    rintro a ⟨i, e, h1, o1, _⟩
    obtain ⟨d, v, rfl, _⟩ := start_get r h1
    cases o1
  refine ss ⟨Kb, 0, 0, [], false⟩ rfl ⟨B, H, L2.start N vs, ⟨startD N ds, 0⟩⟩ _ (retX Φ Ψ) R0 (hG ds Φ Ψ g0) ⟨fun c' R' G' p => ?_, fun c' v w R' G' D' p => ?_, fun c' R' G' p => p.elim, fun c' R' G' p => p.elim, fun c' R' G' C d ks ws es h1 h2 h3 h4 => ?_⟩
  · exact q c'.B c'.H .non .non G'.b R'.le (fun a o e => G'.fr a o e fun m => m.elim (n0 a) fun z => by cases z.1) (fun a e n => (G'.nb a e n).elim id fun z => absurd z (n0 a)) .non p
  · obtain ⟨d, s', e, hΦ⟩ := p
    obtain ⟨B', b1, b2, b3, b4⟩ := outB R' G' n0 D' e
    exact q B' c'.H v d (G'.b.trans b1) b2 (fun a o e => G'.fr a o e fun m => m.elim (n0 a) fun z => by cases z.1) b4 b3 hΦ
  · exact qx c'.B c'.H C d ks ws es G'.b R'.le (fun a o e => G'.fr a o e fun m => m.elim (n0 a) fun z => by cases z.1) (fun a e n => (G'.nb a e n).elim id fun z => absurd z (n0 a)) h1 h2 h3 h4
def retIX (x : Addr) (C : Str) (Φ : List Str → List D → Prop) (Ψ : PX) : EndsD := { nx := fun s => ∃ ks ds, s.r[0]? = some (some (.obj x C ks ds)) ∧ Φ ks ds, rt := fun _ _ => False, ex := Ψ }
theorem body_okIX {P : Program} {w : World} {K : PySem.W.Frag} {t : TS} {g : GS} {y : Str} {N : List Str} {C : Str} {G : GFIX} {vs : List V} {H : Hp} {Q : VK} {E E0 : XK} (ss : SS ⟨P, w, K, E⟩ t g) (hG : ∀ x ds Φ Ψ, G ds Φ Ψ → g ⟨startI x C (y :: N) ds, 0⟩ (retIX x C Φ Ψ)) (h : spIX ⟨P, w, K, E0⟩ C G vs H Q E) : t { nx := fun _ H' => Q .non H', rt := Q } (L2.start (y :: N) vs) H := by
  obtain ⟨x, dx, us, B, ds, Φ, Ψ, rfl, hx, bx, xB, r, g0, q, qx⟩ := h
  let Kb : Bd := ⟨P, w, K, E⟩
  have es : L2.start (y :: N) (.ref x :: us) = some (.ref x) :: L2.start N us := by
    simp [L2.start]
  rw [es]
  have at0 : ∀ (i : Nat) (e : En), (startI x C (y :: N) ds)[i]? = some (some e) → (i = 0 ∧ e = .obj x C [] []) ∨ ∃ j d v, i = j + 1 ∧ e = .val d ∧ (L2.start N us)[j]? = some (some v) ∧ Rp ⟨P, w, K⟩ B v d := by
    intro i e h
    cases i with
    | zero => exact .inl ⟨rfl, by simpa [startI] using h.symm⟩
    | succ j =>
      have h' : (startD N ds)[j]? = some (some e) := by simpa [startI] using h
      obtain ⟨d, v, h1, h2, h3⟩ := start_get r h'
      exact .inr ⟨j, d, v, rfl, h1, h2, h3⟩
  let c0 : Cf := ⟨B, H, some (.ref x) :: L2.start N us, ⟨startI x C (y :: N) ds, 0⟩⟩
  have R0 : Rep ⟨Kb, 0, 0, [], false⟩ c0 := by
    refine ⟨xB, ?_, fun i e h => ?_, fun i j ei ej l h1 o1 h2 o2 _ _ => ?_, fun on => by cases on⟩
    · show (some (V.ref x) :: L2.start N us).length = (startI x C (y :: N) ds).length
      simp [startI, start_len (N := N) r]
    · rcases at0 i e h with ⟨rfl, rfl⟩ | ⟨j, d, v, rfl, rfl, h1, h2⟩
      · exact ⟨x, _, rfl, hx, ⟨rfl, dx, [], rfl, rfl, .nil⟩, bx, fun on => by cases on⟩
      · exact ⟨v, by simpa [c0] using h1, h2⟩
    · rcases at0 i ei h1 with ⟨rfl, _⟩ | ⟨_, _, _, _, rfl, _⟩
      · rcases at0 j ej h2 with ⟨rfl, _⟩ | ⟨_, _, _, _, rfl, _⟩
        · rfl
        · cases o2
      · cases o1
  have own0 : ∀ a, Own c0 a → a = x := by
    rintro a ⟨i, e, h1, o1, h2⟩
    rcases at0 i e h1 with ⟨rfl, _⟩ | ⟨_, _, _, _, rfl, _⟩
    · have : some (some (V.ref x)) = some (some (V.ref a)) := h2
      cases this
      rfl
    · cases o1
  refine ss ⟨Kb, 0, 0, [], false⟩ rfl c0 _ (retIX x C Φ Ψ) R0 (hG x ds Φ Ψ g0) ⟨fun c' R' G' p => ?_, fun c' v w R' G' D' p => p.elim, fun c' R' G' p => p.elim, fun c' R' G' p => p.elim, fun c' R' G' C d ks ws es h1 h2 h3 h4 => ?_⟩
  · obtain ⟨ks, es', e, hΦ⟩ := p
    obtain ⟨l, o, b1, b2, ⟨rfl, dx', vs', rfl, hl, hr⟩, b4, b5⟩ := (R'.at_ 0 _ e).own rfl
    refine q c'.B c'.H dx' ks vs' es' G'.b R'.le (fun a o n h => G'.fr a o h fun m => m.elim (fun z => n (own0 a z)) fun z => by cases z.1) (fun a h n => ?_) b2 hl hr hΦ
    rcases G'.nb a h n with z | z
    · exact z
    · rw [own0 a z] at h
      exact absurd b4 h
  · exact qx c'.B c'.H C d ks ws es G'.b R'.le (fun a o n h => G'.fr a o h fun m => m.elim (fun z => n (own0 a z)) fun z => by cases z.1) (fun a n h m => (G'.nb a h m).elim id fun z => absurd (own0 a z) n) h1 h2 h3 h4
end
end DL
set_option maxHeartbeats 1000000
/-! Makers that are handed a list of one's own which stays one's own; makers called by keywords; {} as a value; list.insert. -/
namespace DL
open PySem PySem.Spec PyProof.Rows L2 Ax
mutual
/-- flat things and tuples of such -/
def flatT : D → Bool
  | .tup ds => flatTs ds
  | .lst _ => false
  | .tpz _ => false
  | .ins _ _ _ => false
  | .dic _ _ => false
  | .dnk _ _ => false
  | _ => true
def flatTs : List D → Bool
  | [] => true
  | d :: ds => flatT d && flatTs ds
end
section
variable {K : Bk} {B B' : Hp}
mutual
theorem flatT_rp (h : ∀ a xs, SqT K B a xs → SqT K B' a xs) : ∀ {v : V} {d : D}, Rp K B v d → flatT d = true → Rp K B' v d
  | _, _, .non, _ => .non
  | _, _, .bl b, _ => .bl b
  | _, _, .int i, _ => .int i
  | _, _, .str s, _ => .str s
  | _, _, .lst _ _, f => by simp [flatT] at f
  | _, _, .tup g r, f => .tup (h _ _ g) (flatTs_rp h r (by simpa [flatT] using f))
  | _, _, .tpz _ _ _ _, f => by simp [flatT] at f
  | _, _, .ins _ _ _, f => by simp [flatT] at f
  | _, _, .dic _ _ _, f => by simp [flatT] at f
  | _, _, .dnk _ _ _ _ _ _, f => by simp [flatT] at f
theorem flatTs_rp (h : ∀ a xs, SqT K B a xs → SqT K B' a xs) : ∀ {vs : List V} {ds : List D}, RpA K B vs ds → flatTs ds = true → RpA K B' vs ds
  | _, _, .nil, _ => .nil
  | _, _, .cons g r, f => by
    simp only [flatTs, Bool.and_eq_true] at f
    exact .cons (flatT_rp h g f.1) (flatTs_rp h r f.2)
end
end
section
variable {K : Bd}
/-- C(e, ..): the lists of one's own stay so; the fields are flat or tuples -/
def gMakeP (C : Str) (G : GFI) (dd : List D) (ga : GA) : GX := fun s Φ => ga s fun ws s1 => ∃ ds s2, frzA ws s1 = some (ds, s2) ∧ G (ds ++ dd) fun ks es => flatTs es = true ∧ Φ (.dat (.ins C ks es)) s1
open Classical in
theorem se_makeP {C : Str} {G : GFI} {dv : List V} {dd : List D} {E : XK} {t : TA} {ga : GA} (hd : ∀ B : Hp, RpA K B dv dd) (h : SA K t ga) : SE K (tMake (He.ga K.K C) (spI K C G) dv E t) (gMakeP C G dd ga) := by
  intro F hK c Φ Q R p q
  subst hK
  refine h F rfl c _ _ R p fun c1 vs ws R1 G1 D1 p1 => ?_
  obtain ⟨ds, s2, e1, g⟩ := p1
  obtain ⟨c2, b1, b2, R2, G2, r⟩ := frzA_ok R1 D1 e1
  rw [← b1]
  intro x dx hx hdx hne
  have bx : ∀ {a : Addr}, c2.H a = none → c2.B a = none := fun {a} h => by
    cases z : c2.B a with
    | none => rfl
    | some o => rw [R2.le _ _ z] at h; cases h
  have H3at : ∀ {a : Addr} {o : HO}, c2.H a = some o → (upd (upd c2.H dx (.own x)) x (.ins (He.ga F.K C) dx [])) a = some o := fun {a o} h => by
    rw [upd_ne (fun z => by rw [z, hx] at h; cases h), upd_ne (fun z => by rw [z, hdx] at h; cases h)]
    exact h
  refine ⟨x, dx, vs ++ dv, c2.B, ds ++ dd, _, rfl, upd_same, bx hx, fun a o z => H3at (R2.le _ _ z), r.app (hd _), g, fun B' H' dx' ks vs' ds' x1 x2 fr nb hx' hl rp hΦ => ⟨rfl, ?_⟩⟩
  obtain ⟨hf, hΦ⟩ := hΦ
  have y3 : Ext c1.H H' := fun a o z => by
    rw [← b1] at z
    exact fr a o (fun y => by rw [y, hx] at z; cases z) (H3at z)
  have hx1 : c1.H x = none := by rw [← b1]; exact hx
  let B2 : Hp := fun a => if Own c1 a then none else if a = x then some (.ins (He.ga F.K C) dx' (ks.zip vs')) else B' a
  have nx : ¬ Own c1 x := R1.notOwn hx1
  have B2x : B2 x = some (.ins (He.ga F.K C) dx' (ks.zip vs')) := by
    show (if Own c1 x then none else if x = x then _ else B' x) = _
    rw [if_neg nx, if_pos rfl]
  have B2o : ∀ {a : Addr}, ¬ Own c1 a → a ≠ x → B2 a = B' a := fun {a} n m => by
    show (if Own c1 a then none else if a = x then _ else B' a) = _
    rw [if_neg n, if_neg m]
  have y1 : Ext c1.B B2 := fun a o z => by
    have n : ¬ Own c1 a := fun m => by
      obtain ⟨i, e, k1, k0, k2⟩ := m
      obtain ⟨l, u, q1, q2, q3, q4, _⟩ := (R1.at_ i e k1).own k0
      rw [k2] at q1
      cases q1
      rw [q4] at z
      cases z
    rw [B2o n (fun y => by rw [y] at z; have := R1.le _ _ z; rw [hx1] at this; cases this)]
    exact x1 _ _ (G2.go.b _ _ z)
  have y2 : Ext B2 H' := fun a o z => by
    by_cases n : Own c1 a
    · have : B2 a = none := if_pos n
      rw [this] at z
      cases z
    · by_cases y : a = x
      · rw [y, B2x] at z
        cases Option.some.inj z
        rw [y]; exact hx'
      · rw [B2o n y] at z
        exact x2 _ _ z
  have y4 : ∀ a, B2 a ≠ none → c1.B a = none → c1.H a = none := fun a z w => by
    by_cases n : Own c1 a
    · exact absurd (if_pos n) z
    · by_cases y : a = x
      · rw [y]; exact hx1
      · rw [B2o n y] at z
        cases u : c2.B a with
        | none =>
          have := nb a z u
          cases k : c2.H a with
          | none => rw [← b1]; exact k
          | some o => rw [H3at k] at this; cases this
        | some o =>
          rcases G2.go.nb a (by rw [u]; exact fun k => nomatch k) w with k | k
          · exact k
          · exact absurd k n
  obtain ⟨R3, G3⟩ := R1.grow y1 y2 y3 y4
  refine q _ (.ref x) (.dat (.ins C ks ds')) R3 (G1.trans G3) (.ins B2x hl (flatTs_rp (fun a xs m => ?_) rp hf)) hΦ
  rcases m with m | m
  · left
    have keep : ∀ {o : HO}, B' a = some o → (∀ u, o ≠ .lst u) → (∀ u, o ≠ .dK u) → (∀ u1 u2 u3, o ≠ .ins u1 u2 u3) → (∀ f, o ≠ .ext f) → B2 a = some o := fun {o} e n1 n2 n3 n4 => by
      rw [B2o ?_ ?_]
      · exact e
      · rintro ⟨i, en, k1, k0, k2⟩
        obtain ⟨l, u, q1, q2, q3, _⟩ := (R1.at_ i en k1).own k0
        rw [k2] at q1
        cases q1
        have z := y3 _ _ q2
        rw [x2 _ _ e] at z
        cases Option.some.inj z
        cases en with
        | own ds => obtain ⟨w1, w2, _⟩ := q3; exact n1 _ w2
        | dct kvs => obtain ⟨w1, w2, _⟩ := q3; exact n4 _ w2
        | dck kvs => obtain ⟨w1, w2, _⟩ := q3; exact n2 _ w2
        | obj a C ks ds => obtain ⟨_, w1, w2, w3, _⟩ := q3; exact n3 _ _ _ w3
        | _ => exact q3.elim
      · intro y
        rw [y] at e
        have z := x2 _ _ e
        rw [hx'] at z
        exact n3 _ _ _ (Option.some.inj z).symm
    rcases m with m | ⟨o, m⟩
    · exact .inl (keep m (fun _ z => nomatch z) (fun _ z => nomatch z) (fun _ _ _ z => nomatch z) (fun _ z => nomatch z))
    · exact .inr ⟨o, keep m (fun _ z => nomatch z) (fun _ z => nomatch z) (fun _ _ _ z => nomatch z) (fun _ z => nomatch z)⟩
  · exact .inr m
/-! ### C(e, .., k=e) -/
def DcK (P : Program) (w : World) (K : PySem.W.Frag) (mg : Str → Option Value) (base : Heap) (CX : CXT) (k : Nat) (x : Str) (ps : List Str) (n : Nat) (ks : List Str) (sp : Sp) : Prop :=
  ∃ (f : Addr) (fd : FuncData) (g : List Value → List Value → List Value), FnOk P w K mg base CX k f fd ps sp ∧ mg x = some (.ref (He.ga K x)) ∧ Mk K (He.ga K x) f ∧ KBn K fd ps (n + 1) ks g (fun vs zs => vs ++ zs)
theorem pe_dcK {X : Cx} {CX : CXT} {k n : Nat} {ps ks : List Str} {sp : Sp} {E : XK} {x : Str} {p pos : Pos} {e : Expr} {es : List Expr} {kws : List Keyword} {t tk : TA} (D : DcK X.prog X.w X.K X.mg X.base CX k x ps n ks sp) (hr : Room (k + 1) X.A) (hg : Gl X x) (hx : Passes CX X E) (ha : PA X (e :: es) t) (hkw : PK X kws tk)
    (hall : (backToKw pos (keywordEach kws X.env)).all (·.1.isSome) = true := by rfl) (hks : (backToKw pos (keywordEach kws X.env)).filterMap (·.1) = ks := by rfl)
    (hdb : (x == ("__debug__" : Str)) = false := by decide) (he : starEach (e :: es) X.env = (false, eval e X.env) :: starEach es X.env := by rfl)
    (hpl : ((backTo pos (starEach (e :: es) X.env)).any (·.1) || (backToKw pos (keywordEach kws X.env)).any (·.1.isNone)) = false := by rfl) :
    PE X (.Call (.Name x p) (e :: es) kws pos) (tMakeN (He.ga X.K x) n ks.length sp (fun vs zs => vs ++ zs) E t tk) := by
  obtain ⟨f, fd, g, F, hm, M, hb⟩ := D
  exact pe_makeN M F hr hg hm hb hx ha hkw hall hks hdb he hpl
def gMakeN (C : Str) (n m : Nat) (G : GFI) (ga gk : GA) : GX := fun s Φ => ga s fun ws s1 => gk s1 fun us s2 => ∃ ds es s3 s4, frzA ws s2 = some (ds, s3) ∧ frzA us s3 = some (es, s4) ∧ ds.length = n ∧ es.length = m ∧ G (ds ++ es) fun ks fs => Φ (.dat (.ins C ks fs)) s4
theorem se_makeN {C : Str} {n m : Nat} {G : GFI} {E : XK} {t tk : TA} {ga gk : GA} (h : SA K t ga) (h2 : SA K tk gk) : SE K (tMakeN (He.ga K.K C) n m (spI K C G) (fun vs zs => vs ++ zs) E t tk) (gMakeN C n m G ga gk) := by
  intro F hK c Φ Q R p q
  subst hK
  refine h F rfl c _ _ R p fun c1 vs ws R1 G1 D1 p1 => ?_
  refine h2.run rfl G1.σ rfl R1 p1 fun c2 zs us R2 G2 D2 p2 => ?_
  obtain ⟨ds, es, s3, s4, e1, e2, l1, l2, g⟩ := p2
  have lw := (DenA.keep G2 D1).len
  have lz := D2.len
  obtain ⟨c3, b1, b2, R3, G3, r⟩ := frzA_ok R2 (DenA.keep G2 D1) e1
  obtain ⟨c4, b3, b4, R4, G4, r'⟩ := frzA_ok R3 (DenA.keep G3 D2) (by rw [b2]; exact e2)
  have bH : c4.H = c2.H := b3.trans b1
  refine ⟨by rw [lw, ← frzA_len e1, l1], by rw [lz, ← frzA_len e2, l2], ?_⟩
  rw [← bH]
  intro x dx hx hdx hne
  have bx : ∀ {a : Addr}, c4.H a = none → c4.B a = none := fun {a} h => R4.notB h
  have H3at : ∀ {a : Addr} {o : HO}, c4.H a = some o → (upd (upd c4.H dx (.own x)) x (.ins (He.ga F.K C) dx [])) a = some o := fun {a o} h => by
    rw [upd_ne (fun z => by rw [z, hx] at h; cases h), upd_ne (fun z => by rw [z, hdx] at h; cases h)]
    exact h
  refine ⟨x, dx, vs ++ zs, c4.B, ds ++ es, _, rfl, upd_same, bx hx, fun a o z => H3at (R4.le _ _ z), (r.ext G4.go.b).app r', g, fun B' H' dx' ks vs' ds' x1 x2 fr nb hx' hl rp hΦ => ⟨rfl, ?_⟩⟩
  have B'x : B' x = none := by
    cases z : B' x with
    | none => rfl
    | some o =>
      have := nb x (by rw [z]; exact fun y => nomatch y) (bx hx)
      rw [upd_same] at this
      cases this
  have y1 : Ext c4.B (upd B' x (.ins (He.ga F.K C) dx' (ks.zip vs'))) := fun a o z => by
    rw [upd_ne (fun y => by rw [y, bx hx] at z; cases z)]
    exact x1 _ _ z
  have y2 : Ext (upd B' x (.ins (He.ga F.K C) dx' (ks.zip vs'))) H' := fun a o z => by
    by_cases y : a = x
    · rw [y, upd_same] at z
      cases Option.some.inj z
      rw [y]; exact hx'
    · rw [upd_ne y] at z
      exact x2 _ _ z
  have y3 : Ext c4.H H' := fun a o z => fr a o (fun y => by rw [y, hx] at z; cases z) (H3at z)
  have y4 : ∀ a, (upd B' x (.ins (He.ga F.K C) dx' (ks.zip vs'))) a ≠ none → c4.B a = none → c4.H a = none := fun a z w => by
    by_cases y : a = x
    · rw [y]; exact hx
    · rw [upd_ne y] at z
      have := nb a z w
      cases u : c4.H a with
      | none => rfl
      | some o => rw [H3at u] at this; cases this
  have y5 : Ext B' (upd B' x (.ins (He.ga F.K C) dx' (ks.zip vs'))) := fun a o z => by
    rw [upd_ne (fun y => by rw [y, B'x] at z; cases z)]
    exact z
  obtain ⟨R5, G5⟩ := R4.grow y1 y2 y3 y4
  exact q _ (.ref x) (.dat (.ins C ks ds')) R5 ((((G1.trans G2).trans G3).trans G4).trans G5) (.ins upd_same hl (rp.ext y5)) (by rw [← b4] at hΦ; exact hΦ)
/-! ### {} -/
def gDic0 : GX := fun s Φ => Φ (.dat (.dic [] [])) s
theorem se_dic0 : SE K tDNewK gDic0 := by
  intro F hK c Φ Q R p q l hl
  obtain ⟨R1, G1⟩ := R.putB (o := .dK []) hl
  exact q _ (.ref l) (.dat (.dic [] [])) R1 G1 (.dic (ks := []) (xs := []) upd_same rfl .nil) p
/-! ### l.insert(i, x) -/
def rIns : V → List V → Hp → VK → Prop := fun x vs H Q => ∃ (l : Addr) (xs : List V) (i : Int) (y : V), x = .ref l ∧ vs = [.int i, y] ∧ H l = some (.lst xs) ∧ xs.length < sizeLine ∧ 0 ≤ i ∧ i < 2 ^ 63 ∧ Q .non (upd H l (.lst (xs.take i.toNat ++ [y] ++ xs.drop i.toNat)))
theorem mt_ins {X : Cx} : MtR X "list.insert" rIns := mt_insert
def gsIns (i : Nat) (ga : GA) : GS := fun s De => (∃ ds, s.r[i]? = some (some (.own ds))) ∧ ga s fun ws s1 => ∃ (n : Nat) (d : D) (s2 : Stt) (ds : List D), frzA ws s1 = some ([.int (n : Nat), d], s2) ∧ n < 1000000 ∧ s2.r[i]? = some (some (.own ds)) ∧ ds.length < 1000000 ∧ De.nx (s2.put i (.own (ds.take n ++ [d] ++ ds.drop n)))
theorem ss_ins {i : Nat} {t : TA} {ga : GA} (h : SA K t ga) : SS K (tDrop (tBM K "list" rIns (tVar i) t)) (gsIns i ga) := by
  intro F hK c E De R p ok
  obtain ⟨⟨ds0, e0⟩, p⟩ := p
  obtain ⟨l, o0, q1, q2, ⟨vs0, rfl, _⟩, _⟩ := R.at_ i _ e0
  subst hK
  refine ⟨.ref l, q1, .inl ⟨rfl, vs0, SqL.of q2⟩, ?_⟩
  refine h.run rfl rfl rfl R p fun c1 ws us R1 G1 D1 p1 => ?_
  obtain ⟨n, d, s2, ds, e1, hn, e2, hl, p2⟩ := p1
  obtain ⟨c2, b1, b2, R2, G2, r⟩ := frzA_ok R1 D1 e1
  cases r with
  | @cons v0 _ _ _ r0 rr =>
    cases rr with
    | @cons v _ _ _ r1 rr =>
      cases rr
      cases r0
      rw [← b2] at e2 p2
      have hσ : c2.σ[i]? = some (some (.ref l)) := by rw [G2.σ, G1.σ]; exact q1
      obtain ⟨l', o2, y1, y2, ⟨vs, rfl, y3⟩, y4, y5⟩ := R2.at_ i _ e2
      rw [hσ] at y1
      cases y1
      obtain ⟨R3, G3⟩ := R2.updE (e' := .own (ds.take n ++ [d] ++ ds.drop n)) (o' := .lst (vs.take n ++ [v] ++ vs.drop n)) e2 rfl hσ ⟨_, rfl, ((y3.take n).snoc r1).app (y3.drop n)⟩
      have hvl : vs.length < sizeLine := by
        rw [y3.len, sizeLine_eq]; omega
      refine ⟨l, vs, (n : Nat), v, rfl, rfl, by rw [← b1]; exact y2, hvl, by omega, by omega, ?_⟩
      have key := ok.nxE R3 ((G1.trans G2).trans G3) p2
      rw [← b1]
      exact key
end
end DL
set_option maxHeartbeats 1000000
/-! Lambdas handed to a def that calls them and tells what they raise; statements that leave a code table grown. -/
namespace DL
open PySem PySem.Spec PySem.Calls PyProof.Rows L2 Ax
/-! ### isinstance(e, C), e a caught error of a class below C -/
theorem kit_yes {K : PySem.W.Frag} {x t c : Value} {G : Heap → Prop} (ty : ∀ (M : Model) (h : Heap), K.In h → G h → PySem.W.Looks M h (typeOf x) t) (e : PySem.W.kitOne K t c = some true) : Answers (fun s => K.In s.heap ∧ G s.heap) x c true := by
  intro dep tk P w B R z hz
  obtain ⟨hp, gs, dr, tt, os⟩ := z
  obtain ⟨⟨hK, hG⟩, go⟩ := hz
  have T := ty (model P w) hp hK hG
  unfold PySem.W.kitOne at e
  unfold Builtin.«isinstance.nested»
  refine wpAny_bind (T.at ?_)
  by_cases y : (t == c) = true
  · rw [if_pos y] at e ⊢
    first
      | exact go tt
      | exact wpAny_bind (wpAny_rule (go tt))
      | exact wpAny_bind (wpAny_rule (wpAny_pure (go tt)))
  · rw [if_neg y] at e ⊢
    obtain ⟨u1, u2, u3⟩ := PySem.W.kit_cls (M := model P w) hK e
    have J : PySem.W.Looks (model P w) hp (isInstance x c) true := T.andThen u3
    refine wpAny_bind (u1.at ?_)
    rw [if_pos (by decide)]
    k_delta "plainIsInstance"
    refine wpAny_bind (wpAny_bind (u2.at ?_))
    rw [Bool.not_true, if_neg Bool.false_ne_true]
    refine wpAny_bind (J.at ?_)
    first
      | exact wpAny_pure (wpAny_pure (go tt))
      | (rw [if_pos rfl]; first | exact wpAny_pure (wpAny_pure (go tt)) | exact wpAny_pure (go tt) | exact wpAny_bind (wpAny_pure (wpAny_pure (go tt))))
/-- isinstance(e, C), e the error that the suite holds, of a class cls below C -/
def rIsX (K : PySem.W.Frag) (cls : Value) (a : Addr) : List V → Hp → VK → Prop := fun xs H Q => ∃ C : Addr, xs = [.ref a, .ref C] ∧ PySem.W.kitOne K cls (.ref C) = some true ∧ Q (.bl true) H
theorem call_isX {X : Cx} {a : Addr} {cls : Value} {d : Option Addr} {oe : Obj} {pn : List (Addr × Obj)} (hz : Zc cls d oe) : CallR (X.suite a ((a, oe) :: pn)) (.builtin "isinstance") (rIsX X.K cls a) := by
  intro pins s σ H xs us Q I r h
  obtain ⟨C, rfl, e, go⟩ := h
  obtain ⟨u1, u2, rfl, r1, r2⟩ := vals2 r
  obtain rfl : u1 = Value.ref a := r1
  obtain rfl : u2 = Value.ref C := r2
  obtain ⟨at_, _⟩ := I.pin (a, oe) (List.mem_append.mpr (.inl List.mem_cons_self))
  exact call_isinstance (S := fun _ R z => (X.K.In z.heap ∧ z.heap.get? a = some oe) ∧ ∀ tk, R (.ok (.ret (.bool true))) { z with toks := tk })
    (fun P w A R z hs => isinstance_outer (kit_yes (G := fun h => h.get? a = some oe) (t := cls) (fun M h _ g => fun A Q E z kk y => wpAny_typeOf_ref (kk _ _ g) (by rw [hz.1]; exact y)) e 0 _ P w A R z hs) (fun y => nomatch y)) ⟨⟨I.kIn, at_⟩, fun tk => ⟨.bl true, H, I.kept (t' := tk) (fun _ _ y => y), rfl, go⟩⟩
theorem takes_len {X : Cx} {W : WX} (t : Takes X W) : Takes X (fun c d σ H => σ.length = X.N.length → W c d σ H) := fun u s' ⟨a, B, sI, pins, σ, H, cls, d, e, I, nb, up, sky, na, os, ag, w⟩ =>
  t u s' ⟨a, B, sI, pins, σ, H, cls, d, e, I, nb, up, sky, na, os, ag, w I.len⟩
/-- told: try: a() / except C as e: return e.f / return None -/
def TTbad (CS : Addr) (f : Str) : (XK → Hp → VK → Prop) → Hp → VK → Prop := fun tl H Q =>
  tl (fun cls d H' => cls = .ref CS ∧ ∃ (dd : Addr) (fs : List (Str × V)) (v : V), d = some dd ∧ H' dd = some (.xd fs) ∧ fs.lookup f = some v ∧ Q v H') H (fun _ H' => Q .non H')
/-! ### a code table of the def's own -/
def TabA (c : Cf) (T : Addr) (q : Str) : Prop := c.B T = none ∧ ∃ ps : Array Value, c.H T = some (.tbl ps) ∧ TriplesOk ps.toList ∧ ∀ (pos : Pos) (cv : Value), codeAmong pos ps.toList = some cv → ∃ a, cv = .ref a ∧ c.B a = some (LamX.CodeO a q)
theorem code_ext (a : Addr) (q : Str) : ∃ f, LamX.CodeO a q = .ext f := ⟨_, rfl⟩
section
variable {F : Fx} {c c' : Cf} {T : Addr} {q : Str}
theorem TabA.notOwn (R : Rep F c) (h : TabA c T q) : ¬ Own c T := fun ⟨i, e, k1, k0, k2⟩ => by
  obtain ⟨_, ps, t1, _⟩ := h
  obtain ⟨l, u, q1, q2, q3, _⟩ := (R.at_ i e k1).own k0
  rw [k2] at q1
  cases q1
  rw [t1] at q2
  cases Option.some.inj q2
  cases e with
  | own ds => obtain ⟨w1, w2, _⟩ := q3; cases w2
  | dct kvs => obtain ⟨w1, w2, _⟩ := q3; cases w2
  | dck kvs => obtain ⟨w1, w2, _⟩ := q3; cases w2
  | obj a C ks ds => obtain ⟨_, w1, w2, w3, _⟩ := q3; cases w3
  | _ => exact q3.elim
theorem TabA.go (R : Rep F c) (h : TabA c T q) (G : Go F c c') : TabA c' T q := by
  have no := h.notOwn R
  obtain ⟨h0, ps, t1, t2, t3⟩ := h
  refine ⟨?_, ps, G.fr T _ t1 (fun m => ?_), t2, fun pos cv e => ?_⟩
  · cases z : c'.B T with
    | none => rfl
    | some o =>
      rcases G.nb T (by rw [z]; exact fun y => nomatch y) h0 with y | y
      · rw [t1] at y; cases y
      · exact absurd y no
  · rcases m with m | ⟨on, m⟩
    · exact no m
    · obtain ⟨⟨t, r, b1, _⟩, _, _⟩ := R.bag on
      rw [m, b1] at t1
      cases t1
  · obtain ⟨a, e1, e2⟩ := t3 pos cv e
    exact ⟨a, e1, G.b _ _ e2⟩
theorem TabA.tabs (R : Rep F c) (h : TabA c T q) : LamX.Tabs [(T, q)] c.H := fun p hp => by
  rw [List.mem_singleton.mp hp]
  obtain ⟨h0, ps, t1, t2, t3⟩ := h
  exact ⟨ps, t1, t2, fun pos cv e => let ⟨a, e1, e2⟩ := t3 pos cv e; ⟨a, e1, R.le _ _ e2⟩⟩
end
/-! ### data in a heap whose tables have grown -/
section
variable {K : Bk} {B B' : Hp}
theorem sqT_extN {a : Addr} {xs : List V} (x : LamX.ExtN B B') (h : SqT K B a xs) : SqT K B' a xs := by
  rcases h with (h | ⟨o, h⟩) | h
  · exact .inl (.inl (x _ _ h fun _ z => nomatch z))
  · exact .inl (.inr ⟨o, x _ _ h fun _ z => nomatch z⟩)
  · exact .inr h
mutual
theorem Rp.extN (x : LamX.ExtN B B') : ∀ {v : V} {d : D}, Rp K B v d → Rp K B' v d
  | _, _, .non => .non
  | _, _, .bl b => .bl b
  | _, _, .int i => .int i
  | _, _, .str s => .str s
  | _, _, .lst h g => .lst (x _ _ h fun _ z => nomatch z) (RpA.extN x g)
  | _, _, .tup h g => .tup (sqT_extN x h) (RpA.extN x g)
  | _, _, .tpz h e1 e2 g => .tpz (x _ _ h fun _ z => nomatch z) e1 e2 (RpA.extN x g)
  | _, _, .ins h e g => .ins (x _ _ h fun _ z => nomatch z) e (RpA.extN x g)
  | _, _, .dic h e g => .dic (x _ _ h fun _ z => nomatch z) e (RpA.extN x g)
  | _, _, .dnk h e1 e2 e3 g1 g2 => .dnk (x _ _ h fun _ z => nomatch z) e1 e2 e3 (RpA.extN x g1) (RpA.extN x g2)
theorem RpA.extN (x : LamX.ExtN B B') : ∀ {vs : List V} {ds : List D}, RpA K B vs ds → RpA K B' vs ds
  | _, _, .nil => .nil
  | _, _, .cons h g => .cons (Rp.extN x h) (RpA.extN x g)
end
end
def noDct (s : Stt) : Prop := ∀ (i : Nat) (kvs : List (NK × D)), s.r[i]? ≠ some (some (.dct kvs))
section
variable {F : Fx} {c : Cf} {T : Addr} {q : Str}
open Classical in
theorem lam_step (R : Rep F c) (h : TabA c T q) (nd : noDct c.s) {H1 : Hp} (x : LamX.ExtN c.H H1) (t : LamX.Tabs [(T, q)] H1) : ∃ c1, c1.H = H1 ∧ c1.σ = c.σ ∧ c1.s = c.s ∧ Rep F c1 ∧ TabA c1 T q := by
  let B1 : Hp := fun a => if H1 a = some (LamX.CodeO a q) then some (LamX.CodeO a q) else match c.B a with
    | some (.tbl _) => none
    | r => r
  have pos : ∀ {a}, H1 a = some (LamX.CodeO a q) → B1 a = some (LamX.CodeO a q) := fun {a} e => if_pos e
  have neg : ∀ {a}, H1 a ≠ some (LamX.CodeO a q) → c.B a = none → B1 a = none := fun {a} e b => by
    show (if H1 a = some (LamX.CodeO a q) then some (LamX.CodeO a q) else _) = _
    rw [if_neg e, b]
  have xB : LamX.ExtN c.B B1 := fun a o e n => by
    have e1 := x _ _ (R.le _ _ e) n
    by_cases z : H1 a = some (LamX.CodeO a q)
    · rw [pos z, ← z, e1]
    · show (if H1 a = some (LamX.CodeO a q) then some (LamX.CodeO a q) else _) = _
      rw [if_neg z, e]
      cases o with
      | tbl ps => exact absurd rfl (n ps)
      | _ => rfl
  have le : Ext B1 H1 := fun a o e => by
    by_cases z : H1 a = some (LamX.CodeO a q)
    · rw [pos z] at e
      rw [z]; exact e
    · have e' : (match c.B a with
        | some (.tbl _) => none
        | r => r) = some o := by
        have : B1 a = (match c.B a with
          | some (.tbl _) => none
          | r => r) := if_neg z
        rw [← this]; exact e
      cases y : c.B a with
      | none => rw [y] at e'; cases e'
      | some u =>
        rw [y] at e'
        cases u with
        | tbl ps => cases e'
        | _ =>
          cases Option.some.inj e'
          exact x _ _ (R.le _ _ y) fun _ k => nomatch k
  have lst1 : ∀ {a : Addr} {xs : List V}, c.H a = some (.lst xs) → H1 a = some (.lst xs) := fun {a xs} e => x _ _ e fun _ k => nomatch k
  have nl : ∀ {a : Addr} {xs : List V}, c.H a = some (.lst xs) → c.B a = none → B1 a = none := fun {a xs} e b => neg (by rw [lst1 e]; exact fun k => nomatch k) b
  refine ⟨{ c with B := B1, H := H1 }, rfl, rfl, rfl, ⟨le, R.len, fun i e k => ?_, R.sep, fun on => ?_⟩, ?_⟩
  · have y := R.at_ i e k
    cases e with
    | val d => obtain ⟨v, y1, y2⟩ := y; exact ⟨v, y1, y2.extN xB⟩
    | bag => exact y
    | own ds =>
      obtain ⟨l, o, y1, y2, ⟨vs, rfl, y3⟩, y4, y5⟩ := y
      exact ⟨l, _, y1, lst1 y2, ⟨vs, rfl, y3.extN xB⟩, nl y2 y4, y5⟩
    | dct kvs => exact absurd k (nd i kvs)
    | dck kvs =>
      obtain ⟨l, o, y1, y2, ⟨vs, rfl, y3⟩, y4, y5⟩ := y
      have e1 : H1 l = some (.dK vs) := x _ _ y2 fun _ k => nomatch k
      exact ⟨l, _, y1, e1, ⟨vs, rfl, Paired.imp' (fun _ _ ⟨a, b⟩ => ⟨a, b.extN xB⟩) y3⟩, neg (by rw [e1]; exact fun k => nomatch k) y4, y5⟩
    | obj a C ks ds =>
      obtain ⟨l, o, y1, y2, ⟨el, dx, vs, rfl, y3, y6⟩, y4, y5⟩ := y
      have e1 : H1 l = some (.ins (He.ga F.K C) dx (ks.zip vs)) := x _ _ y2 fun _ k => nomatch k
      exact ⟨l, _, y1, e1, ⟨el, dx, vs, rfl, y3, y6.extN xB⟩, neg (by rw [e1]; exact fun k => nomatch k) y4, y5⟩
  · obtain ⟨⟨t0, r, b1, b2, b3⟩, b4, b5⟩ := R.bag on
    exact ⟨⟨t0, r, lst1 b1, lst1 b2, b3⟩, nl b1 b4, nl b2 b5⟩
  · obtain ⟨ps, t1, t2, t3⟩ := t (T, q) List.mem_cons_self
    refine ⟨neg (by rw [t1]; exact fun k => nomatch k) h.1, ps, t1, t2, fun p cv e => ?_⟩
    obtain ⟨a, e1, e2⟩ := t3 p cv e
    exact ⟨a, e1, pos e2⟩
theorem Rep.toE (R : Rep F c) (E : XK) : Rep { F with bd := ⟨F.bd.P, F.bd.w, F.bd.K, E⟩ } c := ⟨R.le, R.len, R.at_, R.sep, R.bag⟩
theorem Rep.ofE {E : XK} (R : Rep { F with bd := ⟨F.bd.P, F.bd.w, F.bd.K, E⟩ } c) : Rep F c := ⟨R.le, R.len, R.at_, R.sep, R.bag⟩
end
section
variable {K : Bd} {T : Addr} {q : Str}
/-- an expression that may leave the table grown; what it gives is data -/
def SET (K : Bd) (T : Addr) (q : Str) (t : TE) (g : GX) : Prop := ∀ F : Fx, F.bd = K → ∀ (c : Cf) (Φ : W → Stt → Prop) (Q : VK), Rep F c → TabA c T q → g c.s Φ → (∀ c' v d, Rep F c' → TabA c' T q → c'.σ = c.σ → Rp F.K c'.B v d → Φ (.dat d) c'.s → Q v c'.H) → t c.σ c.H Q
def gLamBad (C f : Str) (g : GXX) : GX := fun s Φ => noDct s ∧ g s (fun _ s1 => Φ (.dat .non) s1) (fun s1 C' ks es => C' = C ∧ ∃ d, (ks.zip es).lookup f = some d ∧ Φ (.dat d) s1)
theorem set_lam {C f : Str} {t : XK → TE} {g : GXX} (h : ∀ E, SEX ⟨K.P, K.w, K.K, E⟩ (t E) g) : SET K T q (LamX.tLam [(T, q)] (TTbad (He.ga K.K C) f) t) (gLamBad C f g) := by
  intro F hK c Φ Q R TA p qq
  subst hK
  obtain ⟨nd, p⟩ := p
  refine ⟨TA.tabs R, fun H1 x T1 => ?_⟩
  obtain ⟨c1, rfl, eσ, es, R1, TA1⟩ := lam_step R TA nd x T1
  rw [← es] at p
  show t _ c.σ c1.H _
  rw [← eσ]
  refine h _ { F with bd := ⟨F.bd.P, F.bd.w, F.bd.K, _⟩ } rfl c1 _ _ _ (R1.toE _) p (fun c' v w R' G' D' p' => ?_) (fun c' R' G' C' d ks vs ds e1 e2 e3 e4 => ?_)
  · exact qq c' .non .non R'.ofE (TA1.go (R1.toE _) G'.go) (G'.σ.trans eσ) .non p'
  · obtain ⟨rfl, d', l, p'⟩ := e4
    obtain ⟨v, l', r'⟩ := zip_lookup e3 l
    exact ⟨rfl, d, _, v, rfl, e1, l', qq c' v d' R'.ofE (TA1.go (R1.toE _) G'.go) (G'.σ.trans eσ) r' p'⟩
def gBinT (f : D → D → Option W) (g1 g2 : GX) : GX := fun s Φ => g1 s fun w1 s1 => ∃ d, w1 = .dat d ∧ g2 s1 fun w2 s2 => ∃ e z, rd w2 s2 = some e ∧ f d e = some (.dat z) ∧ Φ (.dat z) s2
theorem set_bin {r : R2} {f : D → D → Option W} {t1 t2 : TE} {g1 g2 : GX} (ho : OpS K r f) (h1 : SET K T q t1 g1) (h2 : SE K t2 g2) : SET K T q (tOp r t1 t2) (gBinT f g1 g2) := by
  intro F hK c Φ Q R TA p qq
  refine h1 F hK c _ _ R TA p fun c1 v d R1 TA1 e1 r1 p1 => ?_
  obtain ⟨d', ed, p1⟩ := p1
  cases ed
  refine h2.run hK e1 R1 p1 fun c2 v2 w2 R2 G2 D2 p2 => ?_
  obtain ⟨e, z, k1, k2, p3⟩ := p2
  refine ho F hK c2 _ _ d e (.dat z) _ R2 (.inl (r1.ext G2.go.b)) (rd_ok R2 D2 k1) k2 fun c3 v3 R3 G3 es D3 => ?_
  exact qq c3 v3 z R3 ((TA1.go R1 G2.go).go R2 G3.go) (G3.σ.trans (G2.σ.trans e1)) D3 (es ▸ p3)
/-- a statement that may leave the table grown -/
def SST (K : Bd) (T : Addr) (q : Str) (t : TS) (g : GS) : Prop := ∀ F : Fx, F.bd = K → ∀ (c : Cf) (E : Ends) (N : Stt → Prop) (Rt : W → Stt → Prop), Rep F c → TabA c T q → g c.s { nx := N, rt := Rt } → (∀ c', Rep F c' → TabA c' T q → N c'.s → E.nx c'.σ c'.H) → (∀ c' v w H0, Rep F c' → Den F H0 c' v w → Rt w c'.s → E.rt v c'.H) → t E c.σ c.H
theorem sst_of {t : TS} {g : GS} (h : SS K t g) : SST K T q t g := fun F hK c E N Rt R TA p q1 q2 =>
  h F hK c E _ R p ⟨fun c' R' G' => q1 c' R' (TA.go R G'), fun c' v w R' _ D' => q2 c' v w _ R' D', fun _ _ _ z => z.elim, fun _ _ _ z => z.elim, fun _ _ _ _ _ _ _ _ _ _ _ z => z.elim⟩
theorem sst_seq {t u : TS} {a b : GS} (h1 : SST K T q t a) (h2 : SST K T q u b) : SST K T q (tSeq t u) (gsSeq a b) := fun F hK c E N Rt R TA p q1 q2 =>
  h1 F hK c _ _ _ R TA p (fun c' R' TA' p' => h2 F hK c' E N Rt R' TA' p' q1 q2) q2
def gsIfT (g : GX) (a b : GS) : GS := fun s De => g s fun w s1 => ∃ k, w = .dat (.bl k) ∧ if k = true then a s1 De else b s1 De
theorem sst_if {t : TE} {u1 u2 : TS} {g : GX} {a b : GS} (h : SET K T q t g) (h1 : SST K T q u1 a) (h2 : SST K T q u2 b) : SST K T q (tIfS (tTest t) u1 u2) (gsIfT g a b) := by
  intro F hK c E N Rt R TA p q1 q2
  refine h F hK c _ _ R TA p fun c' v d R' TA' e' r' p' => ?_
  obtain ⟨k, ed, p'⟩ := p'
  cases ed
  refine ⟨k, r'.bl_of, ?_⟩
  cases k with
  | true =>
    have := h1 F hK c' E N Rt R' TA' p' q1 q2
    rw [e'] at this
    exact this
  | false =>
    have := h2 F hK c' E N Rt R' TA' p' q1 q2
    rw [e'] at this
    exact this
theorem sst_ret {t : TE} {g : GX} (h : SET K T q t g) : SST K T q (tRet t) (gsRet g) := fun F hK c E N Rt R TA p q1 q2 =>
  h F hK c _ _ R TA p fun c' v d R' _ _ r' p' => q2 c' v (.dat d) c'.H R' r' p'
end
theorem den_bl {F : Fx} {c : Cf} {H0 : Hp} {v : V} {w : W} {b : Bool} {s' : Stt} (R : Rep F c) (h : Den F H0 c v w) (e : frz w c.s = some (.bl b, s')) : v = .bl b := by
  cases w with
  | dat d =>
    simp only [frz, Option.some.injEq, Prod.mk.injEq] at e
    rw [e.1] at h
    exact Rp.bl_of h
  | loc i =>
    obtain ⟨h1, en, h2⟩ := h
    simp only [frz, h2] at e
    cases en with
    | val d =>
      simp only [Option.some.injEq, Prod.mk.injEq] at e
      obtain ⟨u, q1, q2⟩ := R.at_ i _ h2
      rw [h1] at q1
      cases q1
      rw [e.1] at q2
      exact Rp.bl_of q2
    | _ => simp at e
  | new ds => simp [frz] at e
theorem top_runT {K : Bd} {T : Addr} {q : Str} {t : TS} {g : GS} (ss : SST K T q t g) {n : Nat} {b c : Addr} {ms : List Int} {H : Hp} {σ : L2.St} {Q : VK} (hB : BagAt H b c ms 0) (hT : LamX.TabS H T q) (e1 : σ[1]? = some (some (.ref b))) (el : σ.length = n + 2)
    (hg : g ⟨none :: some .bag :: List.replicate n none, 0⟩ (retD fun d => d = .bl true)) (hQ : ∀ H', Q (.bl true) H') : t { nx := fun _ H' => Q .non H', rt := Q } σ H := by
  have at0 : ∀ (i : Nat) (e : En), (none :: some En.bag :: List.replicate n none)[i]? = some (some e) → i = 1 ∧ e = .bag := by
    intro i e h
    match i, h with
    | 0, h => cases h
    | 1, h => exact ⟨rfl, (Option.some.inj (Option.some.inj h)).symm⟩
    | i + 2, h =>
      have h' : (List.replicate n (none : Option En))[i]? = some (some e) := h
      rw [List.getElem?_replicate] at h'
      split at h' <;> cases h'
  let s0 : Stt := ⟨none :: some .bag :: List.replicate n none, 0⟩
  let B : Hp := fun a => if a = b ∨ a = c ∨ a = T then none else H a
  have noOwn : ∀ (i : Nat) (e : En), s0.r[i]? = some (some e) → e.isOwn = true → False := by
    intro i e h o
    obtain ⟨_, rfl⟩ := at0 i e h
    cases o
  have Bn : ∀ {a}, a = b ∨ a = c ∨ a = T → B a = none := fun {a} z => if_pos z
  have Bs : ∀ {a}, ¬ (a = b ∨ a = c ∨ a = T) → B a = H a := fun {a} z => if_neg z
  have xB : Ext B H := by
    intro a o h
    by_cases z : a = b ∨ a = c ∨ a = T
    · rw [Bn z] at h
      cases h
    · rw [← Bs z]
      exact h
  obtain ⟨t0, r0, hb, hc, hrest⟩ := id hB
  have R0 : Rep ⟨K, b, c, ms, true⟩ ⟨B, H, σ, s0⟩ := by
    refine ⟨xB, ?_, fun i e h => ?_, fun i j ei ej l h1 o1 _ _ _ _ => (noOwn i ei h1 o1).elim, fun _ => ⟨hB, Bn (.inl rfl), Bn (.inr (.inl rfl))⟩⟩
    · show σ.length = (none :: some En.bag :: List.replicate n none).length
      rw [el]
      simp
    · obtain ⟨rfl, rfl⟩ := at0 i e h
      exact ⟨rfl, e1⟩
  obtain ⟨ps, t1, t2, t3⟩ := hT
  have TA : TabA ⟨B, H, σ, s0⟩ T q := by
    refine ⟨Bn (.inr (.inr rfl)), ps, t1, t2, fun pos cv e => ?_⟩
    obtain ⟨a, e2, e3⟩ := t3 pos cv e
    refine ⟨a, e2, ?_⟩
    show B a = _
    rw [Bs ?_]
    · exact e3
    · rintro (z | z | z)
      · rw [z, hb] at e3; cases e3
      · rw [z, hc] at e3; cases e3
      · rw [z, t1] at e3; cases e3
  refine ss ⟨K, b, c, ms, true⟩ rfl ⟨B, H, σ, s0⟩ _ _ _ R0 TA hg (fun c' R' TA' p => ?_) (fun c' v w H0 R' D' p => ?_)
  · cases p
  · obtain ⟨d, s', e, rfl⟩ := p
    rw [den_bl R' D' e]
    exact hQ _
end DL
set_option maxHeartbeats 1000000
/-! x(lambda: body), x a def of the module that a head tells of. -/
namespace DL
open PySem PySem.Spec PySem.Calls PyProof.Rows L2 Ax
theorem pe_lamD {X : Cx} {TT : (XK → Hp → VK → Prop) → Hp → VK → Prop} {x a q : Str} {g c T : Addr} {k : Nat} {pg : Arguments} {bg : List Stmt} {sg : Scope} {fd : FuncData} {Ng : List Str} {params : Arguments} {body : Expr} {scope : Scope} {t : XK → TE} {p lpos pos : Pos}
    (F : FunD X.K x x pg bg sg [] [] g fd) (hb : L2.Binds X.K fd [a] []) (hm : X.mg x = some (.ref g)) (hg : Gl X x) (Sg : FnScope Ng [a] sg) (hN : Ng[0]? = some a) (hv : Vis sg a) (hG : ∀ cdg, LamX.GivesTo X Ng x sg g cdg bg a q TT)
    (TB : LamX.TabB X.base X.mg c T) (hc : X.env.code = .ref c) (hq : X.env.qual ++ "<lambda>" = q) (hr : Room (k + 2) X.A) (L : LamX.LamS X.env.scope scope) (hdef : defaultsOf params X.env = ([], []))
    (hbind : ∀ (q : Str) (cl : List (Str × Addr)) (pm cv ctv : Value), bindArgs (PySem.W.kla_fn "<lambda>" q params body scope cl pm cv ctv) ⟨[], []⟩ = pure [])
    (hbody : ∀ (A : Around) (outer : List Env) (s : Shared) (H : Hp) (E : XK) (f c' : Addr), Room k (A.deeper (LamX.lamEnv X scope s.heap.objs.size f c')) → PE (LamX.lamCx X A outer s H E scope f c') body (t E))
    (d1 : (x == ("__debug__" : Str)) = false := by decide) (d2 : (a == ("__debug__" : Str)) = false := by decide) (d3 : (a == ("__classdict__" : Str)) = false := by decide) :
    PE X (.Call (.Name x p) [.Lambda params body scope lpos] [] pos) (LamX.tLam [(T, q)] TT t) := by
  obtain ⟨oc, od, dV, kV, doc, pm, an, cdv, ct, osl, rfl, lk, hcd, _, _⟩ := id F.ex
  subst hq
  exact LamX.pe_lamcall hg hm F.kp lk hcd hb Sg hN hv (hG cdv) TB hc List.mem_cons_self (fun z hz _ => by rw [List.mem_singleton.mp hz]) hr L hdef hbind hbody d1 d2 d3
end DL
set_option maxHeartbeats 1000000
/-! One of two readings, chosen where it is known what stands there; texts as they are walked and asked; lists of one's own as they are set and lengthened; max. -/
namespace DL
open PySem PySem.Spec PyProof.Rows L2 Ax
/-! ### one of two readings -/
theorem pi_or {X : Cx} {tg it : Expr} {w1 w2 : TI} (h1 : PI X tg it w1) (h2 : PI X tg it w2) : PI X tg it (fun σ H R => w1 σ H R ∨ w2 σ H R) := ⟨fun pins s σ H R I h => h.elim (h1.run pins s σ H R I) (h2.run pins s σ H R I)⟩
theorem pg_or {X : Cx} {tg : Expr} {t1 t2 : TG} (h1 : PG X tg t1) (h2 : PG X tg t2) : PG X tg (fun v σ H Q => t1 v σ H Q ∨ t2 v σ H Q) := ⟨fun pins s σ H v u Q I r h => h.elim (h1.run pins s σ H v u Q I r) (h2.run pins s σ H v u Q I r)⟩
theorem pe_or2 {X : Cx} {e : Expr} {t1 t2 : TE} (h1 : PE X e t1) (h2 : PE X e t2) : PE X e (fun σ H Q => t1 σ H Q ∨ t2 σ H Q) := ⟨fun pins s σ H Q I h => h.elim (h1.run pins s σ H Q I) (h2.run pins s σ H Q I)⟩
section
variable {K : Bd}
def giOr (g1 g2 : GI) : GI := fun s Φ => g1 s Φ ∨ g2 s Φ
theorem si_or {w1 w2 : TI} {g1 g2 : GI} (h1 : SI K w1 g1) (h2 : SI K w2 g2) : SI K (fun σ H R => w1 σ H R ∨ w2 σ H R) (giOr g1 g2) := fun F hK c Φ Rr R p q => p.imp (fun p => h1 F hK c Φ Rr R p q) (fun p => h2 F hK c Φ Rr R p q)
def gOrX (g1 g2 : GX) : GX := fun s Φ => g1 s Φ ∨ g2 s Φ
theorem se_or2 {t1 t2 : TE} {g1 g2 : GX} (h1 : SE K t1 g1) (h2 : SE K t2 g2) : SE K (fun σ H Q => t1 σ H Q ∨ t2 σ H Q) (gOrX g1 g2) := fun F hK c Φ Q R p q => p.imp (fun p => h1 F hK c Φ Q R p q) (fun p => h2 F hK c Φ Q R p q)
/-! ### for c in text -/
def signsD (x : Str) : List D := x.cps.toList.map fun c => .str ⟨#[c]⟩
def giStr (g : GX) : GI := fun s Φ => g s fun w s1 => ∃ x, rd w s1 = some (.str x) ∧ Φ (signsD x) s1
theorem wd_str {F : Fx} {B : Hp} (x : Str) : WalkD F B (Its x) (signsD x) := by
  have hl : (signsD x).length = x.cps.size := by simp [signsD]
  refine ⟨_, by rw [hl]; exact walk_str.mono (fun H e => trivial) fun _ _ _ _ _ _ y => y, fun i v c H' R x0 hi y => ?_⟩
  obtain ⟨rfl, u, hu, rfl⟩ := y
  refine ⟨c, .str ⟨#[u]⟩, rfl, rfl, rfl, R, Go.rfl', ?_, .str _⟩
  unfold signsD
  rw [List.getElem?_map]
  have : x.cps.toList[i]? = some u := by simpa using hu
  rw [this]
  rfl
theorem si_str {t : TE} {g : GX} (h : SE K t g) : SI K (iStr t) (giStr g) := by
  intro F hK c Φ Rr R p q
  refine h F hK c _ _ R p fun c1 v w R1 G1 D1 p1 => ?_
  obtain ⟨x, e, p2⟩ := p1
  exact ⟨x, (rd_ok R1 D1 e).str, q c1 _ _ R1 G1 (wd_str x) p2⟩
theorem EvI.str {s : Stt} {g : GX} {w : W} {x : Str} (h : Ev g s w) (r : rd w s = some (.str x)) : EvI (giStr g) s (signsD x) := fun Φ q => h _ ⟨x, r, q⟩
/-! ### c in text -/
def fInS : D → D → Option W
  | .str x, .str z => match x.cps.toList with
    | [c] => some (.dat (.bl (decide (c ∈ z.cps.toList))))
    | _ => none
  | _, _ => none
def fNotInS : D → D → Option W
  | .str x, .str z => match x.cps.toList with
    | [c] => some (.dat (.bl (!decide (c ∈ z.cps.toList))))
    | _ => none
  | _, _ => none
theorem one_sign {x : Str} {c : Nat} (e : x.cps.toList = [c]) : x = ⟨#[c]⟩ := by
  cases x with
  | mk a =>
    congr 1
    exact Array.toList_inj.mp (by simpa using e)
theorem os_inS : OpS K rInS fInS := by
  intro F hK c x y d e w Q R hx hy hf q
  cases d with
  | str u => cases e with
    | str z =>
      simp only [fInS] at hf
      split at hf
      · rename_i n en
        cases Option.some.inj hf
        rw [one_sign en] at hx
        unfold rInS
        exact ⟨n, z, hx.str, hy.str, q c _ R GoE.rfl' rfl (Rp.bl _)⟩
      · cases hf
    | _ => cases hf
  | _ => cases hf
theorem os_notInS : OpS K rNotInS fNotInS := by
  intro F hK c x y d e w Q R hx hy hf q
  cases d with
  | str u => cases e with
    | str z =>
      simp only [fNotInS] at hf
      split at hf
      · rename_i n en
        cases Option.some.inj hf
        rw [one_sign en] at hx
        unfold rNotInS
        exact ⟨n, z, hx.str, hy.str, q c _ R GoE.rfl' rfl (Rp.bl _)⟩
      · cases hf
    | _ => cases hf
  | _ => cases hf
def fInA : D → D → Option W := orF fIn fInS
def fNotInA : D → D → Option W := orF fNotIn fNotInS
/-! ### l[i] = x, l a list of one's own -/
def gsPutI (i : Nat) (ge gk : GX) : GS := fun s De => ge s fun w s1 => ∃ d s2, frz w s1 = some (d, s2) ∧ (∃ ds, s2.r[i]? = some (some (.own ds))) ∧ gk s2 fun wk s3 => ∃ (j : Int) (n : Nat) (ds : List D), rd wk s3 = some (.int j) ∧ s3.r[i]? = some (some (.own ds)) ∧ ixN ds.length j = some n ∧ De.nx (s3.put i (.own (ds.set n d)))
theorem ss_putI {i : Nat} {t tk : TE} {ge gk : GX} (h1 : SE K t ge) (h2 : SE K tk gk) : SS K (tAsg t (gSub (tVar i) tk rSetL)) (gsPutI i ge gk) := by
  intro F hK c E De R p ok
  subst hK
  refine h1 F rfl c _ _ R p fun c1 v w R1 G1 D1 p1 => ?_
  obtain ⟨d, s2, e1, ⟨ds0, e0⟩, p2⟩ := p1
  obtain ⟨c2, b1, b2, b3, x2, R2, G2, r⟩ := frz_ok R1 G1 D1 e1
  rw [← b2] at e0 p2
  obtain ⟨l, o0, q1, q2, ⟨vs0, rfl, _⟩, _⟩ := R2.at_ i _ e0
  rw [← b1]
  refine ⟨.ref l, by rw [← G2.σ]; exact q1, ?_⟩
  refine h2.run rfl G2.σ R2 p2 fun c3 vk wk R3 G3 D3 p3 => ?_
  obtain ⟨j, n, ds, e3, e4, hj, p4⟩ := p3
  have ej := (rd_ok R3 D3 e3).int
  subst ej
  have hσ : c3.σ[i]? = some (some (.ref l)) := by rw [G3.σ]; exact q1
  obtain ⟨l', o2, y1, y2, ⟨vs, rfl, y3⟩, y4, y5⟩ := R3.at_ i _ e4
  rw [hσ] at y1
  cases y1
  obtain ⟨R4, G4⟩ := R3.updE (e' := .own (ds.set n d)) (o' := .lst (vs.set n v)) e4 rfl hσ ⟨_, rfl, RpA.set (r.ext G3.go.b) n y3⟩
  refine ⟨l, vs, j, n, rfl, rfl, y2, by rw [y3.len]; exact hj, ?_⟩
  exact ok.nxE R4 ((G2.trans G3).trans G4) p4
/-! ### l.extend(xs), xs a new list -/
def gsExt (i : Nat) (g : GX) : GS := fun s De => (∃ ds, s.r[i]? = some (some (.own ds))) ∧ g s fun w s1 => ∃ es ds, w = .new es ∧ s1.r[i]? = some (some (.own ds)) ∧ ds.length + es.length ≤ 1000000 ∧ De.nx (s1.put i (.own (ds ++ es)))
theorem ss_ext {i : Nat} {t : TE} {g : GX} (h : SE K t g) : SS K (tDrop (tBM K "list" rExtend (tVar i) (tCons t tNil))) (gsExt i g) := by
  intro F hK c E De R p ok
  obtain ⟨⟨ds0, e0⟩, p⟩ := p
  obtain ⟨l, o0, q1, q2, ⟨vs0, rfl, _⟩, _⟩ := R.at_ i _ e0
  subst hK
  refine ⟨.ref l, q1, .inl ⟨rfl, vs0, SqL.of q2⟩, ?_⟩
  refine h.run rfl rfl R p fun c1 v w R1 G1 D1 p1 => ?_
  obtain ⟨es, ds, rfl, e2, hl, p2⟩ := p1
  obtain ⟨b, zs, rfl, z1, z2, z3, z4, z5, z6⟩ := D1
  have hσ : c1.σ[i]? = some (some (.ref l)) := by rw [G1.σ]; exact q1
  obtain ⟨l', o2, y1, y2, ⟨vs, rfl, y3⟩, y4, y5⟩ := R1.at_ i _ e2
  rw [hσ] at y1
  cases y1
  obtain ⟨R3, G3⟩ := R1.updE (e' := .own (ds ++ es)) (o' := .lst (vs ++ zs)) e2 rfl hσ ⟨_, rfl, y3.app z2⟩
  refine ⟨l, b, vs, zs, rfl, rfl, y2, z1, by rw [y3.len, z2.len, sizeLine_eq]; omega, ?_⟩
  exact ok.nxE R3 (G1.trans G3) p2
/-! ### max(ns) -/
def maxL : List Int → Int
  | [] => 0
  | [x] => x
  | x :: y :: l => max x (maxL (y :: l))
theorem maxL_ge : ∀ {l : List Int} {y : Int}, y ∈ l → y ≤ maxL l
  | [x], y, h => by rw [List.mem_singleton.mp h]; exact Int.le_refl _
  | x :: z :: l, y, h => by
    rcases List.mem_cons.mp h with rfl | h
    · exact Int.le_max_left _ _
    · exact Int.le_trans (maxL_ge h) (Int.le_max_right _ _)
theorem maxL_mem : ∀ {l : List Int}, l ≠ [] → maxL l ∈ l
  | [x], _ => List.mem_cons_self
  | x :: z :: l, _ => by
    show max x (maxL (z :: l)) ∈ _
    by_cases c : x ≤ maxL (z :: l)
    · rw [Int.max_eq_right c]; exact List.mem_cons_of_mem _ (maxL_mem (fun q => nomatch q))
    · rw [Int.max_eq_left (by omega)]; exact List.mem_cons_self
def fMax : List D → Option W
  | [.lst ds] => match allI ds with
    | some ns => if ns = [] then none else some (.dat (.int (maxL ns)))
    | none => none
  | _ => none
theorem maxL_eq {l : List Int} {m : Int} (h : m ∈ l) (g : ∀ y, y ∈ l → y ≤ m) : m = maxL l := by
  have h1 := maxL_ge h
  have h2 := g _ (maxL_mem (fun z => by rw [z] at h; cases h))
  omega
theorem cs_max : ClS K (rMax K) fMax := by
  intro F hK c xs ds w Q R hx hf q
  subst hK
  cases hx with
  | nil => cases hf
  | @cons x d xs ds h t =>
    cases t with
    | cons _ _ => cases d <;> cases hf
    | nil =>
      cases d with
      | lst ds =>
        simp only [fMax] at hf
        split at hf
        · rename_i ns e1
          split at hf
          · cases hf
          · rename_i hne
            cases Option.some.inj hf
            obtain ⟨a, vs, rfl, h1, h2⟩ := h.lst R
            refine ⟨a, ns, rfl, by rw [← allI_vs h2 e1]; exact SqL.of h1, List.length_pos_iff.mpr hne, fun m hm hg => ?_⟩
            rw [maxL_eq hm hg]
            exact q c _ R GoE.rfl' rfl (Rp.int _)
        · cases hf
      | _ => cases hf
end
end DL
set_option maxHeartbeats 2000000
/-! Dicts with nested keys as data: comprehensions, len. -/
namespace DL
open PySem PySem.Spec PyProof.Rows L2 Ax
section
variable {J : It} {n : Nat} {G : Hp → Prop} {Y : Nat → Hp → V → Hp → Prop}
theorem dc_it (w : Walk J n G Y) {P : Program} {wd : World} {K : PySem.W.Frag} {g : TG} {tt : TT} {tk tv : TE} {vs : List Nat} {σ : L2.St} {H1 : Hp} {a : Addr} {Qd : Hp → Prop} (I : Nat → Hp → Prop) (i0 : I 0 (upd H1 a (NdO P wd a [])))
    (hG : ∀ i H, i ≤ n → I i H → G H)
    (hs : ∀ i x H H', i < n → I i H → Y i H x H' → g x (wipe σ vs) H' fun σ2 H2 => wipe σ2 vs = wipe σ vs ∧ tt σ2 H2 fun b H3 =>
      if b = true then tk σ2 H3 fun y H4 => tv σ2 H4 fun z H5 => ∃ (t : Addr) (k : NK) (kvs : Kvs), y = .ref t ∧ Dp K H5 (.ref t) (nkD k) ∧ k.depth ≤ 8 ∧ NdAt K P wd H5 a kvs ∧ H5 a = some (NdO P wd a kvs) ∧ kvs.length < sizeLine ∧ I (i + 1) (upd H5 a (NdO P wd a (putN kvs k t z))) else I (i + 1) H3)
    (hd : ∀ H, I n H → Qd H) :
    ∃ W : Nat → Nat → Hp → Prop, (∃ m, W 0 m (upd H1 a (NdO P wd a []))) ∧ ∀ i m H, W i m H → (J.stop i H ∧ Qd H) ∨ (J.go i H ∧ ∃ Nx : Hp → Prop, (∀ H', Nx H' → ∃ m', m' < m ∧ W (i + 1) m' H') ∧ ∀ x H', J.yld i H x H' → g x (wipe σ vs) H' fun σ2 H2 => wipe σ2 vs = wipe σ vs ∧ tt σ2 H2 fun b H3 =>
      if b = true then tk σ2 H3 fun y H4 => tv σ2 H4 fun z H5 => ∃ (t : Addr) (k : NK) (kvs : Kvs), y = .ref t ∧ Dp K H5 (.ref t) (nkD k) ∧ k.depth ≤ 8 ∧ NdAt K P wd H5 a kvs ∧ H5 a = some (NdO P wd a kvs) ∧ kvs.length < sizeLine ∧ Nx (upd H5 a (NdO P wd a (putN kvs k t z))) else Nx H3) := by
  refine ⟨fun i m H => i ≤ n ∧ m = n - i ∧ I i H, ⟨n, Nat.zero_le _, rfl, i0⟩, ?_⟩
  rintro i m H ⟨hi, hm, hI⟩
  rcases Nat.lt_or_ge i n with c | c
  · refine .inr ⟨w.goes i H c (hG i H hi hI), I (i + 1), fun H' h => ⟨n - (i + 1), by omega, c, rfl, h⟩, fun x H' y => hs i x H H' c hI (w.yields i H x H' c (hG i H hi hI) y)⟩
  · have e : i = n := by omega
    subst e
    exact .inl ⟨w.stops H (hG _ H hi hI), hd H hI⟩
end
/-- entries of a dict as data -/
theorem kt_dnk {K : Bk} {B : Hp} : ∀ {ks : Kvs} {kvs : List (NK × D)}, Paired (KtR K B) ks kvs → ks = (kvs.map (·.1)).zip ((ks.map (·.2.1)).zip (ks.map (·.2.2))) ∧ RpA K B ((ks.map (·.2.1)).map V.ref) (dNs (kvs.map (·.1))) ∧ RpA K B (ks.map (·.2.2)) (kvs.map (·.2)) ∧ ∀ k ∈ kvs.map (·.1), k.depth ≤ 8
  | _, _, .nil => ⟨rfl, .nil, .nil, fun _ h => nomatch h⟩
  | _, _, .cons (a := p) (b := q) h t => by
    obtain ⟨h1, h2, h3, h4⟩ := h
    obtain ⟨t1, t2, t3, t4⟩ := kt_dnk t
    refine ⟨?_, ?_, .cons h4 t3, ?_⟩
    · simp only [List.map_cons, List.zip_cons_cons]
      rw [← t1, ← h1]
    · simp only [List.map_cons, dNs]
      exact .cons h3 t2
    · intro k hk
      rcases List.mem_cons.mp hk with z | z
      · rw [z]; show NestedKey.depth q.1 ≤ 8; rw [← h1]; exact h2
      · exact t4 k z
theorem dnk_rp {K : Bk} {B : Hp} {l : Addr} {ks : Kvs} {kvs : List (NK × D)} (h : Paired (KtR K B) ks kvs) (b : B l = none) : Rp K (upd B l (NdO K.P K.w l ks)) (.ref l) (.dnk (kvs.map (·.1)) (kvs.map (·.2))) := by
  obtain ⟨t1, t2, t3, t4⟩ := kt_dnk h
  have hl := Paired.length h
  refine .dnk (as := ks.map (·.2.1)) (xs := ks.map (·.2.2)) (by rw [upd_same, ← t1]) (by simp [hl]) (by simp [hl]) t4 (t2.ext (Ext.upd b)) (t3.ext (Ext.upd b))
section
variable {F : Fx} {c c0 : Cf}
/-- a thing beside is told for good -/
theorem Rep.tell (R : Rep F c) (g : GoE F c0 c) {l : Addr} {o : HO} (h2 : c.H l = some o) (h4 : c.B l = none) (h5 : ¬ Own c l) (h6 : F.on = true → l ≠ F.b ∧ l ≠ F.c) (h7 : c0.H l = none) :
    Rep F { c with B := upd c.B l o } ∧ GoE F c0 { c with B := upd c.B l o } := by
  have xB : Ext c.B (upd c.B l o) := Ext.upd h4
  refine ⟨⟨?_, R.len, ?_, R.sep, ?_⟩, ⟨⟨g.go.b.trans xB, g.go.fr, ?_, fun a h => g.go.ow a (h.ofEq rfl rfl), g.go.dom⟩, g.σ, g.kp⟩⟩
  · intro a u e
    have e' : (upd c.B l o) a = some u := e
    show c.H a = some u
    by_cases z : a = l
    · rw [z, upd_same] at e'
      rw [z, h2]; exact e'
    · rw [upd_ne z] at e'
      exact R.le a u e'
  · intro i e h
    have q := R.at_ i e h
    cases e with
    | val d => obtain ⟨v, q1, q2⟩ := q; exact ⟨v, q1, q2.ext xB⟩
    | bag => exact q
    | _ =>
      obtain ⟨l', vs', q1, q2, q3, q4, q5⟩ := q
      refine ⟨l', vs', q1, q2, q3.ext xB, ?_, q5⟩
      show (upd c.B l o) l' = none
      rw [upd_ne (fun z => h5 ⟨i, _, h, rfl, by rw [← z]; exact q1⟩)]
      exact q4
  · intro on
    obtain ⟨q1, q2, q3⟩ := R.bag on
    refine ⟨q1, ?_, ?_⟩
    · show (upd c.B l o) F.b = none
      rw [upd_ne (h6 on).1.symm]; exact q2
    · show (upd c.B l o) F.c = none
      rw [upd_ne (h6 on).2.symm]; exact q3
  · intro a e n
    have e' : (upd c.B l o) a ≠ none := e
    by_cases z : a = l
    · rw [z]; exact .inl h7
    · rw [upd_ne z] at e'
      exact g.go.nb a e' n
end
def loopD (f : D → Stt → Option Stt) (gc : GB) (gk gv : GX) (vs : List Nat) : List D → List (NK × D) → Stt → (List (NK × D) → Stt → Prop) → Prop
  | [], acc, s, Φ => Φ acc s
  | d :: ds, acc, s, Φ => ∃ s1, f d (s.wipe vs) = some s1 ∧ gc s1 fun b s2 => if b = true then gk s2 fun wk s3 => ∃ ks s4, frz wk s3 = some (dN (.tup ks), s4) ∧ (NestedKey.tup ks).depth ≤ 8 ∧ gv s4 fun w s5 => ∃ e s6, frz w s5 = some (e, s6) ∧ loopD f gc gk gv vs ds (putK acc (.tup ks) e) s6 Φ else loopD f gc gk gv vs ds acc s2 Φ
def gDcN (gi : GI) (f : D → Stt → Option Stt) (gc : GB) (gk gv : GX) (vs : List Nat) : GX := fun s Φ => gi s fun ds s1 => ds.length ≤ 1000000 ∧ loopD f gc gk gv vs ds [] s1 fun acc s2 => Φ (.dat (.dnk (acc.map (·.1)) (acc.map (·.2)))) (s1.back s2 vs)
theorem putK_len (kvs : List (NK × D)) (k : NK) (d : D) : (putK kvs k d).length ≤ kvs.length + 1 := by
  unfold putK
  split
  · simp
  · simp
section
variable {K : Bd}
theorem se_dcN {wi : TI} {tg : TG} {is vs : List Nat} {f : D → Stt → Option Stt} {tt : TT} {tk tv : TE} {gi : GI} {gc : GB} {gk gv : GX} (hi : SI K wi gi) (ht : ST K tg is f) (hc : SB K tt gc) (hk : SE K tk gk) (hv : SE K tv gv) (hsub : ∀ i ∈ is, i ∈ vs) :
    SE K (tDcN K K.P K.w wi tg tt tk tv vs) (gDcN gi f gc gk gv vs) := by
  intro F hK c Φ Q R p q
  subst hK
  refine hi.run rfl rfl R p fun c1 J ds R1 G1 Wd p1 => ?_
  obtain ⟨hlen, p1⟩ := p1
  intro D hD
  obtain ⟨Y, hw, hY⟩ := Wd.ex
  obtain ⟨Rw, Gw⟩ := R1.wipe vs
  have hσ1 : c1.σ = c.σ := G1.σ
  rw [← hσ1]
  have hDB : c1.B D = none := R1.notB hD
  refine dc_it hw (fun i H => ∃ (B : Hp) (s : Stt) (acc : Kvs) (accD : List (NK × DL.D)), H D = some (NdO F.P F.w D acc) ∧ Paired (KtR F.K B) acc accD ∧ accD.length ≤ i ∧ Rep F ⟨B, L2.del H D, L2.wipe c1.σ vs, s.wipe vs⟩ ∧ Go F ⟨c1.B, c1.H, L2.wipe c1.σ vs, c1.s.wipe vs⟩ ⟨B, L2.del H D, L2.wipe c1.σ vs, s.wipe vs⟩ ∧
    s.r.length = c1.s.r.length ∧ (∀ (j : Nat) (e : En), j ∉ vs → c1.s.r[j]? = some (some e) → ∃ e', s.r[j]? = some (some e')) ∧ loopD f gc gk gv vs (ds.drop i) accD s fun acc s2 => Φ (.dat (.dnk (acc.map (·.1)) (acc.map (·.2)))) (c1.s.back s2 vs)) ?_ ?_ ?_ ?_
  · refine ⟨c1.B, c1.s, [], [], upd_same, .nil, Nat.le_refl _, ?_, ?_, rfl, fun j e _ h => ⟨e, h⟩, p1⟩
    · rw [del_upd, del_none hD]; exact Rw
    · rw [del_upd, del_none hD]; exact Go.rfl'
  · rintro i H hi ⟨B, s, acc, accD, h1, h2, h3, R2, G2, _⟩
    exact (G2.b.trans R2.le).trans ext_del
  · rintro i x H H' hi ⟨B, s, acc, accD, h1, h2, h3, R2, G2, hl2, kp2, p2⟩ y
    have R3 : Rep F ⟨B, H, L2.wipe c1.σ vs, s.wipe vs⟩ := R2.hext ext_del
    obtain ⟨c4, d, eH4, es4, eσ4, R4, G4, hd, r⟩ := hY i x ⟨B, H, L2.wipe c1.σ vs, s.wipe vs⟩ H' R3 G2.b hi y
    have hdr : ds.drop i = d :: ds.drop (i + 1) := by
      rw [List.drop_eq_getElem_cons hi]
      have := List.getElem?_eq_getElem hi
      rw [hd] at this
      rw [← Option.some.inj this]
    rw [hdr] at p2
    obtain ⟨s1, e1, p3⟩ := p2
    have eσ4' : c4.σ = L2.wipe c1.σ vs := eσ4
    have notM : ¬ MutA F ⟨B, H, L2.wipe c1.σ vs, s.wipe vs⟩ D := fun m => by
      rcases m with m | ⟨m1, m2⟩
      · exact R2.notOwn (p := D) (show (L2.del H D) D = none from del_same) (m.ofEq rfl rfl)
      · exact (R2.notBag (p := D) (show (L2.del H D) D = none from del_same) m1).1 m2
    have hBD : B D = none := R2.notB (p := D) (show (L2.del H D) D = none from del_same)
    have fin : ∀ c8 : Cf, Rep F c8 → Go F ⟨B, H, L2.wipe c1.σ vs, s.wipe vs⟩ c8 → L2.wipe c8.σ vs = L2.wipe c1.σ vs → c8.H D = some (NdO F.P F.w D acc) ∧ Rep F ⟨c8.B, L2.del c8.H D, L2.wipe c1.σ vs, c8.s.wipe vs⟩ ∧ Go F ⟨c1.B, c1.H, L2.wipe c1.σ vs, c1.s.wipe vs⟩ ⟨c8.B, L2.del c8.H D, L2.wipe c1.σ vs, c8.s.wipe vs⟩ := by
      intro c8 R8 G8 eσ
      obtain ⟨Rv, Gv⟩ := R8.wipe vs
      rw [eσ] at Rv Gv
      have G9 := G8.trans Gv
      have h8 : c8.H D = some (NdO F.P F.w D acc) := G8.fr D _ h1 notM
      have nO : ¬ Own ⟨c8.B, c8.H, L2.wipe c1.σ vs, c8.s.wipe vs⟩ D := fun m => by
        rcases G9.ow D m with z | z
        · exact notM (.inl z)
        · have z' : H D = none := z
          rw [h1] at z'; cases z'
      have nB : c8.B D = none := by
        cases qB : c8.B D with
        | none => rfl
        | some o =>
          rcases G8.nb D (by rw [qB]; exact fun z => nomatch z) hBD with z | z
          · have z' : H D = none := z
            rw [h1] at z'; cases z'
          · exact absurd (.inl z) notM
      exact ⟨h8, Rv.del nB nO fun on => R2.notBag (p := D) (show (L2.del H D) D = none from del_same) on, G2.trans (G9.del notM)⟩
    rw [← eH4, ← eσ4']
    refine ht.run F rfl c4 x d s1 _ R4 r (by rw [es4]; exact e1) fun c5 R5 G5 es5 eH5 len5 out5 => ?_
    have w5 : L2.wipe c5.σ vs = L2.wipe c1.σ vs := by
      rw [wipe_same (σ := c4.σ) len5 fun j hj => out5 j fun z => hj (hsub j z), eσ4', wipe_wipe]
    have l5 : c5.σ.length = c1.s.r.length := by rw [len5, eσ4', wipe_length, R1.len]
    refine ⟨by rw [eσ4']; exact w5, ?_⟩
    have k1 := ht.keep _ _ _ e1
    have kp5 : ∀ (j : Nat) (e : En), j ∉ vs → c1.s.r[j]? = some (some e) → ∃ e', c5.s.r[j]? = some (some e') := by
      intro j e hj h
      obtain ⟨e', h'⟩ := kp2 j e hj h
      refine ⟨e', ?_⟩
      rw [es5, k1.2.2 j fun z => hj (hsub j z)]
      exact (wipeS_out hj).trans h'
    refine hc.run rfl rfl R5 (by rw [es5]; exact p3) fun c6 b R6 G6 p6 => ?_
    have G46 := (G4.trans G5).trans G6.go
    cases b with
    | true =>
      refine hk.run rfl G6.σ R6 p6 fun ca va wa Ra Ga Da pa => ?_
      obtain ⟨ks, s4, ek, hdep, pa⟩ := pa
      obtain ⟨cb, eHb, esb, eσb, xb, Rb, Gb, rb⟩ := frz_ok Ra Ga Da ek
      rw [← eHb]
      refine hv.run rfl (Gb.σ.trans G6.σ) Rb (by rw [esb]; exact pa) fun c7 v w R7 G7 D7 p7 => ?_
      obtain ⟨e, s6, ef, p8⟩ := p7
      obtain ⟨c8, eH8, es8, eσ8, x8, R8, G8, r8⟩ := frz_ok R7 G7 D7 ef
      have G68 := Gb.trans G8
      have w8 : L2.wipe c8.σ vs = L2.wipe c1.σ vs := by rw [G68.σ, G6.σ]; exact w5
      obtain ⟨f1, f2, f3⟩ := fin c8 R8 (G46.trans G68.go) w8
      rw [← eσ4'] at f2 f3
      have hp8 := Paired.imp' (fun (p : NK × Addr × V) (q : NK × DL.D) (h : KtR F.K B p q) => (⟨h.1, h.2.1, h.2.2.1.ext (G46.b.trans G68.go.b), h.2.2.2.ext (G46.b.trans G68.go.b)⟩ : KtR F.K c8.B p q)) h2
      obtain ⟨t, rfl, dk⟩ := key_dp R8 (.inl (rb.ext G8.go.b))
      have na := nd_at R8 f1 hp8
      have hl8 := kt_len h2
      rw [eH8] at f1 f2 f3 dk na
      refine ⟨t, .tup ks, acc, rfl, dk, hdep, na, f1, by rw [sizeLine_eq]; omega, c8.B, c8.s, putN acc (.tup ks) t v, putK accD (.tup ks) e, upd_same, kt_put hp8 (rb.ext G8.go.b) hdep r8, Nat.le_trans (putK_len _ _ _) (Nat.succ_le_succ h3), ?_, ?_, ?_, ?_, by rw [es8]; exact p8⟩
      · rw [del_upd]; exact f2
      · rw [del_upd]; exact f3
      · rw [← R8.len, G68.σ, G6.σ, l5]
      · intro j e hj h
        obtain ⟨e1, q1⟩ := kp5 j e hj h
        obtain ⟨e2, q2⟩ := G6.kp j e1 q1
        exact G68.kp j e2 q2
    | false =>
      have w6 : L2.wipe c6.σ vs = L2.wipe c1.σ vs := by rw [G6.σ]; exact w5
      obtain ⟨f1, f2, f3⟩ := fin c6 R6 G46 w6
      rw [← eσ4'] at f2 f3
      refine ⟨c6.B, c6.s, acc, accD, f1, Paired.imp' (fun (p : NK × Addr × V) (q : NK × DL.D) (h : KtR F.K B p q) => (⟨h.1, h.2.1, h.2.2.1.ext G46.b, h.2.2.2.ext G46.b⟩ : KtR F.K c6.B p q)) h2, by omega, f2, f3, by rw [← R6.len, G6.σ, l5], fun j e hj h => ?_, p6⟩
      obtain ⟨e1, q1⟩ := kp5 j e hj h
      exact G6.kp j e1 q1
  · rintro H ⟨B, s, acc, accD, h1, h2, h3, R2, G2, hl2, kp2, p2⟩
    rw [List.drop_length] at p2
    have wl : (s.wipe vs).r.length = c1.s.r.length := (wipeS_len s.r vs).trans hl2
    obtain ⟨R3, G3⟩ := R1.back (c1 := ⟨B, L2.del H D, L2.wipe c1.σ vs, s.wipe vs⟩) (vs := vs) wipe_wipe R2 (by
      show Go F _ ⟨B, L2.del H D, L2.wipe (L2.wipe c1.σ vs) vs, (s.wipe vs).wipe vs⟩
      rw [wipe_wipe, wipeStt]
      exact G2) wl
    have eb : c1.s.back (s.wipe vs) vs = c1.s.back s vs := by
      unfold Stt.back Stt.wipe
      simp only
      rw [backS_wipe _ _ _ hl2.symm]
    have R4 := R3.hext (H' := H) ext_del
    have G4 := G3.hext (H' := H) ext_del
    have hn : (L2.del H D) D = none := del_same
    have G5 : GoE F c ⟨B, H, c1.σ, c1.s.back (s.wipe vs) vs⟩ := ⟨G1.go.trans G4, hσ1, fun j e h => by
      obtain ⟨e1, q1⟩ := G1.kp j e h
      show ∃ e', (backS c1.s.r (s.wipe vs).r vs)[j]? = some (some e')
      by_cases z : j ∈ vs
      · rw [backS_in wl.symm z]; exact ⟨e1, q1⟩
      · rw [backS_out z]
        obtain ⟨e', q2⟩ := kp2 j e1 z q1
        exact ⟨e', (wipeS_out z).trans q2⟩⟩
    obtain ⟨R6, G6⟩ := R4.tell G5 h1 (R2.notB hn) (fun m => R3.notOwn (p := D) hn (m.ofEq rfl rfl)) (R2.notBag hn) (G1.go.hnone hD)
    have hw : Rp F.K (upd B D (NdO F.P F.w D acc)) (.ref D) (.dnk (accD.map fun x : NK × DL.D => x.1) (accD.map fun x : NK × DL.D => x.2)) := dnk_rp h2 (R2.notB hn)
    exact q ⟨upd B D (NdO F.P F.w D acc), H, c1.σ, c1.s.back (s.wipe vs) vs⟩ (.ref D) (.dat (.dnk (accD.map fun x : NK × DL.D => x.1) (accD.map fun x : NK × DL.D => x.2))) R6 G6 hw (by show Φ _ (c1.s.back (s.wipe vs) vs); rw [eb]; exact p2)
/-! ### len(d) -/
theorem dnk_keys {K : Bk} {B : Hp} : ∀ {as : List Addr} {ks : List NK} (xs : List V), RpA K B (as.map V.ref) (dNs ks) → ∀ p ∈ ks.zip (as.zip xs), Rp K B (.ref p.2.1) (dN p.1) ∧ p.1 ∈ ks
  | [], [], _, _, p, hp => by simp at hp
  | a :: as, k :: ks, [], h, p, hp => by simp at hp
  | a :: as, k :: ks, x :: xs, h, p, hp => by
    simp only [List.map_cons, dNs] at h
    cases h with
    | cons h1 h2 =>
      simp only [List.zip_cons_cons] at hp
      rcases List.mem_cons.mp hp with rfl | hp
      · exact ⟨h1, List.mem_cons_self⟩
      · obtain ⟨g1, g2⟩ := dnk_keys xs h2 p hp
        exact ⟨g1, List.mem_cons_of_mem _ g2⟩
  | a :: as, [], _, h, p, hp => by simp at hp
  | [], k :: ks, _, h, p, hp => by simp at hp
theorem ndAt_of {F : Fx} {c : Cf} {v : V} {ks : List NK} {ds : List D} (R : Rep F c) (h : Rq F c v (.dnk ks ds)) : ∃ a es, v = .ref a ∧ NdAt F.K F.P F.w c.H a es ∧ es.length = ks.length := by
  rcases h with h | ⟨l, vs, ds', rfl, e, _⟩
  · cases h with
    | @dnk a ks as xs ds h1 h2 h3 h4 h5 h6 =>
      refine ⟨a, _, rfl, ⟨.inl (R.le _ _ h1), fun p hp => ?_⟩, by simp [h2, h3]⟩
      obtain ⟨g1, g2⟩ := dnk_keys xs h5 p hp
      have := g1.dp (pure_dN p.1)
      rw [toP_dN] at this
      exact ⟨dp_ext R.le this, h4 _ g2⟩
  · cases e
def fLenN : List D → Option W
  | [.dnk ks ds] => some (.dat (.int (ks.length : Nat)))
  | _ => none
theorem cs_lenN : ClS K (rLenN K K.P K.w) fLenN := by
  intro F hK c xs ds w Q R hx hf q
  subst hK
  cases hx with
  | nil => cases hf
  | @cons x d xs ds h t =>
    cases t with
    | cons _ _ => cases d <;> cases hf
    | nil =>
      cases d with
      | dnk ks es =>
        cases Option.some.inj hf
        obtain ⟨a, kv, rfl, hn, hl⟩ := ndAt_of R h
        exact ⟨a, kv, rfl, hn, by rw [hl]; exact q c _ R GoE.rfl' rfl (Rp.int _)⟩
      | _ => cases hf
end
end DL
set_option maxHeartbeats 1000000
/-! try: .. except C as e: return .. ; a second bag; values unpacked from a list or a tuple. -/
namespace DL
open PySem PySem.Spec PyProof.Rows L2 Ax
/-! ### try whose handler returns -/
/-- what a handler makes of the error it holds -/
abbrev HV := List Str → List D → Option D
def gsTryR (C : Str) (hv : HV) (g : GS) : GS := fun s De => g s { De with ex := fun C' ks ds => C' = C ∧ ∃ d, hv ks ds = some d ∧ ∀ s', De.rt (.dat d) s' }
def clR (K : PySem.W.Frag) (C : Str) (i : Nat) (ht : Addr → Value → Option Addr → TE) : List Cl := [⟨.ref (He.ga K C), i, fun a cls d => tRet (ht a cls d)⟩]
/-- the statement's reading: n slots -/
def tTryR (K : PySem.W.Frag) (C : Str) (i n : Nat) (ht : Addr → Value → Option Addr → TE) (tb : XK → TS) : TS := fun D σ H => ∃ Ech : XK, (∀ cls d (σ' : L2.St) H', Ech cls d H' → σ'.length = n → wCls K (fun _ _ _ _ => False) D (clR K C i ht) cls d σ' H') ∧ tb Ech D σ H
theorem ps_tryR {X : Cx} {body : List Stmt} {h0 : ExceptHandler} {pos : Pos} {C : Str} {i n : Nat} {ht : Addr → Value → Option Addr → TE} {tb : XK → TS} (hst : X.stack = X.env :: X.outer) (hfr : X.env.frame = some X.env.locals) (hN : X.N.Nodup) (hn : X.N.length = n)
    (hb : ∀ (W : WX) (E : XK) (pn : List (Addr × Obj)) (xe : Value → Shared → Prop), Takes (X.tr pn xe) W → (∀ cls d σ' H', E cls d H' → W cls d σ' H') → PSs (X.tr pn xe) body (tb E))
    (hh : ClsOk X [h0] (clR X.K C i ht)) : PS X (.Try body [h0] [] [] pos) (tTryR X.K C i n ht tb) := by
  refine ps_try_cls (tb := fun (W : WX) (D : Ends) (σ : L2.St) (H : Hp) => ∃ Ech : XK, (∀ cls d (σ' : L2.St) H', Ech cls d H' → σ'.length = n → W cls d σ' H') ∧ tb Ech D σ H) hst hfr hN LamX.takes0 (fun W pn xe tk _ => ?_) hh
  refine ⟨fun pins s' σ H' D I h' => ?_⟩
  obtain ⟨Ech, hW, h1⟩ := h'
  have tk2 : Takes (X.tr pn xe) (fun c d (σ : L2.St) H => σ.length = n → W c d σ H) := by
    have := takes_len tk
    rw [← hn]
    exact this
  exact (hb _ Ech pn xe tk2 fun cls d σ' H' e l => hW cls d σ' H' e l).run pins s' σ H' D I h1
/-- a handler's value is what hv says -/
def HOk (K : Bd) (C : Str) (i : Nat) (ht : Addr → Value → Option Addr → TE) (hv : HV) : Prop := ∀ F : Fx, F.bd = K → ∀ (c : Cf) (σ' : L2.St) (a dd : Addr) (ks : List Str) (vs : List V) (ds : List D) (d : D) (Q : VK), Rep F c → σ'[i]? = some (some (.ref a)) → c.H dd = some (.xd (ks.zip vs)) → vs.length = ks.length → RpA F.K c.B vs ds → hv ks ds = some d →
  (∀ c' v, Rep F c' → Go F c c' → Rp F.K c'.B v d → Q v c'.H) → ht a (.ref (He.ga K.K C)) (some dd) σ' c.H Q
theorem den_bd {F : Fx} {E : XK} {H0 : Hp} {c : Cf} {v : V} {w : W} (h : Den { F with bd := ⟨F.bd.P, F.bd.w, F.bd.K, E⟩ } H0 c v w) : Den F H0 c v w := by
  cases w <;> exact h
section
variable {K : Bd}
theorem ss_tryR {C : Str} {i n : Nat} {ht : Addr → Value → Option Addr → TE} {hv : HV} {tb : XK → TS} {g : GS} (hx : PySem.W.exmOne K.K (.ref (He.ga K.K C)) (.ref (He.ga K.K C)) = some true) (hi : i < n) (hh : HOk K C i ht hv) (hb : ∀ E, SS ⟨K.P, K.w, K.K, E⟩ (tb E) g) : SS K (tTryR K.K C i n ht tb) (gsTryR C hv g) := by
  intro F hK c E De R p ok
  subst hK
  refine ⟨fun cls d H' => ∃ (c' : Cf) (dd : Addr) (ks : List Str) (vs : List V) (ds : List D) (e : D), c'.H = H' ∧ Rep F c' ∧ Go F c c' ∧ cls = .ref (He.ga F.bd.K C) ∧ d = some dd ∧ c'.H dd = some (.xd (ks.zip vs)) ∧ vs.length = ks.length ∧ RpA F.K c'.B vs ds ∧ hv ks ds = some e ∧ ∀ s', De.rt (.dat e) s', ?_, ?_⟩
  · rintro cls d σ' H' ⟨c', dd, ks, vs, ds, e, rfl, R', G', rfl, rfl, h1, h2, h3, h4, h5⟩ hl
    refine ⟨true, hx, fun _ a ha => ?_, fun z => nomatch z⟩
    show ht a _ _ (σ'.set i (some (.ref a))) c'.H E.rt
    exact hh F rfl c' _ a dd ks vs ds e _ R' (List.getElem?_set_self (by omega)) h1 h2 h3 h4 fun c2 v R2 G2 r2 => ok.rt c2 v (.dat e) R2 (G'.trans G2) r2 (h5 _)
  · refine hb _ { F with bd := ⟨F.bd.P, F.bd.w, F.bd.K, _⟩ } rfl c E _ (R.toE _) p ⟨fun c' R' G' => ok.nx c' R'.ofE ⟨G'.b, G'.fr, G'.nb, G'.ow, G'.dom⟩, fun c' v w R' G' D' => ok.rt c' v w R'.ofE ⟨G'.b, G'.fr, G'.nb, G'.ow, G'.dom⟩ (den_bd D'), fun c' R' G' => ok.bk c' R'.ofE ⟨G'.b, G'.fr, G'.nb, G'.ow, G'.dom⟩, fun c' R' G' => ok.ct c' R'.ofE ⟨G'.b, G'.fr, G'.nb, G'.ow, G'.dom⟩, fun c' R' G' C' d ks vs ds h1 h2 h3 h4 => ?_⟩
    obtain ⟨rfl, e, h5, h6⟩ := h4
    exact ⟨c', d, ks, vs, ds, e, rfl, R'.ofE, ⟨G'.b, G'.fr, G'.nb, G'.ow, G'.dom⟩, rfl, rfl, h1, h2, h3, h5, h6⟩
end
/-! ### e.f, (None, e.f) in a handler -/
def hvF (f : Str) : HV := fun ks ds => (ks.zip ds).lookup f
theorem hok_f {K : Bd} {C f : Str} {i : Nat} : HOk K C i (fun a cls d => tXf a cls d (He.ga K.K C) f (tVar i)) (hvF f) := by
  intro F hK c σ' a dd ks vs ds d Q R h0 h1 h2 h3 h4 q
  obtain ⟨v, l, r⟩ := zip_lookup h3 h4
  exact ⟨.ref a, h0, rfl, rfl, dd, _, v, rfl, h1, l, q c v R Go.rfl' r⟩
def hvNF (f : Str) : HV := fun ks ds => ((ks.zip ds).lookup f).map fun d => .tup [.non, d]
theorem hok_nf {K : Bd} {C f : Str} {i : Nat} : HOk K C i (fun a cls d => tTup (tCons (tC .non) (tCons (tXf a cls d (He.ga K.K C) f (tVar i)) tNil))) (hvNF f) := by
  intro F hK c σ' a dd ks vs ds d Q R h0 h1 h2 h3 h4 q
  obtain ⟨d', e, rfl⟩ := Option.map_eq_some_iff.mp h4
  obtain ⟨v, l, r⟩ := zip_lookup h3 e
  refine ⟨.ref a, h0, rfl, rfl, dd, _, v, rfl, h1, l, Nat.le_of_ble_eq_true rfl, fun p hp => ?_⟩
  obtain ⟨c2, e1, _, R2, G2, r2⟩ := R.newT hp (.cons .non (.cons r .nil))
  rw [← e1]
  exact q c2 _ R2 G2.go r2
def hvFF (f g : Str) : HV := fun ks ds => match (ks.zip ds).lookup f, (ks.zip ds).lookup g with
  | some d, some e => some (.tup [d, e])
  | _, _ => none
theorem hok_ff {K : Bd} {C f g : Str} {i : Nat} : HOk K C i (fun a cls d => tTup (tCons (tXf a cls d (He.ga K.K C) f (tVar i)) (tCons (tXf a cls d (He.ga K.K C) g (tVar i)) tNil))) (hvFF f g) := by
  intro F hK c σ' a dd ks vs ds d Q R h0 h1 h2 h3 h4 q
  unfold hvFF at h4
  split at h4
  · rename_i d1 d2 e1 e2
    cases Option.some.inj h4
    obtain ⟨v, l, r⟩ := zip_lookup h3 e1
    obtain ⟨v2, l2, r2⟩ := zip_lookup h3 e2
    refine ⟨.ref a, h0, rfl, rfl, dd, _, v, rfl, h1, l, .ref a, h0, rfl, rfl, dd, _, v2, rfl, h1, l2, Nat.le_of_ble_eq_true rfl, fun p hp => ?_⟩
    obtain ⟨c2, e1, _, R2, G2, r2⟩ := R.newT hp (.cons r (.cons r2 .nil))
    rw [← e1]
    exact q c2 _ R2 G2.go r2
  · cases h4
/-! ### e is True, e is False -/
theorem op_isB {X : Cx} : OpR X (compareOp .Is) (fun x y H Q => ∃ a b, x = .bl a ∧ y = .bl b ∧ Q (.bl (decide (a = b))) H) := by
  intro pins s σ H x y v u Q I rx ry h
  obtain ⟨a, b, rfl, rfl, q⟩ := h
  obtain rfl : v = Value.bool a := rx
  obtain rfl : u = Value.bool b := ry
  exact PyProof.Rows.is_bool (fin_bl I q (by cases a <;> cases b <;> rfl))
def fIsB : D → D → Option W
  | .bl a, .bl b => some (.dat (.bl (decide (a = b))))
  | _, _ => none
theorem os_isB {K : Bd} : OpS K (fun x y H Q => ∃ a b, x = .bl a ∧ y = .bl b ∧ Q (.bl (decide (a = b))) H) fIsB := by
  intro F hK c x y d e w Q R hx hy hf q
  cases d with
  | bl a => cases e with
    | bl b =>
      cases Option.some.inj hf
      exact ⟨a, b, hx.bl, hy.bl, q c _ R GoE.rfl' rfl (Rp.bl _)⟩
    | _ => cases hf
  | _ => cases hf
/-! ### x, y = e, e a list or a tuple -/
section
variable {K : Bd}
def tgSeq (n : Nat) (g : List D → Stt → Option Stt) : D → Stt → Option Stt
  | .tup ds, s => if ds.length = n then g ds s else none
  | .lst ds, s => if ds.length = n then g ds s else none
  | _, _ => none
theorem st_seq {n : Nat} {u : TGs} {is : List Nat} {g : List D → Stt → Option Stt} (h : STs K u is g) : ST K (fun v σ H Q => L2.gTup K n u v σ H Q ∨ L2.gLst K n u v σ H Q) is (tgSeq n g) := by
  refine ⟨fun F hK c v d s' Q R hv e q => ?_, fun d s s' e => ?_⟩
  · cases hv with
    | @tup a xs ds h1 h2 =>
      simp only [tgSeq] at e
      split at e
      · rename_i hl
        refine .inl ⟨a, xs, rfl, by rw [← hK]; exact h1.ext R.le, by rw [h2.len]; exact hl, ?_⟩
        exact h.run F hK c xs ds s' Q R h2 e q
      · cases e
    | @lst a xs ds h1 h2 =>
      simp only [tgSeq] at e
      split at e
      · rename_i hl
        refine .inr ⟨a, xs, rfl, SqL.of (R.le _ _ h1), by rw [h2.len]; exact hl, ?_⟩
        exact h.run F hK c xs ds s' Q R h2 e q
      · cases e
    | _ => cases e
  · cases d with
    | tup ds =>
      simp only [tgSeq] at e
      split at e
      · exact h.keep _ _ _ e
      · cases e
    | lst ds =>
      simp only [tgSeq] at e
      split at e
      · exact h.keep _ _ _ e
      · cases e
    | _ => cases e
end
/-! ### f(g(bag)), g makes a second bag -/
def spLF (K : PySem.W.Frag) : Sp := fun vs H Q _ => ∃ (b c : Addr) (ms : List Int) (n : Nat), vs = [.ref b] ∧ BagAt H b c ms n ∧ ∀ b' c' ms' H', Ext H H' → H b' = none → BagAt H' b' c' ms' 0 → Q (.ref b') H'
def gTwin (i : Nat) (G : GFB) : GX := fun s Φ => s.r[i]? = some (some .bag) ∧ G [] 0 fun d _ => flatD d = true ∧ Φ (.dat d) s
theorem se_twin {K : Bd} {i : Nat} {G : GFB} {E E0 : XK} : SE K (tCall (spB K G) [] E (tCons (tCall (spLF K.K) [] E0 (tCons (tVar i) tNil)) tNil)) (gTwin i G) := by
  intro F hK c Φ Q R p q
  subst hK
  obtain ⟨hi, p⟩ := p
  have y := R.at_ i _ hi
  have on : F.on = true := y.1
  have y2 : c.σ[i]? = some (some (.ref F.b)) := y.2
  obtain ⟨z1, z2, z3⟩ := R.bag on
  refine ⟨.ref F.b, y2, F.b, F.c, F.ms, c.s.n, rfl, z1, fun b' c' ms' H' x hb hB => ?_⟩
  refine ⟨fun _ => none, b', c', ms', 0, [], [], _, rfl, hB, rfl, rfl, (fun _ _ h => nomatch h), .nil, p, fun B2 H2 v d n' x1 x2 fr nb hb2 rv hΦ => ?_⟩
  have x3 : Ext c.H H2 := fun a o h => fr a o (fun z => by rw [z, hb] at h; cases h) (x a o h)
  obtain ⟨R3, G3⟩ := R.grow (B' := c.B) (H' := H2) Ext.rfl' (R.le.trans x3) x3 (fun a e n => absurd n e)
  exact q _ v (.dat d) R3 G3 (flat_rp rv hΦ.1) hΦ.2
end DL
set_option maxHeartbeats 1000000
/-! A field of the instance that is being made; powers of wide numbers; a call whose one argument is a tuple that holds lists of one's own. -/
namespace DL
open PySem PySem.Spec PyProof.Rows L2 Ax
section
variable {K : Bd}
/-- self.f within __init__ -/
def gFldO (i : Nat) (C f : Str) : GX := fun s Φ => ∃ a ks ds d, s.r[i]? = some (some (.obj a C ks ds)) ∧ (ks.zip ds).lookup f = some d ∧ Φ (.dat d) s
theorem se_fldO {i : Nat} {C f : Str} (hc : Cls K.K (He.ga K.K C)) (hn : NoAttr K.K (He.ga K.K C) f) : SE K (tFld K (tVar i) f) (gFldO i C f) := by
  intro F hK c Φ Q R p q
  subst hK
  obtain ⟨a, ks, ds, d, e, l, p2⟩ := p
  obtain ⟨l0, o, b1, b2, ⟨el, dx, vs, rfl, hl, hr⟩, b4, b5⟩ := (R.at_ i _ e).own rfl
  obtain ⟨v', l', r'⟩ := zip_lookup hr l
  exact ⟨.ref l0, b1, l0, _, dx, _, v', rfl, b2, hc, hn, l', q c v' (.dat d) R GoE.rfl' r' p2⟩
theorem Ev.fldO {i : Nat} {C f : Str} {s : Stt} {a : Addr} {ks : List Str} {ds : List D} {d : D} (h : s.r[i]? = some (some (.obj a C ks ds))) (l : (ks.zip ds).lookup f = some d) : Ev (gFldO i C f) s (.dat d) := fun Φ q => ⟨a, ks, ds, d, h, l, q⟩
/-- f((e, ..)): the lists of one's own that the tuple holds stay so, the answer is flat -/
def gPeekT (G : GF) (ga : GA) : GX := fun s Φ => ga s fun ws s1 => ∃ ds s2, frzA ws s1 = some (ds, s2) ∧ ws.length ≤ 1000 ∧ G [.tup ds] fun d => flatD d = true ∧ Φ (.dat d) s1
theorem se_peekT {G : GF} {E : XK} {t : TA} {ga : GA} (h : SA K t ga) : SE K (tCall (spP K G) [] E (tCons (tTup t) tNil)) (gPeekT G ga) := by
  intro F hK c Φ Q R p q
  subst hK
  refine h F rfl c _ _ R p fun c1 vs ws R1 G1 D1 p1 => ?_
  obtain ⟨ds, s2, e1, hl, g⟩ := p1
  obtain ⟨c2, b1, b2, R2, G2, r⟩ := frzA_ok R1 D1 e1
  have hv : vs.length ≤ sizeLine := by rw [D1.len, sizeLine_eq]; omega
  refine ⟨hv, fun p hp => ?_⟩
  rw [← b1] at hp
  obtain ⟨c3, a1, a2, R3, G3, r3⟩ := R2.newT hp r
  rw [← b1]
  refine ⟨c3.B, [.tup ds], _, by rw [← a1]; exact R3.le, .cons r3 .nil, g, fun B' H' v d x1 x2 x3 nb rv hΦ => ?_⟩
  have x4 : Ext c1.H H' := by
    intro a o ha
    refine x3 a o ?_
    rw [← b1] at ha
    rw [upd_ne (ne_of_none ha hp)]
    exact ha
  obtain ⟨R5, G5⟩ := R1.grow (B' := c1.B) (H' := H') Ext.rfl' (R1.le.trans x4) x4 (fun a e n => absurd n e)
  exact q _ v (.dat d) R5 (G1.trans G5) (flat_rp rv hΦ.1) hΦ.2
end
/-! ### i ** j -/
def CPowW (i j : Int) : Prop := 0 ≤ j ∧ j ≤ 1000 ∧ i.natAbs.log2 ≤ 1000
instance (i j : Int) : Decidable (CPowW i j) := by unfold CPowW; infer_instance
theorem bits_log (x : Int) : Builtin.Int.intBits x ≤ x.natAbs.log2 + 1 := by
  unfold Builtin.Int.intBits
  split
  · omega
  · omega
theorem op_powW {X : Cx} : OpR X (binaryOp .Pow) (rI CPowW fun i j => .int (i ^ j.toNat)) := opI fun i j _ _ _ _ _ hc q => pow_int hc.1 (by
  have h1 := bits_log i
  have h2 : Builtin.Int.intBits i ≤ 1001 := Nat.le_trans h1 (Nat.succ_le_succ hc.2.2)
  have h3 : (Builtin.Int.intBits i : Int) * j ≤ 1001 * 1000 := Int.mul_le_mul (by omega) hc.2.1 hc.1 (by decide)
  exact Int.le_trans h3 (by decide)) q
end DL
set_option maxHeartbeats 1000000
/-! Entries as data: equality, order. -/
namespace DL
open PySem PySem.Spec PyProof.Rows L2 Ax
theorem eqD_str (a b : Str) : eqD (.str a) (.str b) = decide (a = b) := by
  show PyData.eqv (.str a) (.str b) = _
  simp only [PyData.eqv]
  exact PySem.W.beq_decide a b
theorem eqD_int (a b : Int) : eqD (.int a) (.int b) = decide (a = b) := by
  show PyData.eqv (.int a) (.int b) = _
  simp only [PyData.eqv]
  exact PySem.W.beq_decide a b
def kD (k : List Int) : D := .tup (k.map D.int)
theorem toPs_ints (k : List Int) : toPs (k.map D.int) = k.map PyData.int := by
  rw [toPs_map, List.map_map]
  refine List.map_congr_left fun x _ => ?_
  simp [toP]
theorem eqvAll_ints : ∀ a b : List Int, PyData.eqvAll (a.map PyData.int) (b.map PyData.int) = decide (a = b)
  | [], [] => by simp [PyData.eqvAll]
  | [], _ :: _ => by simp [PyData.eqvAll]
  | _ :: _, [] => by simp [PyData.eqvAll]
  | x :: a, y :: b => by
    rw [List.map_cons, List.map_cons, PyData.eqvAll, eqvAll_ints a b]
    have : PyData.eqv (.int x) (.int y) = decide (x = y) := eqD_int x y
    rw [this]
    by_cases h : x = y <;> by_cases g : a = b <;> simp [h, g]
theorem eqD_k (a b : List Int) : eqD (kD a) (kD b) = decide (a = b) := by
  show PyData.eqv (toP (kD a)) (toP (kD b)) = _
  simp only [kD, toP, toPs_ints, PyData.eqv]
  exact eqvAll_ints a b
abbrev E := Str × List Int × Int
def eD (e : E) : D := .tup [.str e.1, kD e.2.1, .int e.2.2]
theorem toP_eD (e : E) : toP (eD e) = .tuple [.str e.1, .tuple (e.2.1.map PyData.int), .int e.2.2] := by
  simp [eD, kD, toP, toPs, toPs_ints]
theorem eqD_e (a b : E) : eqD (eD a) (eD b) = decide (a = b) := by
  show PyData.eqv (toP (eD a)) (toP (eD b)) = _
  rw [toP_eD, toP_eD]
  simp only [PyData.eqv, PyData.eqvAll, eqvAll_ints]
  obtain ⟨a1, a2, a3⟩ := a
  obtain ⟨b1, b2, b3⟩ := b
  simp only [PySem.W.beq_decide, Prod.mk.injEq, Bool.and_true]
  by_cases h1 : a1 = b1 <;> by_cases h2 : a2 = b2 <;> by_cases h3 : a3 = b3 <;> simp [h1, h2, h3]
theorem pureA_ints (k : List Int) : pureA (k.map D.int) = true := by
  induction k with
  | nil => rfl
  | cons x k ih => simp [pureA, pureD, ih]
theorem canLay_ints (k : List Int) : PyData.canLayAll0 (k.map PyData.int) = true := by
  induction k with
  | nil => simp [PyData.canLayAll0]
  | cons x k ih => simp [PyData.canLayAll0, PyData.canLay0, ih]
theorem depth_k (k : List Int) : (toP (kD k)).depth = 1 := by
  simp only [kD, toP, toPs_ints, PyData.depth, PySem.W.depth_ints]
theorem okD_k (k : List Int) : okD (kD k) = true := by
  simp only [okD, SeqAt.shaped, Bool.and_eq_true, decide_eq_true_eq]
  refine ⟨by simp [kD, pureD, pureA_ints], ?_, ?_⟩
  · simp only [kD, toP, toPs_ints, PyData.canLay0, canLay_ints]
  · rw [depth_k]; decide
theorem depth_e (e : E) : (toP (eD e)).depth = 2 := by
  rw [toP_eD]
  simp only [PyData.depth, PyData.depthAll, PySem.W.depth_ints]
  decide
theorem pure_e (e : E) : pureD (eD e) = true := by
  simp [eD, kD, pureD, pureA, pureA_ints]
abbrev strK (x : Str) : Bool := PyData.strOk x
theorem canLay_e {e : E} (h : strK e.1 = true) : (toP (eD e)).canLay0 = true := by
  rw [toP_eD]
  simp [PyData.canLay0, PyData.canLayAll0, canLay_ints]
  exact h
theorem okD_e {e : E} (h : strK e.1 = true) : okD (eD e) = true := by
  simp only [okD, SeqAt.shaped, Bool.and_eq_true, decide_eq_true_eq]
  exact ⟨pure_e e, canLay_e h, by rw [depth_e]; decide⟩
theorem okD_int (i : Int) : okD (.int i) = true := by rfl
theorem okD_non : okD .non = true := by rfl
theorem okD_bl (b : Bool) : okD (.bl b) = true := by rfl
theorem okD_str {x : Str} (h : strK x = true) : okD (.str x) = true := by
  simp only [okD, SeqAt.shaped, Bool.and_eq_true, decide_eq_true_eq]
  refine ⟨rfl, ?_, by simp [toP, PyData.depth]⟩
  simp only [toP, PyData.canLay0]
  exact h
/-- lists of data of one depth -/
theorem pureA_map {α : Type} {f : α → D} : ∀ {l : List α}, (∀ a ∈ l, pureD (f a) = true) → pureA (l.map f) = true
  | [], _ => rfl
  | a :: l, h => by simp [pureA, h a List.mem_cons_self, pureA_map fun b hb => h b (List.mem_cons_of_mem _ hb)]
theorem canLay_map {α : Type} {f : α → D} : ∀ {l : List α}, (∀ a ∈ l, (toP (f a)).canLay0 = true) → PyData.canLayAll0 (toPs (l.map f)) = true
  | [], _ => by simp [toPs, PyData.canLayAll0]
  | a :: l, h => by simp [toPs, PyData.canLayAll0, h a List.mem_cons_self, canLay_map fun b hb => h b (List.mem_cons_of_mem _ hb)]
theorem depth_map {α : Type} {f : α → D} {n : Nat} : ∀ {l : List α}, (∀ a ∈ l, (toP (f a)).depth ≤ n) → PyData.depthAll (toPs (l.map f)) ≤ n
  | [], _ => by simp [toPs, PyData.depthAll]
  | a :: l, h => by
    simp only [List.map_cons, toPs, PyData.depthAll]
    exact Nat.max_le.mpr ⟨h a List.mem_cons_self, depth_map fun b hb => h b (List.mem_cons_of_mem _ hb)⟩
/-- a datum that == serves, of at most this depth -/
structure Dk (n : Nat) (d : D) : Prop where
  pure : pureD d = true
  lay : (toP d).canLay0 = true
  dep : (toP d).depth ≤ n
theorem Dk.ok {n : Nat} {d : D} (h : Dk n d) (hn : n ≤ 60) : okD d = true := by
  simp only [okD, SeqAt.shaped, Bool.and_eq_true, decide_eq_true_eq]
  exact ⟨h.pure, h.lay, by have := h.dep; omega⟩
theorem Dk.mono {n m : Nat} {d : D} (h : Dk n d) (hn : n ≤ m) : Dk m d := ⟨h.pure, h.lay, Nat.le_trans h.dep hn⟩
theorem Dk.lst {α : Type} {f : α → D} {n : Nat} {l : List α} (h : ∀ a ∈ l, Dk n (f a)) : Dk (n + 1) (.lst (l.map f)) := by
  refine ⟨by simp [pureD, pureA_map fun a ha => (h a ha).pure], ?_, ?_⟩
  · simp only [toP, PyData.canLay0]; exact canLay_map fun a ha => (h a ha).lay
  · have := depth_map fun a ha => (h a ha).dep
    simp only [toP, PyData.depth]
    omega
theorem Dk.tup {α : Type} {f : α → D} {n : Nat} {l : List α} (h : ∀ a ∈ l, Dk n (f a)) : Dk (n + 1) (.tup (l.map f)) := by
  refine ⟨by simp [pureD, pureA_map fun a ha => (h a ha).pure], ?_, ?_⟩
  · simp only [toP, PyData.canLay0]; exact canLay_map fun a ha => (h a ha).lay
  · have := depth_map fun a ha => (h a ha).dep
    simp only [toP, PyData.depth]
    omega
theorem dk_e {e : E} (h : strK e.1 = true) : Dk 2 (eD e) := ⟨pure_e e, canLay_e h, Nat.le_of_eq (depth_e e)⟩
theorem okD_es {l : List E} (h : ∀ e ∈ l, strK e.1 = true) : okD (.lst (l.map eD)) = true := (Dk.lst fun e he => dk_e (h e he)).ok (by decide)
theorem inD_e (a : E) (l : List E) : inD (eD a) (l.map eD) = decide (a ∈ l) := by
  unfold inD
  rw [List.any_map]
  induction l with
  | nil => simp
  | cons b l ih =>
    rw [List.any_cons, ih]
    show (eqD (eD b) (eD a) || _) = _
    rw [eqD_e]
    by_cases h : b = a
    · subst h; simp
    · have h' : ¬ a = b := fun z => h z.symm
      simp [h, h']
/-! ### the order -/
def leE (a b : E) : Bool := leD (eD a) (eD b)
theorem leE_total : PySem.W.TotalLe leE where
  trans a b c h1 h2 := (PySem.W.sortLe_total (α := E) (PyProof.Rows.listOrd PyProof.Rows.itemOrd) false (fun e => PySem.W.keyToks (toP (eD e)))).trans a b c h1 h2
  total a b := (PySem.W.sortLe_total (α := E) (PyProof.Rows.listOrd PyProof.Rows.itemOrd) false (fun e => PySem.W.keyToks (toP (eD e)))).total a b
theorem alike_e (a b : E) : PySem.W.alike (toP (eD a)) (toP (eD b)) = true := by
  rw [toP_eD, toP_eD]
  simp [PySem.W.alike, PySem.W.alikeAll, PySem.W.alike_ints]
theorem toks_of {x y : PyData} (h : PySem.W.alike x y = true) (e : PySem.W.keyToks x = PySem.W.keyToks y) : PyData.eqv x y = true := by
  cases q : PyData.eqv x y with
  | true => rfl
  | false =>
    have h2 := (PySem.W.toks_eqv x y h).2 q [] [.inl 0]
    rw [e, PySem.W.lex_pre] at h2
    rw [PyProof.Rows.lex_irrefl] at h2
    cases h2
theorem le_anti {x y : D} (h : PySem.W.alike (toP x) (toP y) = true) (h1 : leD x y = true) (h2 : leD y x = true) : eqD x y = true := by
  have e : PySem.W.keyToks (toP x) = PySem.W.keyToks (toP y) := by
    have a1 : (!PySem.W.dataLt (toP y) (toP x)) = true := h1
    have a2 : (!PySem.W.dataLt (toP x) (toP y)) = true := h2
    rw [Bool.not_eq_true'] at a1 a2
    exact (PyProof.Rows.listOrd PyProof.Rows.itemOrd).total _ _ a2 a1
  exact toks_of h e
theorem leE_anti {a b : E} (h1 : leE a b = true) (h2 : leE b a = true) : a = b := by
  have := le_anti (alike_e a b) h1 h2
  rw [eqD_e] at this
  exact of_decide_eq_true this
def pD (p : E × Int) : D := .tup [eD p.1, .int p.2]
theorem toP_pD (p : E × Int) : toP (pD p) = .tuple [toP (eD p.1), .int p.2] := by simp [pD, toP, toPs]
theorem alike_p (p q : E × Int) : PySem.W.alike (toP (pD p)) (toP (pD q)) = true := by
  rw [toP_pD, toP_pD]
  simp [PySem.W.alike, PySem.W.alikeAll, alike_e]
theorem leD_refl (d : D) : leD d d = true := by
  show (!PySem.W.dataLt (toP d) (toP d)) = true
  rw [PySem.W.dataLt_self]
  rfl
theorem le_p {p q : E × Int} (h : p.1 ≠ q.1) : leD (pD p) (pD q) = leE p.1 q.1 := by
  show (!PySem.W.dataLt (toP (pD q)) (toP (pD p))) = (!PySem.W.dataLt (toP (eD q.1)) (toP (eD p.1)))
  rw [toP_pD, toP_pD, PySem.W.dataLt_pair (alike_e _ _) (by simp [PySem.W.alike])]
  have : PyData.eqv (toP (eD q.1)) (toP (eD p.1)) = false := by
    have := eqD_e q.1 p.1
    unfold eqD at this
    rw [this]
    exact decide_eq_false fun z => h z.symm
  rw [this]
  simp
end DL
set_option maxHeartbeats 1000000
/-! Entries as data, sorted. -/
namespace DL
open PySem PySem.Spec PyProof.Rows L2 Ax
def sortE (T : List E) : List E := T.mergeSort leE
theorem okS_e (T : List E) : okS (T.map eD) := by
  refine ⟨fun d hd => ?_, ?_, ?_⟩
  · obtain ⟨e, _, rfl⟩ := List.mem_map.mp hd
    exact ⟨pure_e e, by rw [depth_e]; decide⟩
  · intro x hx y hy
    rw [List.map_map] at hx hy
    obtain ⟨a, _, rfl⟩ := List.mem_map.mp hx
    obtain ⟨b, _, rfl⟩ := List.mem_map.mp hy
    exact alike_e a b
  · refine .inl fun d hd => ?_
    rw [List.map_map] at hd
    obtain ⟨a, _, rfl⟩ := List.mem_map.mp hd
    exact ⟨_, _, toP_eD a⟩
theorem sortD_e (T : List E) : sortD (T.map eD) = (sortE T).map eD := by
  unfold sortD sortE
  rw [List.map_mergeSort (f := eD) (r := leE) (s := leD)]
  intro a _ b _
  rfl
theorem sortE_perm (T : List E) : (sortE T).Perm T := List.mergeSort_perm T leE
theorem mem_sortE {T : List E} {e : E} : e ∈ sortE T ↔ e ∈ T := (sortE_perm T).mem_iff
theorem sortE_len (T : List E) : (sortE T).length = T.length := (sortE_perm T).length_eq
/-! ### things of any kind -/
/-- no instance -/
def kd : D → Bool
  | .ins _ _ _ => false
  | .tpz _ => false
  | .dnk _ _ => false
  | _ => true
def isW : D → Bool
  | .int _ => true
  | _ => false
def seqL : D → Option (List D)
  | .lst ds => some ds
  | .tup ds => some ds
  | _ => none
def isSeqD (d : D) : Bool := (seqL d).isSome
def seqD (b : Bool) (ds : List D) : D := if b then .tup ds else .lst ds
/-- things down to depth n -/
def Th : Nat → D → Prop
  | 0, d => kd d = true ∧ ∀ x, d = .str x → x.length ≤ 1000
  | n + 1, d => (kd d = true ∧ ∀ x, d = .str x → x.length ≤ 1000) ∧ ∀ es, seqL d = some es → es.length ≤ 1000 ∧ ∀ e ∈ es, Th n e
theorem Th.k {n : Nat} {d : D} (h : Th n d) : kd d = true := by
  cases n with
  | zero => exact h.1
  | succ n => exact h.1.1
theorem Th.s {n : Nat} {d : D} (h : Th n d) : ∀ x, d = .str x → x.length ≤ 1000 := by
  cases n with
  | zero => exact h.2
  | succ n => exact h.1.2
theorem Th.el {n : Nat} {d : D} (h : Th (n + 1) d) {es : List D} (e : seqL d = some es) : es.length ≤ 1000 ∧ ∀ e ∈ es, Th n e := h.2 es e
theorem Th.down {n : Nat} : ∀ {d : D}, Th (n + 1) d → Th n d := by
  induction n with
  | zero => intro d h; exact h.1
  | succ n ih =>
    intro d h
    exact ⟨h.1, fun es e => ⟨(h.2 es e).1, fun x hx => ih ((h.2 es e).2 x hx)⟩⟩
theorem Th.flat {n : Nat} {d : D} (h1 : kd d = true) (h2 : ∀ x, d = .str x → x.length ≤ 1000) (h3 : seqL d = none) : Th n d := by
  cases n with
  | zero => exact ⟨h1, h2⟩
  | succ n => exact ⟨⟨h1, h2⟩, fun es e => by rw [h3] at e; cases e⟩
theorem Th.seq {n : Nat} {b : Bool} {es : List D} (h1 : es.length ≤ 1000) (h2 : ∀ e ∈ es, Th n e) : Th (n + 1) (seqD b es) := by
  refine ⟨⟨by cases b <;> rfl, fun x e => by cases b <;> cases e⟩, fun es' e => ?_⟩
  have : es' = es := by cases b <;> exact (Option.some.inj e).symm
  subst this
  exact ⟨h1, h2⟩
theorem items_of {d : D} {es : List D} (h : seqL d = some es) : itemsD d = some es := by
  cases d <;> first | exact h | cases h
theorem feq {d e : D} (h1 : okD d = true) (h2 : okD e = true) : fEq d e = some (.dat (.bl (eqD d e))) := if_pos ⟨h1, h2⟩
theorem fne {d e : D} (h1 : okD d = true) (h2 : okD e = true) : fNe d e = some (.dat (.bl (!eqD d e))) := if_pos ⟨h1, h2⟩
theorem drw {i : Nat} {s : Stt} {g : GX} {G : GFB} {Φ : W → Stt → Prop} {d0 : D} (hb : s.r[i]? = some (some .bag)) (hg : Ev g s (.dat d0)) (h : G [d0] s.n fun d n' => Φ (.dat d) { s with n := n' }) : gCallB i G (gaCons g gaNil) s Φ :=
  callB hb (.one hg) rfl h
end DL
set_option maxHeartbeats 1000000
/-! return (f(..), ..), f one that raises -/
namespace DL
open PySem PySem.Spec PyProof.Rows L2 Ax
def gTupX (gx : GXX) (ga : GA) : GXX := fun s Φ Ψ => gx s (fun w s1 => ga s1 fun ws s2 => ∃ ds s3, frzA (fixW w :: ws) s2 = some (ds, s3) ∧ (fixW w :: ws).length ≤ 1000 ∧ Φ (.dat (.tup ds)) s3) Ψ
theorem sex_tup {K : Bd} {tx : TE} {t : TA} {gx : GXX} {ga : GA} (hx : SEX K tx gx) (h : SA K t ga) : SEX K (tTup (tCons tx t)) (gTupX gx ga) := by
  intro F hK c Φ Ψ Q R p q qx
  refine hx F hK c _ Ψ _ R p (fun c1 v1 w1 R1 G1 D1 p1 => ?_) qx
  obtain ⟨c2, e1, e2, e3, R2, G2, D2⟩ := fix_ok R1 G1 D1
  refine h.run hK (e3.trans G1.σ) e1 R2 (by rw [e2]; exact p1) fun c3 vs ws R3 G3 D3 p3 => ?_
  obtain ⟨ds, s2, e, hl, p2⟩ := p3
  have D4 : DenA F c3 (v1 :: vs) (fixW w1 :: ws) := .cons (D2.keep G3) D3
  refine ⟨le_line (by rw [D4.len]; exact hl), fun p hp => ?_⟩
  obtain ⟨c4, f1, f2, R4, G4, r⟩ := frzA_ok R3 D4 e
  rw [← f1] at hp ⊢
  obtain ⟨c5, f3, f4, R5, G5, r5⟩ := R4.newT hp r
  rw [← f3]
  exact q c5 _ (.dat (.tup ds)) R5 ((G2.trans G3).trans (G4.trans G5)) r5 (by rw [f4, f2]; exact p2)
end DL
set_option maxHeartbeats 4000000
/-! row.index(k), min, a list or a tuple times a number. -/
namespace L2
open PySem PySem.Spec PyProof.Rows
theorem tuple_mul1 (l : Addr) (items : Array Value) (n : Nat) (dd : Option Addr) (sl : Array (Option Value)) (u : Tok) :
    Meets (Builtin.«tuple.__mul__» ⟨[.ref l, .int 1 u], []⟩) (fun _ R s => s.heap.get? l = some { cls := .type "tuple", dict := dd, data := .seq items n, slots := sl } ∧
      R (.ok (.ret (Value.ref l))) s) :=
  .of_wp fun prog w A R s h => by
    obtain ⟨hp, g, d, tk, os⟩ := s
    obtain ⟨hl, h⟩ := h
    have f1 := AutoSeq1.idx_int
    wp_walk using wpAny_loadPart' hl
    repeat (first
      | (refine wpAny_ite_false (by decide) ?_; wp_walk using wpAny_loadPart' hl)
      | (refine wpAny_ite_true (by simp) ?_; wp_walk using wpAny_loadPart' hl))
    exact ⟨_, rfl, h⟩
def rRepT1 (K : PySem.W.Frag) : R2 := fun x y H Q => ∃ l xs, x = .ref l ∧ y = .int 1 ∧ SqT K H l xs ∧ Q (.ref l) H
def rIndexL (K : PySem.W.Frag) : V → List V → Hp → VK → Prop := fun x vs H Q => ∃ (a : Addr) (ns : List Int) (k : Int), x = .ref a ∧ vs = [.int k] ∧ SqL K H a (ns.map V.int) ∧ k ∈ ns ∧ Q (.int (ns.idxOf k : Nat)) H
section
variable {X : Cx}
theorem op_repT1 : OpR X (binaryOp .Mult) (rRepT1 X.K) := by
  intro pins s σ H x y v u Q I rx ry h
  obtain ⟨l, xs, rfl, rfl, hT, q⟩ := h
  cases rx
  obtain ⟨t, rfl⟩ := ry
  obtain ⟨its, r, ⟨⟨cls, dd, data, sl⟩, ho, hc, n, hd⟩, hs⟩ := I.tuple hT
  simp only at hc hd
  subst hc hd
  refine wpAny_binaryOp_repeat_ref (T := "tuple") (U := "int") (by decide) ⟨_, ho, rfl⟩ (fun s' => typeIs_int s' 1 t) noFill_tuple_mul F.fills_int_mul F.slot_int_rmul repeat_tuple F.slot_int_index.lookup
    (call_meets F.slot_int_rmul (typeIs_int s 1 t) F.entry_int_rmul (F.args_int_rmul_2 _ _) (int_rmul_tuple 1 t l its.toArray n dd sl)
      ⟨ho, rfl, ⟨_, ho, rfl⟩, call_meets F.slot_tuple_mul ⟨_, ho, rfl⟩ F.entry_tuple_mul (F.args_tuple_mul_2 _ _) (tuple_mul1 l its.toArray n dd sl t) ⟨ho, ?_⟩⟩)
  exact ⟨.ref l, H, I, rfl, q⟩
theorem mt_indexI : MtR X "list.index" (rIndexL X.K) := by
  intro pins s σ H x xs v us Q I rx rv h
  obtain ⟨a, ns, k, rfl, rfl, hs, hk, q⟩ := h
  cases rx
  obtain ⟨its, rvs, hl, hz⟩ := I.list hs
  obtain ⟨u, rfl, ru⟩ := rv.one
  obtain ⟨t, rfl⟩ := ru
  have hi := rvs.ints
  exact PySem.SeqAt.list_index_ints hl.isList hi (by rw [List.length_map] at hz; exact hz) hk ⟨.int _, H, I.kept (h' := s.heap) (fun _ _ z => z), ⟨_, rfl⟩, q⟩
end
end L2
namespace DL
open PySem PySem.Spec PyProof.Rows L2 Ax
section
variable {K : Bd}
/-! ### row.index(k) -/
def gIndex (g1 g2 : GX) : GX := fun s Φ => g1 s fun w1 s1 => (∃ ds, rd w1 s1 = some (.lst ds)) ∧ g2 s1 fun w2 s2 => ∃ (ns : List Int) (k : Int), rd w1 s2 = some (.lst (ns.map D.int)) ∧ rd w2 s2 = some (.int k) ∧ k ∈ ns ∧ Φ (.dat (.int (ns.idxOf k : Nat))) s2
theorem se_index {t1 t2 : TE} {g1 g2 : GX} (h1 : SE K t1 g1) (h2 : SE K t2 g2) : SE K (tBM K "list" (rIndexL K) t1 (tCons t2 tNil)) (gIndex g1 g2) := by
  intro F hK c Φ Q R p q
  refine h1 F hK c _ _ R p fun c1 v1 w1 R1 G1 D1 p1 => ?_
  obtain ⟨⟨ds0, e0⟩, p1⟩ := p1
  subst hK
  obtain ⟨a, vs0, rfl, q1, _⟩ := (rd_ok R1 D1 e0).lst R1
  refine ⟨.inl ⟨rfl, vs0, SqL.of q1⟩, ?_⟩
  refine h2.run rfl G1.σ R1 p1 fun c2 v2 w2 R2 G2 D2 p2 => ?_
  obtain ⟨ns, k, e1, e2, hk, p3⟩ := p2
  obtain ⟨a', vs1, ea, q2, r2⟩ := (rd_ok R2 (D1.keep G2) e1).lst R2
  cases ea
  have ev := rpa_ints r2
  subst ev
  have ek := (rd_ok R2 D2 e2).int
  subst ek
  exact ⟨a, ns, k, rfl, rfl, SqL.of q2, hk, q c2 _ (.dat (.int (ns.idxOf k : Nat))) R2 (G1.trans G2) (Rp.int _) p3⟩
/-! ### min -/
def minL : List Int → Int
  | [] => 0
  | [x] => x
  | x :: y :: l => min x (minL (y :: l))
theorem minL_le : ∀ {l : List Int} {y : Int}, y ∈ l → minL l ≤ y
  | [x], y, h => by rw [List.mem_singleton.mp h]; exact Int.le_refl _
  | x :: z :: l, y, h => by
    rcases List.mem_cons.mp h with rfl | h
    · exact Int.min_le_left _ _
    · exact Int.le_trans (Int.min_le_right _ _) (minL_le h)
theorem minL_mem : ∀ {l : List Int}, l ≠ [] → minL l ∈ l
  | [x], _ => List.mem_cons_self
  | x :: z :: l, _ => by
    show min x (minL (z :: l)) ∈ _
    by_cases c : x ≤ minL (z :: l)
    · rw [Int.min_eq_left c]; exact List.mem_cons_self
    · rw [Int.min_eq_right (by omega)]; exact List.mem_cons_of_mem _ (minL_mem (fun q => nomatch q))
theorem minL_eq {l : List Int} {m : Int} (h : m ∈ l) (g : ∀ y, y ∈ l → m ≤ y) : m = minL l := by
  have h1 := minL_le h
  have h2 := g _ (minL_mem (fun z => by rw [z] at h; cases h))
  omega
def fMin : List D → Option W
  | [.lst ds] => match allI ds with
    | some ns => if ns = [] then none else some (.dat (.int (minL ns)))
    | none => none
  | _ => none
theorem cs_min : ClS K (rMin K) fMin := by
  intro F hK c xs ds w Q R hx hf q
  subst hK
  cases hx with
  | nil => cases hf
  | @cons x d xs ds h t =>
    cases t with
    | cons _ _ => cases d <;> cases hf
    | nil =>
      cases d with
      | lst ds =>
        simp only [fMin] at hf
        split at hf
        · rename_i ns e1
          split at hf
          · cases hf
          · rename_i hne
            cases Option.some.inj hf
            obtain ⟨a, vs, rfl, h1, h2⟩ := h.lst R
            refine ⟨a, ns, rfl, by rw [← allI_vs h2 e1]; exact SqL.of h1, List.length_pos_iff.mpr hne, fun m hm hg => ?_⟩
            rw [minL_eq hm hg]
            exact q c _ R GoE.rfl' rfl (Rp.int _)
        · cases hf
      | _ => cases hf
/-! ### a list or a tuple times a number -/
theorem rpa_rep {K : Bk} {B : Hp} {vs : List V} {ds : List D} (r : RpA K B vs ds) : ∀ n : Nat, RpA K B (List.replicate n vs).flatten (List.replicate n ds).flatten
  | 0 => .nil
  | n + 1 => by
    rw [List.replicate_succ, List.replicate_succ, List.flatten_cons, List.flatten_cons]
    exact r.app (rpa_rep r n)
def fRepL : D → D → Option W
  | .lst ds, .int k => if 0 ≤ k ∧ k ≤ 1000000 ∧ ds.length * k.toNat ≤ 1000000 then some (.new (List.replicate k.toNat ds).flatten) else none
  | _, _ => none
theorem os_repL : OpS K rRep fRepL := by
  intro F hK c x y d e w Q R hx hy hf q
  cases d with
  | lst ds => cases e with
    | int k =>
      simp only [fRepL] at hf
      split at hf
      · rename_i h
        cases Option.some.inj hf
        obtain ⟨a, vs, rfl, h1, h2⟩ := hx.lst R
        exact ⟨a, k, vs, rfl, hy.int, h1, by omega, by omega, line_m (by rw [h2.len]; exact h.2.2), fun p hp => Den.newL R hp (rpa_rep h2 _) q⟩
      · cases hf
    | _ => cases hf
  | _ => cases hf
def fRepT : D → D → Option W
  | .tup ds, .int k => if 0 < ds.length ∧ 1 ≤ k ∧ k ≤ 1000 ∧ ds.length ≤ 1000 then some (.dat (.tup (List.replicate k.toNat ds).flatten)) else none
  | _, _ => none
def rRepTA (K : PySem.W.Frag) : R2 := fun x y H Q => rRepT K x y H Q ∨ rRepT1 K x y H Q
theorem op_repTA {X : Cx} : OpR X (binaryOp .Mult) (rRepTA X.K) := OpR.or op_repT op_repT1
theorem os_repT : OpS K (rRepTA K) fRepT := by
  intro F hK c x y d e w Q R hx hy hf q
  subst hK
  cases d with
  | tup ds => cases e with
    | int k =>
      simp only [fRepT] at hf
      split at hf
      · rename_i h
        cases Option.some.inj hf
        have ek := hy.int
        subst ek
        have hb := hx.tupB
        cases hb with
        | @tup a vs _ h1 h2 =>
          have hT : SqT F.K c.H a vs := h1.ext R.le
          have hl := h2.len
          by_cases c1 : k = 1
          · subst c1
            have e1 : (List.replicate (1 : Int).toNat ds).flatten = ds := by simp
            refine .inr ⟨a, vs, rfl, rfl, hT, q c (.ref a) R GoE.rfl' rfl ?_⟩
            rw [e1]
            exact .tup h1 h2
          · refine .inl ⟨a, k, vs, rfl, rfl, hT, fun z => ?_, by omega, by omega, by omega, fun p hp => Den.newT R hp (rpa_rep h2 _) q⟩
            rw [z] at hl
            simp at hl
            omega
      · cases hf
    | _ => cases hf
  | _ => cases hf
/-! ### the truth of a list -/
def gTruL (g : GX) : GB := fun s Φ => g s fun w s1 => ∃ ds, rd w s1 = some (.lst ds) ∧ Φ (!ds.isEmpty) s1
theorem sb_truL {t : TE} {g : GX} (h : SE K t g) : SB K (fun σ H Q => t σ H fun x H' => ∃ k, TruV K.K x H' k ∧ Q k H') (gTruL g) := by
  intro F hK c Φ Q R p q
  subst hK
  refine h F rfl c _ _ R p fun c1 v1 w1 R1 G1 D1 p1 => ?_
  obtain ⟨ds, e, p1⟩ := p1
  obtain ⟨a, vs, rfl, h1, h2⟩ := (rd_ok R1 D1 e).lst R1
  refine ⟨!vs.isEmpty, .inl ⟨vs, SqL.of h1, rfl⟩, ?_⟩
  have el : vs.isEmpty = ds.isEmpty := by
    have := h2.len
    cases vs <;> cases ds <;> simp_all
  rw [el]
  exact q c1 _ R1 G1 p1
end
/-! ### i // j, j of any sign and wide -/
def CDivWN (_ j : Int) : Prop := j ≠ 0 ∧ j.natAbs.log2 < 9000
instance (i j : Int) : Decidable (CDivWN i j) := by unfold CDivWN; infer_instance
theorem op_fdivWN {X : Cx} : OpR X (binaryOp .FloorDiv) (rI CDivWN fun i j => .int (i.fdiv j)) := opI fun _ _ _ _ _ _ _ hc q => floordiv_int hc.1 q (.inl (PyProof.noPylong_of_log2 hc.2))
def rNotInT (K : PySem.W.Frag) : R2 := fun x y H Q => ∃ d ds, Dp K H x d ∧ Dp K H y (.tuple ds) ∧ SeqAt.shaped d = true ∧ SeqAt.shaped (.tuple ds) = true ∧ Q (.bl (!ds.any fun z => PyData.eqv z d)) H
theorem op_notInT {X : Cx} (hu : X.A.units + 65 < cLine) : OpR X (compareOp .NotIn) (rNotInT X.K) := by
  intro pins s σ H x y v u Q I rx ry h
  obtain ⟨d, ds, hd, he, sd, se, q⟩ := h
  obtain ⟨as, r1⟩ := Dp.reads I d x v hd rx
  obtain ⟨bs, r2⟩ := Dp.reads I (.tuple ds) y u he ry
  exact SeqAt.notIn_tuple_reads r2 r1 (SeqAt.canLay_of_shaped se) (SeqAt.canLay_of_shaped sd) (room_in_shaped sd hu) ⟨.bl _, H, I, rfl, q⟩
def fNotInT : D → D → Option W
  | d, .tup es => if okD d = true ∧ okD (.tup es) = true then some (.dat (.bl (!inD d es))) else none
  | _, _ => none
theorem os_notInT {K : Bd} : OpS K (rNotInT K) fNotInT := by
  intro F hK c x y d e w Q R hx hy hf q
  cases e with
  | tup es =>
    simp only [fNotInT] at hf
    split at hf
    · rename_i h
      cases Option.some.inj hf
      subst hK
      have hy' := (hy.rp R).dp (okD_pure h.2)
      have s2 := okD_shaped h.2
      simp only [toP] at hy' s2
      refine ⟨toP d, toPs es, (hx.rp R).dp (okD_pure h.1), hy', okD_shaped h.1, s2, ?_⟩
      rw [inD_toPs]
      exact q c _ R GoE.rfl' rfl (Rp.bl _)
    · cases hf
  | _ => cases hf
end DL
set_option maxHeartbeats 1000000
/-! l.pop(i) of a list of one's own; such a list looked at in a walk without handing it on; % by any sign. -/
namespace L2
open PySem PySem.Spec PyProof.Rows
theorem tuple_mul0 (l : Addr) (items : Array Value) (n : Nat) (dd : Option Addr) (sl : Array (Option Value)) (u : Tok) (c1 : items.isEmpty = false) :
    Meets (Builtin.«tuple.__mul__» ⟨[.ref l, .int 0 u], []⟩) (fun _ R s => s.heap.get? l = some { cls := .type "tuple", dict := dd, data := .seq items n, slots := sl } ∧
      R (.ok (.ret (Value.ref s.heap.objs.size))) { s with heap := s.heap.push { cls := Value.type "tuple", data := Data.seq #[] }, toks := s.toks }) :=
  .of_wp fun prog w A R s h => by
    obtain ⟨hp, g, d, tk, os⟩ := s
    obtain ⟨hl, h⟩ := h
    have f1 := AutoSeq1.idx_int
    wp_walk using wpAny_loadPart' hl
    repeat (first
      | (refine wpAny_ite_false (by decide) ?_; wp_walk using wpAny_loadPart' hl)
      | (refine wpAny_ite_false (by rw [c1]; decide) ?_; wp_walk using wpAny_loadPart' hl)
      | (refine wpAny_ite_true (by simp) ?_; wp_walk using wpAny_loadPart' hl))
    exact ⟨_, rfl, h⟩
def rRepT0 (K : PySem.W.Frag) : R2 := fun x y H Q => ∃ l xs, x = .ref l ∧ y = .int 0 ∧ SqT K H l xs ∧ xs ≠ [] ∧ ∀ p, H p = none → Q (.ref p) (upd H p (.tup []))
theorem op_repT0 {X : Cx} : OpR X (binaryOp .Mult) (rRepT0 X.K) := by
  intro pins s σ H x y v u Q I rx ry h
  obtain ⟨l, xs, rfl, rfl, hT, hne, q⟩ := h
  cases rx
  obtain ⟨t, rfl⟩ := ry
  obtain ⟨its, r, ⟨⟨cls, dd, data, sl⟩, ho, hc, n, hd⟩, hs⟩ := I.tuple hT
  simp only at hc hd
  subst hc hd
  have hle : its.length = xs.length := r.length.symm
  have hn : its ≠ [] := fun e => hne (by
    rw [e] at hle
    exact List.eq_nil_of_length_eq_zero hle.symm)
  have hi : its.toArray.isEmpty = false := by
    cases its with
    | nil => exact absurd rfl hn
    | cons a b => rfl
  refine wpAny_binaryOp_repeat_ref (T := "tuple") (U := "int") (by decide) ⟨_, ho, rfl⟩ (fun s' => typeIs_int s' 0 t) noFill_tuple_mul F.fills_int_mul F.slot_int_rmul repeat_tuple F.slot_int_index.lookup
    (call_meets F.slot_int_rmul (typeIs_int s 0 t) F.entry_int_rmul (F.args_int_rmul_2 _ _) (int_rmul_tuple 0 t l its.toArray n dd sl)
      ⟨ho, rfl, ⟨_, ho, rfl⟩, call_meets F.slot_tuple_mul ⟨_, ho, rfl⟩ F.entry_tuple_mul (F.args_tuple_mul_2 _ _) (tuple_mul0 l its.toArray n dd sl t hi) ⟨ho, ?_⟩⟩)
  refine ⟨.ref s.heap.objs.size, _, I.laid (t' := s.toks) (o := .tup []) (fun b ob q => Heap.get?_push_of_some _ q) (Nat.le_refl _) ?_, rfl, q _ (I.hok.fresh (Nat.le_refl _))⟩
  exact ⟨Nat.zero_le _, [], .nil, IsTup.new _ _⟩
end L2
namespace DL
open PySem PySem.Spec PyProof.Rows L2 Ax
theorem mt_popI {X : Cx} : MtR X "list.pop" rPopAt := mt_popAt
def gPop (i : Nat) (g : GX) : GX := fun s Φ => (∃ ds, s.r[i]? = some (some (.own ds))) ∧ g s fun w s1 => ∃ (n : Nat) (d : D) (ds : List D), rd w s1 = some (.int (n : Nat)) ∧ s1.r[i]? = some (some (.own ds)) ∧ ds[n]? = some d ∧ n < 1000000 ∧ Φ (.dat d) (s1.put i (.own (ds.eraseIdx n)))
section
variable {K : Bd}
theorem RpA.erase' {K : Bk} {B : Hp} {vs : List V} {ds : List D} (h : RpA K B vs ds) (n : Nat) : RpA K B (vs.eraseIdx n) (ds.eraseIdx n) := RpA.erase n h
theorem se_pop {i : Nat} {t : TE} {g : GX} (h : SE K t g) : SE K (tBM K "list" rPopAt (tVar i) (tCons t tNil)) (gPop i g) := by
  intro F hK c Φ Q R p q
  obtain ⟨⟨ds0, e0⟩, p⟩ := p
  obtain ⟨l, o0, q1, q2, ⟨vs0, rfl, _⟩, _⟩ := R.at_ i _ e0
  subst hK
  refine ⟨.ref l, q1, .inl ⟨rfl, vs0, SqL.of q2⟩, ?_⟩
  refine h.run rfl rfl R p fun c1 v w R1 G1 D1 p1 => ?_
  obtain ⟨n, d, ds, e1, e2, hd, hn, p2⟩ := p1
  have hv := (rd_ok R1 D1 e1).int
  subst hv
  have hσ : c1.σ[i]? = some (some (.ref l)) := by rw [G1.σ]; exact q1
  obtain ⟨l', o2, y1, y2, ⟨vs, rfl, y3⟩, y4, y5⟩ := R1.at_ i _ e2
  rw [hσ] at y1
  cases y1
  obtain ⟨R3, G3⟩ := R1.updE (e' := .own (ds.eraseIdx n)) (o' := .lst (vs.eraseIdx n)) e2 rfl hσ ⟨_, rfl, RpA.erase n y3⟩
  obtain ⟨x, hx, rx⟩ := y3.getD hd
  refine ⟨l, vs, (n : Nat), n, x, rfl, rfl, y2, by omega, by omega, ?_, hx, q _ x (.dat d) R3 (G1.trans G3) rx p2⟩
  have hl : n < vs.length := (List.getElem?_eq_some_iff.mp hx).1
  have : ixN vs.length ((n : Nat) : Int) = some n := by
    unfold ixN
    rw [if_pos (by omega), if_pos (by omega)]
    simp
  exact (ixN_seq this).1
/-- e while the list of slot i is only looked at; e tells a new list of whole numbers -/
def gLoan (i : Nat) (g : GX) : GX := fun s Φ => ∃ ds, s.r[i]? = some (some (.own ds)) ∧ (∀ (j : Nat) (e : En), j ≠ i → s.r[j]? = some (some e) → e.isOwn = false) ∧
  g (s.put i (.val (.lst ds))) fun w s' => ∃ es : List Int, w = .new (es.map D.int) ∧ s' = s.put i (.val (.lst ds)) ∧ Φ (.new (es.map D.int)) s
theorem rpA_ints {K : Bk} {B B' : Hp} : ∀ {vs : List V} {es : List Int}, RpA K B vs (es.map D.int) → RpA K B' vs (es.map D.int)
  | _, [], .nil => .nil
  | _, e :: es, .cons h t => .cons (by cases h; exact .int _) (rpA_ints t)
theorem se_loan {i : Nat} {t : TE} {g : GX} (h : SE K t g) : SE K t (gLoan i g) := by
  intro F hK c Φ Q R p q
  obtain ⟨ds, e0, hno, p⟩ := p
  obtain ⟨l, o0, q1, q2, ⟨vs0, rfl, r0⟩, q4, q5⟩ := R.at_ i _ e0
  have fz : frz (.loc i) c.s = some (.lst ds, c.s.put i (.val (.lst ds))) := by
    simp only [frz, e0]
    rfl
  have dl : Den F c.H c (.ref l) (.loc i) := ⟨q1, _, e0⟩
  obtain ⟨c2, b1, b2, b3, b4, R2, G2, r2⟩ := frz_ok R GoE.rfl' dl fz
  have key := h F hK c2 (fun w s' => ∃ es : List Int, w = .new (es.map D.int) ∧ s' = c.s.put i (.val (.lst ds)) ∧ Φ (.new (es.map D.int)) c.s) Q R2 (by rw [b2]; exact p) fun c' v w R' G' D' z => by
    obtain ⟨es, rfl, hs, hΦ⟩ := z
    have hl2 : c2.B l = some (.lst vs0) := by
      cases r2 with
      | lst a1 a2 =>
        have := R2.le _ _ a1
        rw [b1, q2] at this
        rw [a1, this]
    have hown2 : ∀ a, Own c2 a → False := fun a ⟨j, e, h1, h2, h3⟩ => by
      rw [b2] at h1
      by_cases z : j = i
      · subst z
        have hlen : j < c.s.r.length := (List.getElem?_eq_some_iff.mp e0).1
        have : (c.s.put j (.val (.lst ds))).r[j]? = some (some (.val (.lst ds))) := List.getElem?_set_self hlen
        rw [this] at h1
        cases h1
        cases h2
      · have : (c.s.put i (.val (.lst ds))).r[j]? = c.s.r[j]? := List.getElem?_set_ne (Ne.symm z)
        rw [this] at h1
        rw [hno j e z h1] at h2
        cases h2
    have hown : ∀ a, Own c a → a = l := fun a ⟨j, e, h1, h2, h3⟩ => by
      by_cases z : j = i
      · subst z
        rw [q1] at h3
        cases h3
        rfl
      · rw [hno j e z h1] at h2
        cases h2
    have σ' : c'.σ = c.σ := G'.σ.trans b3
    have Bc : Ext c.B c'.B := b4.trans G'.go.b
    let c'' : Cf := ⟨c.B, c'.H, c.σ, c.s⟩
    have hlH : c'.H l = some (.lst vs0) := R'.le _ _ (G'.go.b _ _ hl2)
    have R'' : Rep F c'' := by
      refine ⟨Bc.trans R'.le, R.len, fun j e he => ?_, R.sep, fun on => ?_⟩
      · by_cases z : j = i
        · subst z
          have : e = .own ds := by
            have h1 : c.s.r[j]? = some (some e) := he
            rw [e0] at h1
            cases h1
            rfl
          subst this
          exact ⟨l, _, q1, hlH, ⟨vs0, rfl, r0⟩, q4, q5⟩
        · have ho := hno j e z he
          have y := R.at_ j e he
          cases e with
          | val d => exact y
          | bag => exact y
          | _ => cases ho
      · have y := R'.bag on
        have y0 := R.bag on
        refine ⟨?_, y0.2⟩
        have : c'.s.n = c.s.n := by rw [hs]; rfl
        rw [this] at y
        exact y.1
    have G'' : GoE F c c'' := by
      refine ⟨⟨Ext.rfl', fun a o h1 h2 => ?_, fun a h1 h2 => absurd h2 h1, fun a h1 => .inl h1, fun a h1 => ?_⟩, rfl, fun j e h1 => ⟨e, h1⟩⟩
      · refine G'.go.fr a o (by rw [b1]; exact h1) fun m => h2 ?_
        rcases m with m | m
        · exact (hown2 a m).elim
        · exact .inr m
      · exact G'.go.dom a (by rw [b1]; exact h1)
    obtain ⟨l2, vs2, d1, d2, d3, d4, d5, d6, d7⟩ := D'
    rw [b1] at d7
    refine q c'' v (.new (es.map D.int)) R'' G'' ⟨l2, vs2, d1, d2, rpA_ints d3, ?_, fun m => ?_, d6, d7⟩ hΦ
    · cases hb : c.B l2 with
      | none => rfl
      | some o =>
        have := Bc _ _ hb
        rw [d4] at this
        cases this
    · have := hown l2 m
      subst this
      rw [q2] at d7
      cases d7
  rw [b1, b3] at key
  exact key
end
section
variable {K : Bd}
def fRepT0 : D → D → Option W
  | .tup ds, .int k => if 0 < ds.length ∧ k = 0 then some (.dat (.tup [])) else none
  | _, _ => none
theorem os_repT0 : OpS K (rRepT0 K) fRepT0 := by
  intro F hK c x y d e w Q R hx hy hf q
  subst hK
  cases d with
  | tup ds => cases e with
    | int k =>
      simp only [fRepT0] at hf
      split at hf
      · rename_i h
        cases Option.some.inj hf
        have ek := hy.int
        subst ek
        obtain ⟨h1, rfl⟩ := h
        obtain ⟨a, vs, rfl, h2, h3⟩ := hx.tup R
        refine ⟨a, vs, rfl, rfl, h2, fun z => ?_, fun p hp => Den.newT R hp .nil q⟩
        have := h3.len
        rw [z] at this
        simp at this
        omega
      · cases hf
    | _ => cases hf
  | _ => cases hf
def fRepTZ : D → D → Option W := orF fRepT fRepT0
def rRepTZ (K : PySem.W.Frag) : R2 := fun x y H Q => rRepTA K x y H Q ∨ rRepT0 K x y H Q
theorem op_repTZ {X : Cx} : OpR X (binaryOp .Mult) (rRepTZ X.K) := OpR.or op_repTA op_repT0
theorem os_repTZ : OpS K (rRepTZ K) fRepTZ := OpS.or os_repT os_repT0
end
def CModN (_ j : Int) : Prop := j ≠ 0
instance (i j : Int) : Decidable (CModN i j) := by unfold CModN; infer_instance
/-! ### a, b = x, y -/
section
variable {K : Bd}
def gsPar (i j : Nat) (ga : GA) : GS := fun s De => ga s fun ws s1 => ∃ d e s2, frzA ws s1 = some ([d, e], s2) ∧ De.nx ((s2.put i (.val d)).put j (.val e))
theorem ss_par {i j : Nat} {t : TA} {ga : GA} (h : SA K t ga) : SS K (tPar i j t) (gsPar i j ga) := by
  intro F hK c E De R p ok
  refine h F hK c _ _ R p fun c1 vs ws R1 G1 D1 p1 => ?_
  obtain ⟨d, e, s2, e1, p2⟩ := p1
  obtain ⟨c2, b1, b2, R2, G2, r⟩ := frzA_ok R1 D1 e1
  cases r with
  | @cons v _ _ _ r0 rr =>
    cases rr with
    | @cons w _ _ _ r1 rr =>
      cases rr
      refine ⟨v, w, rfl, ?_⟩
      obtain ⟨R3, G3⟩ := R2.setV (i := i) r0
      obtain ⟨R4, G4⟩ := R3.setV (i := j) r1
      have key := ok.nx _ R4 (((G1.trans G2).go.trans G3).trans G4) (by rw [← b2] at p2; exact p2)
      have hσ : c2.σ = c.σ := (G1.trans G2).σ
      rw [← b1, ← hσ]
      exact key
end
/-! where a walk of a for, the left of a sum stand -/
def stIt : Stmt → Expr
  | .For _ e _ _ _ => e
  | _ => .Name "" ⟨0, 0, 0, 0⟩
def binL : Expr → Expr
  | .BinOp l _ _ _ => l
  | e => e
theorem op_modNN {X : Cx} : OpR X (binaryOp .Mod) (rI CModN fun i j => .int (i.fmod j)) := op_modN
end DL
set_option maxHeartbeats 1000000
/-! A def with the bag and lambdas, called in a law's last row. -/
namespace DL
open PySem PySem.Spec PyProof.Rows L2 Ax
theorem rp_intsA {K : Bk} {B : Hp} : ∀ ns : List Int, RpA K B (ns.map V.int) (ns.map D.int)
  | [] => .nil
  | n :: ns => .cons (.int n) (rp_intsA ns)
theorem rq_ints {F : Fx} {c : Cf} : ∀ {vs : List V} {ns : List Int}, Paired (Rq F c) vs (ns.map D.int) → vs = ns.map V.int
  | _, [], .nil => rfl
  | _, n :: ns, .cons h t => by
    rw [h.int, rq_ints t]
    rfl
def spBT (K : Bd) (T : Addr) (q : Str) (G : GFB) : Sp := fun vs H Q _ => ∃ (b c : Addr) (ms : List Int) (n : Nat) (ns : List Int), vs = .ref b :: ns.map V.int ∧ BagAt H b c ms n ∧ LamX.TabS H T q ∧ G (ns.map D.int) n (fun d _ => d = .bl true) ∧ ∀ H', Q (.bl true) H'
/-- what a body comes to that tells True -/
abbrev okEnd : EndsD := { nx := fun _ => False, rt := fun w s => ∃ d s', frz w s = some (d, s') ∧ d = .bl true }
theorem body_okBT {K : Bd} {T : Addr} {q : Str} {t : TS} {g : GS} {x : Str} {N : List Str} {G : GFB} (ss : SST K T q t g) (hG : ∀ ds n, G ds n (fun d _ => d = .bl true) → g ⟨startB (x :: N) ds, n⟩ okEnd) {vs : List V} {H : Hp} {Q : VK} {E : XK} (h : spBT K T q G vs H Q E) : t { nx := fun _ H' => Q .non H', rt := Q } (L2.start (x :: N) vs) H := by
  obtain ⟨b, c, ms, n, ns, rfl, hB, hT, hg, hQ⟩ := h
  have es : L2.start (x :: N) (.ref b :: ns.map V.int) = some (.ref b) :: L2.start N (ns.map V.int) := by
    simp [L2.start]
  rw [es]
  let B : Hp := fun a => if a = b ∨ a = c ∨ a = T then none else H a
  have r : RpA K.k B (ns.map V.int) (ns.map D.int) := rp_intsA ns
  have at0 : ∀ (i : Nat) (e : En), (startB (x :: N) (ns.map D.int))[i]? = some (some e) → (i = 0 ∧ e = .bag) ∨ ∃ j d v, i = j + 1 ∧ e = .val d ∧ (L2.start N (ns.map V.int))[j]? = some (some v) ∧ Rp K.k B v d := by
    intro i e h
    cases i with
    | zero => exact .inl ⟨rfl, by simpa [startB] using h.symm⟩
    | succ j =>
      have h' : (startD N (ns.map D.int))[j]? = some (some e) := by simpa [startB] using h
      obtain ⟨d, v, h1, h2, h3⟩ := start_get r h'
      exact .inr ⟨j, d, v, rfl, h1, h2, h3⟩
  have noOwn : ∀ (i : Nat) (e : En), (startB (x :: N) (ns.map D.int))[i]? = some (some e) → e.isOwn = true → False := by
    intro i e h o
    rcases at0 i e h with ⟨_, rfl⟩ | ⟨_, _, _, _, rfl, _⟩ <;> cases o
  have Bn : ∀ {a}, a = b ∨ a = c ∨ a = T → B a = none := fun {a} z => if_pos z
  have Bs : ∀ {a}, ¬ (a = b ∨ a = c ∨ a = T) → B a = H a := fun {a} z => if_neg z
  have xB : Ext B H := by
    intro a o h
    by_cases z : a = b ∨ a = c ∨ a = T
    · rw [Bn z] at h
      cases h
    · rw [← Bs z]
      exact h
  obtain ⟨t0, r0, hb, hc, hrest⟩ := id hB
  have R0 : Rep ⟨K, b, c, ms, true⟩ ⟨B, H, some (.ref b) :: L2.start N (ns.map V.int), ⟨startB (x :: N) (ns.map D.int), n⟩⟩ := by
    refine ⟨xB, ?_, fun i e h => ?_, fun i j ei ej l h1 o1 _ _ _ _ => (noOwn i ei h1 o1).elim, fun _ => ⟨hB, Bn (.inl rfl), Bn (.inr (.inl rfl))⟩⟩
    · show (some (V.ref b) :: L2.start N (ns.map V.int)).length = (startB (x :: N) (ns.map D.int)).length
      simp [startB, start_len (N := N) r]
    · rcases at0 i e h with ⟨rfl, rfl⟩ | ⟨j, d, v, rfl, rfl, h1, h2⟩
      · exact ⟨rfl, rfl⟩
      · exact ⟨v, by simpa using h1, h2⟩
  obtain ⟨ps, t1, t2, t3⟩ := hT
  have TA : TabA ⟨B, H, some (.ref b) :: L2.start N (ns.map V.int), ⟨startB (x :: N) (ns.map D.int), n⟩⟩ T q := by
    refine ⟨Bn (.inr (.inr rfl)), ps, t1, t2, fun pos cv e => ?_⟩
    obtain ⟨a, e2, e3⟩ := t3 pos cv e
    refine ⟨a, e2, ?_⟩
    show B a = _
    rw [Bs ?_]
    · exact e3
    · rintro (z | z | z)
      · rw [z, hb] at e3; cases e3
      · rw [z, hc] at e3; cases e3
      · rw [z, t1] at e3; cases e3
  refine ss ⟨K, b, c, ms, true⟩ rfl ⟨B, H, some (.ref b) :: L2.start N (ns.map V.int), ⟨startB (x :: N) (ns.map D.int), n⟩⟩ _ _ _ R0 TA (hG _ _ hg) (fun c' R' TA' p => p.elim) (fun c' v w H0 R' D' p => ?_)
  obtain ⟨d, s', e, rfl⟩ := p
  rw [den_bl R' D' e]
  exact hQ _
/-- a law whose last row calls such a def -/
theorem top_runB {K : Bd} {T : Addr} {q : Str} {t : TS} {g : GS} {G : GFB} {ta : TA} {ga : GA} {E0 : XK} (ss : SS K t g) (ha : SA K ta ga) {n : Nat} {b c : Addr} {ms : List Int} {H : Hp} {σ : L2.St} {Q : VK} (hB : BagAt H b c ms 0) (hT : LamX.TabS H T q) (e1 : σ[1]? = some (some (.ref b))) (el : σ.length = n + 2)
    (hg : g ⟨none :: some .bag :: List.replicate n none, 0⟩ { nx := fun s => s.r[1]? = some (some .bag) ∧ ga s fun ws s1 => ∃ ns : List Int, rdA ws s1 = some (ns.map D.int) ∧ G (ns.map D.int) s1.n (fun d _ => d = .bl true), rt := fun w s => ∃ d s', frz w s = some (d, s') ∧ d = .bl true }) (hQ : ∀ H', Q (.bl true) H') :
    (tSeq t (tRet (tCall (spBT K T q G) [] E0 (tCons (tVar 1) ta)))) { nx := fun _ H' => Q .non H', rt := Q } σ H := by
  have at0 : ∀ (i : Nat) (e : En), (none :: some En.bag :: List.replicate n none)[i]? = some (some e) → i = 1 ∧ e = .bag := by
    intro i e h
    match i, h with
    | 0, h => cases h
    | 1, h => exact ⟨rfl, (Option.some.inj (Option.some.inj h)).symm⟩
    | i + 2, h =>
      have h' : (List.replicate n (none : Option En))[i]? = some (some e) := h
      rw [List.getElem?_replicate] at h'
      split at h' <;> cases h'
  let s0 : Stt := ⟨none :: some .bag :: List.replicate n none, 0⟩
  let B : Hp := fun a => if a = b ∨ a = c ∨ a = T then none else H a
  have noOwn : ∀ (i : Nat) (e : En), s0.r[i]? = some (some e) → e.isOwn = true → False := by
    intro i e h o
    obtain ⟨_, rfl⟩ := at0 i e h
    cases o
  have Bn : ∀ {a}, a = b ∨ a = c ∨ a = T → B a = none := fun {a} z => if_pos z
  have Bs : ∀ {a}, ¬ (a = b ∨ a = c ∨ a = T) → B a = H a := fun {a} z => if_neg z
  have xB : Ext B H := by
    intro a o h
    by_cases z : a = b ∨ a = c ∨ a = T
    · rw [Bn z] at h
      cases h
    · rw [← Bs z]
      exact h
  obtain ⟨t0, r0, hb, hc, hrest⟩ := id hB
  have R0 : Rep ⟨K, b, c, ms, true⟩ ⟨B, H, σ, s0⟩ := by
    refine ⟨xB, ?_, fun i e h => ?_, fun i j ei ej l h1 o1 _ _ _ _ => (noOwn i ei h1 o1).elim, fun _ => ⟨hB, Bn (.inl rfl), Bn (.inr (.inl rfl))⟩⟩
    · show σ.length = (none :: some En.bag :: List.replicate n none).length
      rw [el]
      simp
    · obtain ⟨rfl, rfl⟩ := at0 i e h
      exact ⟨rfl, e1⟩
  obtain ⟨ps, t1, t2, t3⟩ := hT
  have TA : TabA ⟨B, H, σ, s0⟩ T q := by
    refine ⟨Bn (.inr (.inr rfl)), ps, t1, t2, fun pos cv e => ?_⟩
    obtain ⟨a, e2, e3⟩ := t3 pos cv e
    refine ⟨a, e2, ?_⟩
    show B a = _
    rw [Bs ?_]
    · exact e3
    · rintro (z | z | z)
      · rw [z, hb] at e3; cases e3
      · rw [z, hc] at e3; cases e3
      · rw [z, t1] at e3; cases e3
  refine (sst_of ss : SST K T q t g) ⟨K, b, c, ms, true⟩ rfl ⟨B, H, σ, s0⟩ _ _ _ R0 TA hg (fun c' R' TA' p => ?_) (fun c' v w H0 R' D' p => ?_)
  · obtain ⟨hi, p⟩ := p
    have y := R'.at_ 1 _ hi
    refine ⟨.ref b, y.2, ?_⟩
    refine ha ⟨K, b, c, ms, true⟩ rfl c' _ _ R' p fun c2 vs ws R2 G2 D2 p2 => ?_
    obtain ⟨ns, e, gg⟩ := p2
    have ev := rq_ints (rdA_ok R2 D2 e)
    subst ev
    have TA2 := TA'.go R' G2.go
    exact ⟨b, c, ms, c2.s.n, ns, by simp, (R2.bag rfl).1, (TA2.tabs R2) (T, q) List.mem_cons_self, gg, hQ⟩
  · obtain ⟨d, s', e, rfl⟩ := p
    show Q v c'.H
    rw [den_bl R' D' e]
    exact hQ _
end DL
set_option maxHeartbeats 1000000
/-! Tuples without a dict: tuple(l), t.count(x); properties; instances that are walked by iter(self.f); own lists and dicts looked at in calls that give tuples. -/
namespace DL
open PySem PySem.Spec PyProof.Rows L2 Ax
section
variable {K : Bd}
/-! ### tuple(l), told as a tuple without a dict -/
def fTupZ : List D → Option W
  | [.lst ds] => some (.dat (.tpz ds))
  | _ => none
theorem cs_tupZ : ClS K (rTupZ K) fTupZ := by
  intro F hK c xs ds w Q R hx hf q
  subst hK
  cases hx with
  | nil => cases hf
  | @cons x d xs ds h t =>
    cases t with
    | cons _ _ => cases d <;> cases hf
    | nil =>
      cases d with
      | lst ds =>
        cases Option.some.inj hf
        obtain ⟨a, vs, rfl, h1, h2⟩ := h.lst R
        refine ⟨a, vs, rfl, SqL.of h1, fun l ob hl hc hd => ?_⟩
        obtain ⟨R', G'⟩ := R.putB (o := .frz ob (.tup vs)) hl
        exact q ⟨upd c.B l (.frz ob (.tup vs)), upd c.H l (.frz ob (.tup vs)), c.σ, c.s⟩ _ R' G' rfl (.tpz upd_same hc hd.1 (h2.ext G'.go.b))
      | _ => cases hf
/-! ### t.count(x), texts -/
def gCountZ (g1 g2 : GX) : GX := fun s Φ => g1 s fun w1 s1 => (∃ ds, rd w1 s1 = some (.tpz ds)) ∧ g2 s1 fun w2 s2 => ∃ (ys : List Str) (k : Str), rd w1 s2 = some (.tpz (ys.map D.str)) ∧ rd w2 s2 = some (.str k) ∧ Φ (.dat (.int (ys.count k : Nat))) s2
theorem rpa_strs {K : Bk} {B : Hp} : ∀ {vs : List V} {ys : List Str}, RpA K B vs (ys.map D.str) → vs = ys.map V.str
  | _, [], .nil => rfl
  | _, y :: ys, .cons h t => by
    cases h
    rw [rpa_strs t]
    rfl
theorem rpa_ofStrs {K : Bk} {B : Hp} : ∀ ys : List Str, RpA K B (ys.map V.str) (ys.map D.str)
  | [] => .nil
  | y :: ys => .cons (.str y) (rpa_ofStrs ys)
theorem se_countZ {t1 t2 : TE} {g1 g2 : GX} (h1 : SE K t1 g1) (h2 : SE K t2 g2) : SE K (tTM (rCntS K.K) t1 (tCons t2 tNil)) (gCountZ g1 g2) := by
  intro F hK c Φ Q R p q
  subst hK
  refine h1 F rfl c _ _ R p fun c1 v1 w1 R1 G1 D1 p1 => ?_
  obtain ⟨⟨ds0, e0⟩, p1⟩ := p1
  obtain ⟨a, ob, vs0, rfl, q1, q2, q3, _⟩ := (rd_ok R1 D1 e0).tpz R1
  refine ⟨⟨a, ob, vs0, rfl, q1, q2, q3⟩, ?_⟩
  refine h2.run rfl G1.σ R1 p1 fun c2 v2 w2 R2 G2 D2 p2 => ?_
  obtain ⟨ys, k, e1, e2, p3⟩ := p2
  obtain ⟨a', ob', vs1, ea, _, _, _, k2, r2, _⟩ := (rd_ok R2 (D1.keep G2) e1).tpz R2
  cases ea
  have ev := rpa_strs r2
  subst ev
  have ek := (rd_ok R2 D2 e2).str
  subst ek
  exact ⟨a, ys, k, rfl, rfl, k2, q c2 _ (.dat (.int (ys.count k : Nat))) R2 (G1.trans G2) (Rp.int _) p3⟩
/-! ### a tuple of texts that stands in the module -/
theorem se_gtup {a : Addr} {ys : List Str} (h : ∀ H : Hp, SqT K.K H a (ys.map V.str)) : SE K (tC (.ref a)) (gDat (.tup (ys.map D.str))) := by
  intro F hK c Φ Q R p q
  subst hK
  exact q c (.ref a) (.dat (.tup (ys.map D.str))) R GoE.rfl' (.tup (h c.B) (rpa_ofStrs ys)) p
/-! ### o.p, p a property -/
def gProp (C : Str) (G : GF) (g : GX) : GX := fun s Φ => g s fun w s1 => ∃ ks ds0, rd w s1 = some (.ins C ks ds0) ∧ G [.ins C ks ds0] fun d => Φ (.dat d) s1
theorem se_prop {C : Str} {G : GF} {E : XK} {t : TE} {g : GX} (h : SE K t g) : SE K (tProp (He.ga K.K C) (spP K G) [] E t) (gProp C G g) := by
  intro F hK c Φ Q R p q
  subst hK
  refine h F rfl c _ _ R p fun c1 v w R1 G1 D1 p1 => ?_
  obtain ⟨ks, ds0, e, g3⟩ := p1
  obtain ⟨a, dx, xs, rfl, hB, hl, r⟩ := (rd_ok R1 D1 e).ins
  refine ⟨a, dx, _, rfl, R1.le _ _ hB, ?_⟩
  refine ⟨c1.B, [.ins C ks ds0], _, R1.le, .cons (.ins hB hl r) .nil, g3, fun B' H' v d x1 x2 x3 nb rv hΦ => ?_⟩
  obtain ⟨R4, G4⟩ := R1.grow x1 x2 x3 nb
  exact q _ v (.dat d) R4 (G1.trans G4) rv hΦ
/-! ### for x in o -/
def itemsT : D → Option (List D)
  | .tup ds => some ds
  | .tpz ds => some ds
  | _ => none
def giOwn (C f : Str) (g : GX) : GI := fun s Φ => g s fun w s1 => ∃ ks ds d es, rd w s1 = some (.ins C ks ds) ∧ (ks.zip ds).lookup f = some d ∧ itemsT d = some es ∧ Φ es s1
theorem si_own {C f : Str} {t : TE} {g : GX} (h : SE K t g) : SI K (iOwn K (He.ga K.K C) f t) (giOwn C f g) := by
  intro F hK c Φ Rr R p q
  subst hK
  refine h F rfl c _ _ R p fun c1 v w R1 G1 D1 p1 => ?_
  obtain ⟨ks, ds, d, es, e, l, ei, p2⟩ := p1
  obtain ⟨a, dx, xs, rfl, hB, hl, r⟩ := (rd_ok R1 D1 e).ins
  obtain ⟨v', l', r'⟩ := zip_lookup r l
  cases r' with
  | @tup t' zs _ h1 h2 =>
    cases Option.some.inj ei
    exact ⟨a, dx, t', _, rfl, R1.le _ _ hB, l', ⟨zs, h1.ext R1.le⟩, q c1 _ _ R1 G1 (wd_tup h1 h2) p2⟩
  | @tpz t' ob zs _ h1 _ _ h2 =>
    cases Option.some.inj ei
    have h1 : SqT F.K c1.B t' zs := .inl (.inr ⟨_, h1⟩)
    exact ⟨a, dx, t', _, rfl, R1.le _ _ hB, l', ⟨zs, h1.ext R1.le⟩, q c1 _ _ R1 G1 (wd_tup h1 h2) p2⟩
  | _ => cases ei
/-! ### dicts with nested keys as data: d.get(k), k in d, d[k] -/
theorem dnk_paired {K : Bk} {B : Hp} : ∀ {as : List Addr} {ks : List NK} {xs : List V} {ds : List D}, as.length = ks.length → xs.length = ks.length → (∀ k ∈ ks, k.depth ≤ 8) → RpA K B (as.map V.ref) (dNs ks) → RpA K B xs ds → Paired (KtR K B) (ks.zip (as.zip xs)) (ks.zip ds)
  | [], [], [], _, _, _, _, _, _ => by simp; exact .nil
  | a :: as, k :: ks, x :: xs, [], _, _, _, _, h => by cases h
  | a :: as, k :: ks, x :: xs, d :: ds, h1, h2, h3, h4, h5 => by
    simp only [List.map_cons, dNs] at h4
    cases h4 with
    | cons g1 g2 =>
      cases h5 with
      | cons f1 f2 =>
        simp only [List.zip_cons_cons]
        exact .cons ⟨rfl, h3 k List.mem_cons_self, g1, f1⟩ (dnk_paired (by simpa using h1) (by simpa using h2) (fun k hk => h3 k (List.mem_cons_of_mem _ hk)) g2 f2)
  | a :: as, [], _, _, h, _, _, _, _ => by simp at h
  | [], k :: ks, _, _, h, _, _, _, _ => by simp at h
  | _, k :: ks, [], _, _, h, _, _, _ => by simp at h
  | _, [], x :: xs, _, _, h, _, _, _ => by simp at h
theorem dnk_at {F : Fx} {c : Cf} {v : V} {ks : List NK} {ds : List D} (R : Rep F c) (h : Rq F c v (.dnk ks ds)) : ∃ a es, v = .ref a ∧ c.H a = some (NdO F.P F.w a es) ∧ NdAt F.K F.P F.w c.H a es ∧ Paired (KtR F.K c.B) es (ks.zip ds) := by
  rcases h with h | ⟨l, vs, ds', rfl, e, _⟩
  · cases h with
    | @dnk a ks as xs ds h1 h2 h3 h4 h5 h6 =>
      have p := dnk_paired h2 h3 h4 h5 h6
      exact ⟨a, _, rfl, R.le _ _ h1, nd_at R (R.le _ _ h1) p, p⟩
  · cases e
def gGetD (g1 g2 : GX) : GX := fun s Φ => g1 s fun w1 s1 => (∃ ks ds, rd w1 s1 = some (.dnk ks ds)) ∧ g2 s1 fun w2 s2 => ∃ ks ds kk, rd w1 s2 = some (.dnk ks ds) ∧ rd w2 s2 = some (dN (.tup kk)) ∧ (NestedKey.tup kk).depth ≤ 8 ∧ Φ (.dat ((getK (ks.zip ds) (.tup kk)).getD .non)) s2
theorem se_getD {t1 t2 : TE} {g1 g2 : GX} (h1 : SE K t1 g1) (h2 : SE K t2 g2) : SE K (tDM K.P K.w (rGetN K K.P K.w) t1 (tCons t2 tNil)) (gGetD g1 g2) := by
  intro F hK c Φ Q R p q
  subst hK
  refine h1 F rfl c _ _ R p fun c1 v1 w1 R1 G1 D1 p1 => ?_
  obtain ⟨⟨ks0, ds0, e0⟩, p1⟩ := p1
  obtain ⟨a, es, rfl, q1, _⟩ := dnk_at R1 (rd_ok R1 D1 e0)
  refine ⟨⟨a, es, rfl, q1⟩, ?_⟩
  refine h2.run rfl G1.σ R1 p1 fun c2 v2 w2 R2 G2 D2 p2 => ?_
  obtain ⟨ks, ds, kk, e1, e2, hd, p3⟩ := p2
  obtain ⟨a', es', ea, _, n, pr⟩ := dnk_at R2 (rd_ok R2 (D1.keep G2) e1)
  cases ea
  obtain ⟨t, rfl, dk⟩ := key_dp R2 (rd_ok R2 D2 e2)
  refine ⟨a, t, .tup kk, es', rfl, rfl, dk, hd, n, q c2 _ (.dat ((getK (ks.zip ds) (.tup kk)).getD .non)) R2 (G1.trans G2) ?_ p3⟩
  show Rp F.K c2.B _ _
  rcases kt_get pr (.tup kk) with ⟨f1, f2⟩ | ⟨v, d', f1, f2, rv⟩
  · rw [f1, f2]; exact .non
  · rw [f1, f2]; exact rv
def gInD (neg : Bool) (g1 g2 : GX) : GX := fun s Φ => g1 s fun w1 s1 => g2 s1 fun w2 s2 => ∃ ks ds kk, rd w2 s2 = some (.dnk ks ds) ∧ rd w1 s2 = some (dN (.tup kk)) ∧ (NestedKey.tup kk).depth ≤ 8 ∧ Φ (.dat (.bl (if neg then !(getK (ks.zip ds) (.tup kk)).isSome else (getK (ks.zip ds) (.tup kk)).isSome))) s2
theorem se_inD {neg : Bool} {t1 t2 : TE} {g1 g2 : GX} (h1 : SE K t1 g1) (h2 : SE K t2 g2) : SE K (tOp (rInN K K.P K.w neg) t1 t2) (gInD neg g1 g2) := by
  intro F hK c Φ Q R p q
  subst hK
  refine h1 F rfl c _ _ R p fun c1 v1 w1 R1 G1 D1 p1 => ?_
  refine h2.run rfl G1.σ R1 p1 fun c2 v2 w2 R2 G2 D2 p2 => ?_
  obtain ⟨ks, ds, kk, e1, e2, hd, p3⟩ := p2
  obtain ⟨a, es, rfl, _, n, pr⟩ := dnk_at R2 (rd_ok R2 D2 e1)
  obtain ⟨t, rfl, dk⟩ := key_dp R2 (rd_ok R2 (D1.keep G2) e2)
  have e : (getN es (.tup kk)).isSome = (getK (ks.zip ds) (.tup kk)).isSome := by
    rcases kt_get pr (.tup kk) with ⟨f1, f2⟩ | ⟨v, d', f1, f2, rv⟩
    · rw [f1, f2]; rfl
    · rw [f1, f2]; rfl
  refine ⟨t, a, .tup kk, es, rfl, rfl, dk, hd, n, ?_⟩
  rw [e]
  exact q c2 _ (.dat (.bl _)) R2 (G1.trans G2) (Rp.bl _) p3
def gIxD (g1 g2 : GX) : GX := fun s Φ => g1 s fun w1 s1 => g2 s1 fun w2 s2 => ∃ ks ds kk d, rd w1 s2 = some (.dnk ks ds) ∧ rd w2 s2 = some (dN (.tup kk)) ∧ (NestedKey.tup kk).depth ≤ 8 ∧ getK (ks.zip ds) (.tup kk) = some d ∧ Φ (.dat d) s2
theorem se_ixD {t1 t2 : TE} {g1 g2 : GX} (h1 : SE K t1 g1) (h2 : SE K t2 g2) : SE K (tOp (rIxN K K.P K.w) t1 t2) (gIxD g1 g2) := by
  intro F hK c Φ Q R p q
  subst hK
  refine h1 F rfl c _ _ R p fun c1 v1 w1 R1 G1 D1 p1 => ?_
  refine h2.run rfl G1.σ R1 p1 fun c2 v2 w2 R2 G2 D2 p2 => ?_
  obtain ⟨ks, ds, kk, d, e1, e2, hd, e3, p3⟩ := p2
  obtain ⟨a, es, rfl, _, n, pr⟩ := dnk_at R2 (rd_ok R2 (D1.keep G2) e1)
  obtain ⟨t, rfl, dk⟩ := key_dp R2 (rd_ok R2 D2 e2)
  rcases kt_get pr (.tup kk) with ⟨f1, f2⟩ | ⟨v, d', f1, f2, rv⟩
  · rw [f2] at e3; cases e3
  · rw [f2] at e3
    cases e3
    exact ⟨a, t, .tup kk, es, v, rfl, rfl, dk, hd, n, f1, q c2 v (.dat d) R2 (G1.trans G2) rv p3⟩
/-! ### calls that only look at what is one's own, and give flat things and tuples of such -/
open Classical in
/-- the answer without what is one's own -/
theorem back_own {F : Fx} {c1 c2 : Cf} {B' H' : Hp} {v : V} {d : D} (R1 : Rep F c1) (b1 : c2.H = c1.H) (R2 : Rep F c2) (G2 : GoE F c1 c2) (x1 : Ext c2.B B') (x2 : Ext B' H') (x3 : Ext c2.H H') (nb : ∀ a, B' a ≠ none → c2.B a = none → c2.H a = none) (rp : Rp F.K B' v d) (hf : flatT d = true) :
    ∃ c3 : Cf, c3.H = H' ∧ c3.s = c1.s ∧ Rep F c3 ∧ GoE F c1 c3 ∧ Rp F.K c3.B v d := by
  rw [b1] at x3 nb
  let B2 : Hp := fun a => if Own c1 a then none else B' a
  have B2o : ∀ {a : Addr}, ¬ Own c1 a → B2 a = B' a := fun {a} n => if_neg n
  have y1 : Ext c1.B B2 := fun a o z => by
    have n : ¬ Own c1 a := fun m => by
      obtain ⟨i, e, k1, k0, k2⟩ := m
      obtain ⟨l, u, q1, q2, q3, q4, _⟩ := (R1.at_ i e k1).own k0
      rw [k2] at q1
      cases q1
      rw [q4] at z
      cases z
    rw [B2o n]
    exact x1 _ _ (G2.go.b _ _ z)
  have y2 : Ext B2 H' := fun a o z => by
    by_cases n : Own c1 a
    · have : B2 a = none := if_pos n
      rw [this] at z
      cases z
    · rw [B2o n] at z
      exact x2 _ _ z
  have y4 : ∀ a, B2 a ≠ none → c1.B a = none → c1.H a = none := fun a z w => by
    by_cases n : Own c1 a
    · exact absurd (if_pos n) z
    · rw [B2o n] at z
      cases u : c2.B a with
      | none => exact nb a z u
      | some o =>
        rcases G2.go.nb a (by rw [u]; exact fun k => nomatch k) w with k | k
        · exact k
        · exact absurd k n
  obtain ⟨R3, G3⟩ := R1.grow y1 y2 x3 y4
  refine ⟨⟨B2, H', c1.σ, c1.s⟩, rfl, rfl, R3, G3, flatT_rp (fun a xs m => ?_) rp hf⟩
  rcases m with m | m
  · left
    have keep : ∀ {o : HO}, B' a = some o → (∀ u, o ≠ .lst u) → (∀ u, o ≠ .dK u) → (∀ u1 u2 u3, o ≠ .ins u1 u2 u3) → (∀ f, o ≠ .ext f) → B2 a = some o := fun {o} e n1 n2 n3 n4 => by
      rw [B2o ?_]
      · exact e
      · rintro ⟨i, en, k1, k0, k2⟩
        obtain ⟨l, u, q1, q2, q3, _⟩ := (R1.at_ i en k1).own k0
        rw [k2] at q1
        cases q1
        have z := x3 _ _ q2
        rw [x2 _ _ e] at z
        cases Option.some.inj z
        cases en with
        | own ds => obtain ⟨w1, w2, _⟩ := q3; exact n1 _ w2
        | dct kvs => obtain ⟨w1, w2, _⟩ := q3; exact n4 _ w2
        | dck kvs => obtain ⟨w1, w2, _⟩ := q3; exact n2 _ w2
        | obj a C ks ds => obtain ⟨_, w1, w2, w3, _⟩ := q3; exact n3 _ _ _ w3
        | _ => exact q3.elim
    rcases m with m | ⟨o, m⟩
    · exact .inl (keep m (fun _ z => nomatch z) (fun _ z => nomatch z) (fun _ _ _ z => nomatch z) (fun _ z => nomatch z))
    · exact .inr ⟨o, keep m (fun _ z => nomatch z) (fun _ z => nomatch z) (fun _ _ _ z => nomatch z) (fun _ z => nomatch z)⟩
  · exact .inr m
/-- f(e, ..): what is one's own stays so -/
def gCallP (G : GF) (dd : List D) (ga : GA) : GX := fun s Φ => ga s fun ws s1 => ∃ ds s2, frzA ws s1 = some (ds, s2) ∧ G (ds ++ dd) fun d => flatT d = true ∧ Φ (.dat d) s1
theorem se_callP {G : GF} {dv : List V} {dd : List D} {E : XK} {t : TA} {ga : GA} (hd : ∀ B : Hp, RpA K B dv dd) (h : SA K t ga) : SE K (tCall (spP K G) dv E t) (gCallP G dd ga) := by
  intro F hK c Φ Q R p q
  subst hK
  refine h F rfl c _ _ R p fun c1 vs ws R1 G1 D1 p1 => ?_
  obtain ⟨ds, s2, e1, g⟩ := p1
  obtain ⟨c2, b1, b2, R2, G2, r⟩ := frzA_ok R1 D1 e1
  refine ⟨c2.B, ds ++ dd, _, by rw [← b1]; exact R2.le, r.app (hd _), g, fun B' H' v d x1 x2 x3 nb rv hΦ => ?_⟩
  rw [← b1] at x3 nb
  obtain ⟨c3, e3, e4, R3, G3, r3⟩ := back_own R1 b1 R2 G2 x1 x2 x3 nb rv hΦ.1
  rw [← e3]
  exact q c3 v (.dat d) R3 (G1.trans G3) r3 (by rw [e4]; exact hΦ.2)
/-- o.m(e, ..): what is one's own stays so -/
def gMethP (C m : Str) (G : GF) (dd : List D) (g : GX) (ga : GA) : GX := fun s Φ => g s fun w s1 => ∃ ks ds0, rd w s1 = some (.ins C ks ds0) ∧ m ∉ ks ∧ ga s1 fun ws s2 => ∃ ds s3, frzA ws s2 = some (ds, s3) ∧ G (.ins C ks ds0 :: (ds ++ dd)) fun d => flatT d = true ∧ Φ (.dat d) s2
theorem se_methP {C m : Str} {G : GF} {dv : List V} {dd : List D} {E : XK} {t : TE} {ta : TA} {g : GX} {ga : GA} (hd : ∀ B : Hp, RpA K B dv dd) (h : SE K t g) (h2 : SA K ta ga) : SE K (tMeth (He.ga K.K C) m (spP K G) dv E t ta) (gMethP C m G dd g ga) := by
  intro F hK c Φ Q R p q
  subst hK
  refine h F rfl c _ _ R p fun c1 v w R1 G1 D1 p1 => ?_
  obtain ⟨ks, ds0, e, hm, p2⟩ := p1
  obtain ⟨a, dx, xs, rfl, hB, hl, r⟩ := (rd_ok R1 D1 e).ins
  refine ⟨a, dx, _, rfl, R1.le _ _ hB, zip_none hm, ?_⟩
  refine h2.run rfl G1.σ rfl R1 p2 fun c2 vs ws R2 G2 D2 p3 => ?_
  obtain ⟨ds, s3, e3, g3⟩ := p3
  obtain ⟨c3, b1, b2, R3, G3, r3⟩ := frzA_ok R2 D2 e3
  have x12 := (G2.trans G3).go.b
  refine ⟨c3.B, .ins C ks ds0 :: (ds ++ dd), _, by rw [← b1]; exact R3.le, .cons (Rp.ext x12 (.ins hB hl r)) (r3.app (hd _)), g3, fun B' H' v d x1 x2 x3 nb rv hΦ => ?_⟩
  rw [← b1] at x3 nb
  obtain ⟨c4, f3, f4, R4, G4, r4⟩ := back_own R2 b1 R3 G3 x1 x2 x3 nb rv hΦ.1
  rw [← f3]
  exact q c4 v (.dat d) R4 ((G1.trans G2).trans G4) r4 (by rw [f4]; exact hΦ.2)
end
section
variable {s : Stt} {g g1 : GX} {ga : GA} {w w1 : W} {ws : List W} {ds es dd : List D} {d : D} {C m f : Str} {ks : List Str} {G : GF}
theorem Ev.countZ {g2 : GX} {w2 : W} {ys : List Str} {k : Str} (h1 : Ev g1 s w1) (r1 : rd w1 s = some (.tpz (ys.map D.str))) (h2 : Ev g2 s w2) (r2 : rd w2 s = some (.str k)) : Ev (gCountZ g1 g2) s (.dat (.int (ys.count k : Nat))) := fun Φ q => h1 _ ⟨⟨_, r1⟩, h2 _ ⟨ys, k, r1, r2, q⟩⟩
theorem Ev.prop (h : Ev g s w) (r : rd w s = some (.ins C ks ds)) (hG : ∀ Φ : D → Prop, Φ d → G [.ins C ks ds] Φ) : Ev (gProp C G g) s (.dat d) := fun Φ q => h _ ⟨ks, ds, r, hG _ q⟩
theorem EvI.own (h : Ev g s w) (r : rd w s = some (.ins C ks ds)) (l : (ks.zip ds).lookup f = some d) (e : itemsT d = some es) : EvI (giOwn C f g) s es := fun Φ q => h _ ⟨ks, ds, d, es, r, l, e, q⟩
theorem Ev.callP {s2 : Stt} (h : EvA ga s ws) (r : frzA ws s = some (ds, s2)) (hG : ∀ Φ : D → Prop, Φ d → G (ds ++ dd) Φ) (hf : flatT d = true) : Ev (gCallP G dd ga) s (.dat d) := fun Φ q => h _ ⟨ds, s2, r, hG _ ⟨hf, q⟩⟩
theorem Ev.methP {s2 : Stt} (h : Ev g s w) (r : rd w s = some (.ins C ks ds)) (hm : m ∉ ks) (ha : EvA ga s ws) (ra : frzA ws s = some (es, s2)) (hG : ∀ Φ : D → Prop, Φ d → G (.ins C ks ds :: (es ++ dd)) Φ) (hf : flatT d = true) : Ev (gMethP C m G dd g ga) s (.dat d) := fun Φ q => h _ ⟨ks, ds, r, hm, ha _ ⟨es, s2, ra, hG _ ⟨hf, q⟩⟩⟩
end
end DL
set_option maxHeartbeats 1000000
/-! A tuple with a dict in it that is changed through it: w = ({}, b, f); for e in es: .. w[0][i] = v; return w. The list of all that is told in it. -/
namespace DL
open PySem PySem.Spec PyProof.Rows L2 Ax
theorem Room.u1 {k : Nat} {A : Around} (r : Room k A) : A.units + 1 < cLine := by have := r.units; omega
structure Clean (s : Stt) : Prop where
  z : s.r[3]? = some none
  no : ∀ (i : Nat) (e : En), s.r[i]? = some (some e) → e.isOwn = false
abbrev wlD (kvs : List (NK × D)) (b f : Int) : D := .tup [.dnk (kvs.map (·.1)) (kvs.map (·.2)), .int b, .int f]
theorem Clean.put {s : Stt} (h : Clean s) {i : Nat} (hi : i ≠ 3) (d : D) : Clean (s.put i (.val d)) := by
  refine ⟨?_, fun j e q => ?_⟩
  · show (s.r.set i _)[3]? = _
    rw [List.getElem?_set_ne hi]
    exact h.z
  · have q' : (s.r.set i (some (.val d)))[j]? = some (some e) := q
    rcases get_set q' with ⟨_, e', _⟩ | ⟨_, q2⟩
    · cases Option.some.inj e'; rfl
    · exact h.no j e q2
theorem Clean.notOwn {c : Cf} (h : Clean c.s) (a : Addr) : ¬ Own c a := fun ⟨i, e, h1, h0, _⟩ => by
  rw [h.no i e h1] at h0; cases h0
section
variable {F : Fx} {c : Cf}
/-- a slot of which nothing is said -/
theorem Rep.setQ (R : Rep F c) (h : Clean c.s) (v : V) : Rep F { c with σ := c.σ.set 3 (some v) } := by
  have g : ∀ {j : Nat} {e : En}, c.s.r[j]? = some (some e) → (c.σ.set 3 (some v))[j]? = c.σ[j]? := fun {j e} q => by
    refine List.getElem?_set_ne fun z => ?_
    subst z
    rw [h.z] at q; cases q
  refine ⟨R.le, ?_, fun j e q => ?_, fun i j ei ej l h1 o1 h2 o2 _ _ => ?_, R.bag⟩
  · show (c.σ.set 3 (some v)).length = c.s.r.length
    rw [List.length_set]; exact R.len
  · have y := R.at_ j e q
    cases e with
    | val d => obtain ⟨u, y1, y2⟩ := y; exact ⟨u, (g q).trans y1, y2⟩
    | bag => exact ⟨y.1, (g q).trans y.2⟩
    | _ => have := h.no j _ q; cases this
  · rw [h.no i ei h1] at o1; cases o1
/-- a thing beside, told now -/
theorem Rep.addB (R : Rep F c) (h : Clean c.s) {l : Addr} {o : HO} (hl : c.H l = some o) (bl : c.B l = none) (nb : F.on = true → l ≠ F.b ∧ l ≠ F.c) : Rep F { c with B := upd c.B l o } := by
  have xB : Ext c.B (upd c.B l o) := Ext.upd bl
  refine ⟨fun a u e => ?_, R.len, fun j e q => ?_, fun i j ei ej l h1 o1 h2 o2 _ _ => ?_, fun on => ?_⟩
  · have e' : (upd c.B l o) a = some u := e
    by_cases z : a = l
    · rw [z, upd_same] at e'
      rw [z]
      exact hl.trans e'
    · rw [upd_ne z] at e'
      exact R.le _ _ e'
  · have y := R.at_ j e q
    cases e with
    | val d => obtain ⟨u, y1, y2⟩ := y; exact ⟨u, y1, y2.ext xB⟩
    | bag => exact y
    | _ => have := h.no j _ q; cases this
  · rw [h.no i ei h1] at o1; cases o1
  · obtain ⟨q1, q2, q3⟩ := R.bag on
    refine ⟨q1, ?_, ?_⟩
    · show (upd c.B l o) F.b = none
      rw [upd_ne (nb on).1.symm]; exact q2
    · show (upd c.B l o) F.c = none
      rw [upd_ne (nb on).2.symm]; exact q3
/-- a thing beside, changed -/
theorem Rep.updX (R : Rep F c) (h : Clean c.s) {l : Addr} {o : HO} (bl : c.B l = none) (nb : F.on = true → l ≠ F.b ∧ l ≠ F.c) : Rep F { c with H := upd c.H l o } := by
  refine ⟨fun a u e => ?_, R.len, fun j e q => ?_, R.sep, fun on => ?_⟩
  · show (upd c.H l o) a = some u
    have e' : c.B a = some u := e
    rw [upd_ne (fun z => by rw [z, bl] at e'; cases e')]
    exact R.le _ _ e'
  · have y := R.at_ j e q
    cases e with
    | val d => exact y
    | bag => exact y
    | _ => have := h.no j _ q; cases this
  · obtain ⟨q1, q2, q3⟩ := R.bag on
    exact ⟨q1.at_ (upd_ne (nb on).1.symm) (upd_ne (nb on).2.symm), q2, q3⟩
/-- slot 3, told now -/
theorem Rep.tell3 (R : Rep F c) (h : Clean c.s) {v : V} {d : D} (e : c.σ[3]? = some (some v)) (r : Rp F.K c.B v d) : Rep F { c with s := c.s.put 3 (.val d) } := by
  have g : ∀ {j : Nat} {e : En}, (c.s.r.set 3 (some (.val d)))[j]? = some (some e) → (j = 3 ∧ e = .val d) ∨ c.s.r[j]? = some (some e) := fun {j e} q => by
    rcases get_set q with ⟨a, e', _⟩ | ⟨_, q2⟩
    · exact .inl ⟨a, Option.some.inj e'⟩
    · exact .inr q2
  refine ⟨R.le, ?_, fun j en q => ?_, fun i j ei ej l h1 o1 h2 o2 _ _ => ?_, R.bag⟩
  · show c.σ.length = (c.s.r.set 3 _).length
    rw [List.length_set]; exact R.len
  · rcases g q with ⟨rfl, rfl⟩ | q
    · exact ⟨v, e, r⟩
    · have y := R.at_ j en q
      cases en with
      | val d => exact y
      | bag => exact y
      | _ => have := h.no j _ q; cases this
  · rcases g h1 with ⟨_, rfl⟩ | q
    · cases o1
    · rw [h.no i ei q] at o1; cases o1
end
/-- the state of the world that grows: the dict at l, the tuple at t -/
structure WI (F : Fx) (c0 c : Cf) (l t : Addr) (b f : Int) (kvs : List (NK × D)) : Prop where
  R : Rep F c
  G : Go F c0 c
  hl : ∃ ks, c.H l = some (NdO F.P F.w l ks) ∧ Paired (KtR F.K c.B) ks kvs
  ht : c.B t = some (.tup [.ref l, .int b, .int f])
  bl : c.B l = none
  σt : c.σ[3]? = some (some (.ref t))
  h0 : c0.H l = none
  cl : Clean c.s
section
variable {F : Fx} {c0 c : Cf} {l t : Addr} {b f : Int} {kvs : List (NK × D)}
theorem WI.nb (I : WI F c0 c l t b f kvs) (R0 : Rep F c0) : F.on = true → l ≠ F.b ∧ l ≠ F.c := R0.notBag I.h0
theorem WI.mut (I : WI F c0 c l t b f kvs) (R0 : Rep F c0) : ¬ MutA F c l := fun m => by
  rcases m with m | ⟨m1, m2⟩
  · exact I.cl.notOwn l m
  · exact (I.nb R0 m1).1 m2
theorem WI.go (I : WI F c0 c l t b f kvs) (R0 : Rep F c0) {c' : Cf} (R : Rep F c') (G : Go F c c') (hσ : c'.σ[3]? = c.σ[3]?) (cl : Clean c'.s) : WI F c0 c' l t b f kvs := by
  obtain ⟨ks, h1, h2⟩ := I.hl
  refine ⟨R, I.G.trans G, ⟨ks, G.fr l _ h1 (I.mut R0), Paired.imp' (fun p q ⟨a, c, d, e⟩ => ⟨a, c, d.ext G.b, e.ext G.b⟩) h2⟩, G.b _ _ I.ht, ?_, hσ.trans I.σt, I.h0, cl⟩
  cases q : c'.B l with
  | none => rfl
  | some o =>
    rcases G.nb l (by rw [q]; exact fun x => nomatch x) I.bl with z | z
    · rw [h1] at z; cases z
    · exact absurd z (I.cl.notOwn l)
/-- the world, told -/
theorem WI.told (I : WI F c0 c l t b f kvs) (R0 : Rep F c0) : ∃ B2 : Hp, (∀ a, a ≠ l → B2 a = c.B a) ∧ B2 l = c.H l ∧ Ext c.B B2 ∧ Rep F { c with B := B2 } ∧ Rp F.K B2 (.ref t) (wlD kvs b f) := by
  obtain ⟨ks, h1, h2⟩ := I.hl
  refine ⟨upd c.B l (NdO F.P F.w l ks), fun a z => upd_ne z, by rw [upd_same, h1], Ext.upd I.bl, I.R.addB I.cl h1 I.bl (I.nb R0), ?_⟩
  have r : Rp F.K (upd c.B l (NdO F.P F.w l ks)) (.ref l) (.dnk (kvs.map (·.1)) (kvs.map (·.2))) := dnk_rp h2 I.bl
  have tl : t ≠ l := fun z => by have := I.ht; rw [z, I.bl] at this; cases this
  exact .tup (.inl (.inl (by rw [upd_ne tl]; exact I.ht))) (.cons r (.cons (.int b) (.cons (.int f) .nil)))
end
def loopW (gT : GB) (gK gD gI : GX) (b f : Int) : List D → List (NK × D) → Stt → EndsD → Prop
  | [], kvs, s, De => De.rt (.dat (wlD kvs b f)) s
  | e :: es, kvs, s, De => gT (s.put 4 (.val e)) fun x s1 => Clean s1 ∧ if x = true then
      gK (s1.put 3 (.val (wlD kvs b f))) fun w s2 => s2 = s1.put 3 (.val (wlD kvs b f)) ∧ ∃ k, rd w s2 = some k ∧ flatT k = true ∧
        gD (s1.put 5 (.val k)) fun w s3 => Clean s3 ∧ ∃ v : Int, rd w s3 = some (.int v) ∧
          gI s3 fun w s4 => Clean s4 ∧ ∃ ks, rd w s4 = some (dN (.tup ks)) ∧ (NestedKey.tup ks).depth ≤ 8 ∧ kvs.length < 1000000 ∧ loopW gT gK gD gI b f es (putK kvs (.tup ks) (.int v)) s4 De
    else loopW gT gK gD gI b f es kvs s1 De
def gsMadeW (gX : GX) (gT : GB) (gK gD gI : GX) : GS := fun s De => Clean s ∧ (∃ b, s.r[2]? = some (some (.val (.int b)))) ∧ gX s fun w s1 => Clean s1 ∧ ∃ b f es, s.r[2]? = some (some (.val (.int b))) ∧ rd w s1 = some (.int f) ∧ s1.r[1]? = some (some (.val (.lst es))) ∧ loopW gT gK gD gI b f es [] s1 De
abbrev tMadeW (K : Bd) (tx : TE) (tt : TT) (tk td ti : TE) : TS := tSeq (tAsg (tTup (tCons (tDnew K.P K.w) (tCons (tVar 2) (tCons tx tNil)))) (L2.gName 3)) (tSeq (tFor (iSeq K.K (tVar 1)) (L2.gName 4) (tIfS tt (tSeq (tAsg tk (L2.gName 5)) (tAsg td (gSub (tOp (rIx K.K) (tVar 3) (tC (.int 0))) ti (rSetN K.K K.P K.w)))) tNext)) (tRet (tVar 3)))
section
variable {K : Bd}
theorem ss_madeW {tx tk td ti : TE} {tt : TT} {gX gK gD gI : GX} {gT : GB} (hx : SE K tx gX) (ht : SB K tt gT) (hk : SE K tk gK) (hd : SE K td gD) (hi : SE K ti gI) : SS K (tMadeW K tx tt tk td ti) (gsMadeW gX gT gK gD gI) := by
  intro F hK c0 E De R0 p ok
  subst hK
  obtain ⟨cl0, ⟨b, e2⟩, p⟩ := p
  intro l hl
  obtain ⟨v2, y1, y2⟩ := R0.at_ 2 _ e2
  have y2' : v2 = .int b := Rq.int (F := F) (c := c0) (.inl y2)
  subst y2'
  refine ⟨.int b, y1, ?_⟩
  obtain ⟨R1, G1⟩ := R0.putH (o := NdO F.P F.w l []) hl
  refine hx.run rfl rfl R1 p fun c2 v w R2 G2 D2 p2 => ?_
  obtain ⟨cl2, b', f, es, e2', e3, e1, p3⟩ := p2
  rw [e2] at e2'
  cases Option.some.inj (Option.some.inj e2')
  have hf := (rd_ok R2 D2 e3).int
  subst hf
  refine ⟨by rw [sizeLine_eq]; exact Nat.le_of_ble_eq_true rfl, fun t ht0 => ?_⟩
  have m1 : ¬ MutA F { c0 with H := upd c0.H l (NdO F.P F.w l []) } l := fun m => by
    rcases m with m | ⟨m1, m2⟩
    · exact Clean.notOwn (c := { c0 with H := upd c0.H l (NdO F.P F.w l []) }) cl0 l m
    · exact (R0.notBag hl m1).1 m2
  have hl2 : c2.H l = some (NdO F.P F.w l []) := G2.go.fr l _ upd_same m1
  have bl2 : c2.B l = none := by
    cases q : c2.B l with
    | none => rfl
    | some o =>
      rcases G2.go.nb l (by rw [q]; exact fun x => nomatch x) (R0.notB hl) with z | z
      · have z' : (upd c0.H l (NdO F.P F.w l [])) l = none := z
        rw [upd_same] at z'; cases z'
      · exact absurd z (Clean.notOwn (c := { c0 with H := upd c0.H l (NdO F.P F.w l []) }) cl0 l)
  obtain ⟨R3, G3⟩ := R2.putB (o := .tup [.ref l, .int b, .int f]) ht0
  have R4 := R3.setQ cl2 (.ref t)
  have tl : t ≠ l := fun z => by rw [z, hl2] at ht0; cases ht0
  have len3 : 3 < c2.σ.length := by
    rw [R2.len]
    exact (List.getElem?_eq_some_iff.mp cl2.z).1
  have G03 : Go F c0 { c2 with B := upd c2.B t (.tup [.ref l, .int b, .int f]), H := upd c2.H t (.tup [.ref l, .int b, .int f]) } := (G1.trans (G2.trans G3)).go
  have eσ : c2.σ = c0.σ := G2.σ
  have W0 : WI F c0 ⟨upd c2.B t (.tup [.ref l, .int b, .int f]), upd c2.H t (.tup [.ref l, .int b, .int f]), c2.σ.set 3 (some (.ref t)), c2.s⟩ l t b f [] := by
    refine ⟨R4, ⟨G03.b, G03.fr, G03.nb, fun a m => absurd m (Clean.notOwn (c := ⟨upd c2.B t (.tup [.ref l, .int b, .int f]), upd c2.H t (.tup [.ref l, .int b, .int f]), c2.σ.set 3 (some (.ref t)), c2.s⟩) cl2 a), G03.dom⟩, ⟨[], ?_, .nil⟩, upd_same, ?_, List.getElem?_set_self len3, hl, cl2⟩
    · show (upd c2.H t _) l = _
      rw [upd_ne tl.symm]; exact hl2
    · show (upd c2.B t _) l = none
      rw [upd_ne tl.symm]; exact bl2
  show (tSeq (tFor (iSeq F.bd.K (tVar 1)) (L2.gName 4) _) (tRet (tVar 3))) E (c0.σ.set 3 (some (.ref t))) _
  rw [← eσ]
  generalize hc : (⟨upd c2.B t (.tup [.ref l, .int b, .int f]), upd c2.H t (.tup [.ref l, .int b, .int f]), c2.σ.set 3 (some (.ref t)), c2.s⟩ : Cf) = c4 at W0
  have hH4 : upd c2.H t (.tup [.ref l, .int b, .int f]) = c4.H := by rw [← hc]
  have hσ4 : c2.σ.set 3 (some (.ref t)) = c4.σ := by rw [← hc]
  have hs4 : c2.s = c4.s := by rw [← hc]
  rw [hs4] at p3 e1
  rw [hσ4, hH4]
  clear hc hH4 hσ4 hs4 R3 G3 R4 G03 G2 R2 D2 G1 R1
  have hw := si_seq (se_name (K := F.bd) 1)
  show tFor (iSeq F.bd.K (tVar 1)) (L2.gName 4) (tIfS tt (tSeq (tAsg tk (L2.gName 5)) (tAsg td (gSub (tOp (rIx F.bd.K) (tVar 3) (tC (.int 0))) ti (rSetN F.bd.K F.bd.P F.bd.w)))) tNext) { E with nx := tRet (tVar 3) E } c4.σ c4.H
  unfold tFor
  refine hw F rfl c4 (fun ds s1 => ds = es ∧ s1 = c4.s) _ W0.R (by
    show gName 1 c4.s _
    unfold gName
    rw [e1]
    exact ⟨_, _, _, rfl, rfl, rfl, rfl⟩) fun c5 J ds R5 G5 W q5 => ?_
  obtain ⟨rfl, q5⟩ := q5
  have I5 : WI F c0 c5 l t b f [] := W0.go R0 R5 G5.go (by rw [G5.σ]) (by rw [q5]; exact W0.cl)
  rw [← q5] at p3
  obtain ⟨Y, hwk, hY⟩ := W.ex
  rw [← G5.σ]
  refine for_it hwk (fun i σ H => ∃ c6 kvs, c6.σ = σ ∧ c6.H = H ∧ Ext c5.B c6.B ∧ WI F c0 c6 l t b f kvs ∧ loopW gT gK gD gI b f (ds.drop i) kvs c6.s De) ⟨c5, [], rfl, rfl, Ext.rfl', I5, p3⟩ ?_ ?_ ?_
  · rintro i σ H _ ⟨c6, kvs, rfl, rfl, x6, I6, _⟩
    exact x6.trans I6.R.le
  · rintro i x σ H H' hi' ⟨c6, kvs, rfl, rfl, x6, I6, p6⟩ y
    obtain ⟨c7, d, eH, es7, eσ7, R7, G7, hd7, r7⟩ := hY i x c6 H' I6.R x6 hi' y
    have hdr : ds.drop i = d :: ds.drop (i + 1) := by
      rw [List.drop_eq_getElem_cons hi']
      have := List.getElem?_eq_getElem hi'
      rw [hd7] at this
      rw [← Option.some.inj this]
    rw [hdr] at p6
    have I7 : WI F c0 c7 l t b f kvs := I6.go R0 R7 G7 (by rw [eσ7]) (by rw [es7]; exact I6.cl)
    obtain ⟨R8, G8⟩ := R7.setV (i := 4) r7
    have I8 := I7.go R0 R8 G8 (List.getElem?_set_ne (by decide)) (I7.cl.put (by decide) d)
    rw [← eH, ← eσ7]
    have x8 : Ext c5.B c7.B := x6.trans G7.b
    refine ht F rfl _ _ _ R8 (by rw [← es7] at p6; exact p6) fun c9 k R9 G9 p9 => ?_
    obtain ⟨cl9, p9⟩ := p9
    have I9 := I8.go R0 R9 G9.go (by rw [G9.σ]) cl9
    have x9 : Ext c5.B c9.B := x8.trans G9.go.b
    have eσ9 : c9.σ = c7.σ.set 4 (some x) := G9.σ
    cases k with
    | false => exact ⟨c9, kvs, eσ9, rfl, x9, I9, p9⟩
    | true =>
      simp only [if_true] at p9
      obtain ⟨B2, b1, b2, b3, RB, rt⟩ := I9.told R0
      have RT := RB.tell3 (c := { c9 with B := B2 }) I9.cl I9.σt rt
      show (tSeq (tAsg tk (L2.gName 5)) _) _ (c7.σ.set 4 (some x)) c9.H
      rw [← eσ9]
      refine hk F rfl { c9 with B := B2, s := c9.s.put 3 (.val (wlD kvs b f)) } _ _ RT p9 fun cA vk wk RA GA DA pA => ?_
      obtain ⟨esA, kd, ek, hfl, pA⟩ := pA
      have rk0 := rd_ok RA DA ek
      have rk : Rp F.K cA.B vk kd := by
        rcases rk0 with h | ⟨_, _, _, _, e, _⟩
        · exact h
        · rw [e] at hfl; simp [flatT] at hfl
      -- back to what was told
      let Bz : Hp := fun a => if a = l then none else cA.B a
      have Bz_ne : ∀ {a : Addr}, a ≠ l → Bz a = cA.B a := fun z => if_neg z
      have Bz_l : Bz l = none := if_pos rfl
      have xz : Ext c9.B Bz := fun a o e => by
        have z : a ≠ l := fun z => by rw [z, I9.bl] at e; cases e
        rw [Bz_ne z]
        exact GA.go.b a o (b3 a o e)
      have xz2 : Ext Bz cA.B := fun a o e => by
        by_cases z : a = l
        · rw [z, Bz_l] at e; cases e
        · rw [Bz_ne z] at e; exact e
      obtain ⟨ks9, h91, h92⟩ := I9.hl
      have hlA : cA.B l = some (NdO F.P F.w l ks9) := GA.go.b l _ (b2.trans h91)
      have RZ : Rep F ⟨Bz, cA.H, c9.σ, c9.s⟩ := by
        refine ⟨xz2.trans RA.le, I9.R.len, fun j e q => ?_, fun i j ei ej l h1 o1 h2 o2 _ _ => ?_, fun on => ?_⟩
        · have y := I9.R.at_ j e q
          cases e with
          | val d => obtain ⟨u, y1, y2⟩ := y; exact ⟨u, y1, y2.ext xz⟩
          | bag => exact y
          | _ => have := I9.cl.no j _ q; cases this
        · rw [I9.cl.no i ei h1] at o1; cases o1
        · obtain ⟨q1, q2, q3⟩ := RA.bag on
          rw [esA] at q1
          refine ⟨q1, ?_, ?_⟩
          · exact (Bz_ne (I9.nb R0 on).1.symm).trans q2
          · exact (Bz_ne (I9.nb R0 on).2.symm).trans q3
      have noX : ∀ a, ¬ Own { c9 with B := B2, s := c9.s.put 3 (.val (wlD kvs b f)) } a := fun a ⟨i, e, h1, h0, _⟩ => by
        have h1' : (c9.s.r.set 3 (some (.val (wlD kvs b f))))[i]? = some (some e) := h1
        rcases get_set h1' with ⟨_, e', _⟩ | ⟨_, q2⟩
        · cases Option.some.inj e'; cases h0
        · rw [I9.cl.no i e q2] at h0; cases h0
      have GZ : Go F c9 ⟨Bz, cA.H, c9.σ, c9.s⟩ := by
        refine ⟨xz, fun a o e n => ?_, fun a e n => ?_, fun a m => absurd m (Clean.notOwn (c := ⟨Bz, cA.H, c9.σ, c9.s⟩) I9.cl a), fun a e => GA.go.dom a e⟩
        · exact GA.go.fr a o e fun m => by
            rcases m with m | m
            · exact noX a m
            · exact n (.inr m)
        · by_cases z : a = l
          · have e' : Bz a ≠ none := e
            rw [z, Bz_l] at e'; exact absurd rfl e'
          · have e' : Bz a ≠ none := e
            rw [Bz_ne z] at e'
            rcases GA.go.nb a e' ((b1 a z).trans n) with q | q
            · exact .inl q
            · exact absurd q (noX a)
      have IZ := I9.go R0 RZ GZ rfl I9.cl
      have rkz : Rp F.K Bz vk kd := flatT_rp (fun a xs m => by
        rcases m with m | m
        · have keep : ∀ {o : HO}, cA.B a = some o → (∀ f, o ≠ .ext f) → Bz a = some o := fun {o} e n => by
            rw [Bz_ne fun z => by rw [z, hlA] at e; cases Option.some.inj e; exact n _ rfl]
            exact e
          rcases m with m | ⟨o, m⟩
          · exact .inl (.inl (keep m fun _ z => nomatch z))
          · exact .inl (.inr ⟨o, keep m fun _ z => nomatch z⟩)
        · exact .inr m) rk hfl
      have eσA : cA.σ = c9.σ := GA.σ
      show tAsg td _ _ (c9.σ.set 5 (some vk)) cA.H
      obtain ⟨RC, GC⟩ := RZ.setV (i := 5) rkz
      have IC := IZ.go R0 RC GC (List.getElem?_set_ne (by decide)) (IZ.cl.put (by decide) kd)
      have xC : Ext c5.B Bz := x9.trans xz
      refine hd F rfl _ _ _ RC pA fun cD vd wd RD GD DD pD => ?_
      obtain ⟨clD, vi, ed, pD⟩ := pD
      have ID := IC.go R0 RD GD.go (by rw [GD.σ]) clD
      have hvd := (rd_ok RD DD ed).int
      subst hvd
      have eσD : cD.σ = c9.σ.set 5 (some vk) := GD.σ
      have xD : Ext c5.B cD.B := xC.trans GD.go.b
      rw [← eσD]
      refine ⟨.ref t, ID.σt, ?_⟩
      -- w[0]
      refine .inr (.inl ⟨t, _, 0, .ref l, rfl, rfl, .inl (.inl (ID.R.le _ _ ID.ht)), rfl, ?_⟩)
      refine hi.run rfl rfl RD pD fun cE ve we RE GE DE pE => ?_
      obtain ⟨clE, ksE, eE, dE, lE, pE⟩ := pE
      have IE := ID.go R0 RE GE.go (by rw [GE.σ]) clE
      have rE0 := rd_ok RE DE eE
      obtain ⟨tk', rfl, dk⟩ := key_dp RE rE0
      have rE : Rp F.K cE.B (.ref tk') (dN (.tup ksE)) := by
        rcases rE0 with h | ⟨_, _, _, _, e, _⟩
        · exact h
        · simp [dN] at e
      obtain ⟨ks, k1, k2⟩ := IE.hl
      refine ⟨l, tk', .tup ksE, ks, rfl, rfl, dk, dE, nd_at IE.R k1 k2, k1, by rw [kt_len k2, sizeLine_eq]; omega, ?_⟩
      have kp := kt_put k2 rE dE (Rp.int (K := F.K) (B := cE.B) vi)
      have RF := IE.R.updX IE.cl (l := l) (o := NdO F.P F.w l (putN ks (.tup ksE) tk' (.int vi))) IE.bl (IE.nb R0)
      refine ⟨{ cE with H := upd cE.H l (NdO F.P F.w l (putN ks (.tup ksE) tk' (.int vi))) }, _, ?_, rfl, xD.trans GE.go.b, ⟨RF, ⟨IE.G.b, fun a o e n => ?_, IE.G.nb, fun a m => absurd m (Clean.notOwn (c := { cE with H := upd cE.H l (NdO F.P F.w l (putN ks (.tup ksE) tk' (.int vi))) }) IE.cl a), fun a e => ?_⟩, ⟨_, upd_same, kp⟩, IE.ht, IE.bl, IE.σt, IE.h0, IE.cl⟩, pE⟩
      · show cE.σ = _
        exact GE.σ
      · show (upd cE.H l _) a = some o
        rw [upd_ne (fun z => by rw [z, IE.h0] at e; cases e)]
        exact IE.G.fr a o e n
      · show (upd cE.H l _) a ≠ none
        by_cases z : a = l
        · rw [z, upd_same]; exact fun x => nomatch x
        · rw [upd_ne z]; exact IE.G.dom a e
  · rintro σ H ⟨c6, kvs, rfl, rfl, x6, I6, p6⟩
    rw [List.drop_length] at p6
    refine ⟨.ref t, I6.σt, ?_⟩
    obtain ⟨B2, b1, b2, b3, RB, rt⟩ := I6.told R0
    refine ok.rt { c6 with B := B2 } (.ref t) (.dat (wlD kvs b f)) RB ⟨I6.G.b.trans b3, I6.G.fr, fun a e n => ?_, fun a m => absurd m (Clean.notOwn (c := { c6 with B := B2 }) I6.cl a), I6.G.dom⟩ rt p6
    by_cases z : a = l
    · exact .inl (z ▸ I6.h0)
    · have e' : B2 a ≠ none := e
      rw [b1 a z] at e'
      exact I6.G.nb a e' n
end
end DL
set_option maxHeartbeats 1000000
/-! [(x, y, w[0][(x, y)]) for x, y in w[0]]: all that is told in the dict of a tuple. -/
namespace DL
open PySem PySem.Spec PyProof.Rows L2 Ax
mutual
theorem flat_dN : ∀ k : NK, flatT (dN k) = true
  | .none => by simp [dN, flatT]
  | .num i => by simp [dN, flatT]
  | .text x => by simp [dN, flatT]
  | .tup ks => by simp [dN, flatT, flats_dN ks]
theorem flats_dN : ∀ ks : List NK, flatTs (dNs ks) = true
  | [] => by simp [dNs, flatTs]
  | k :: ks => by simp [dNs, flatTs, flat_dN k, flats_dN ks]
end
theorem walk_keysN {P : Program} {w : World} {d : Addr} {o : Obj} {kvs : Kvs} : Walk (Itn P w d o kvs) kvs.length (fun H => H d = some (.frz o (NdO P w d kvs))) (fun i H x H' => H' = H ∧ ∃ p, kvs[i]? = some p ∧ x = .ref p.2.1) :=
  ⟨fun i H hi h => ⟨h, hi⟩, fun H h => ⟨h, Nat.le_refl _⟩, fun i H x H' _ _ y => y⟩
def rowT (kvs : List (NK × D)) : NK → D
  | .tup [k1, k2] => .tup [dN k1, dN k2, (getK kvs (.tup [k1, k2])).getD .non]
  | _ => .non
def gTold : GX := fun s Φ => s.r.length = 3 ∧ ∃ ks ds rest, s.r[0]? = some (some (.val (.tup (.dnk ks ds :: rest)))) ∧ ks.length ≤ 1000000 ∧ (∀ k ∈ ks, ∃ k1 k2, k = .tup [k1, k2]) ∧ (∀ d ∈ ds, flatT d = true) ∧ Φ (.new (ks.map (rowT (ks.zip ds)))) s
abbrev tTold (K : Bd) : TE := tLockE (tLc (iKeysN K.P K.w (tOp (rIx K.K) (tVar 0) (tC (.int 0)))) (L2.gTup K.K 2 (gCons (L2.gName 1) (gCons (L2.gName 2) gNil))) tYes (tTup (tCons (tVar 1) (tCons (tVar 2) (tCons (tOp (rIxN K.K K.P K.w) (tOp (rIx K.K) (tVar 0) (tC (.int 0))) (tTup (tCons (tVar 1) (tCons (tVar 2) tNil)))) tNil)))) [1, 2])
theorem kt_all {K : Bk} {B : Hp} : ∀ {es : Kvs} {kvs : List (NK × D)}, Paired (KtR K B) es kvs → ∀ {i : Nat} {p : NK × Addr × V}, es[i]? = some p → ∃ q, kvs[i]? = some q ∧ KtR K B p q
  | _, _, .nil, i, p, e => by simp at e
  | _, _, .cons (a := a) (b := b) r t, i, p, e => by
    cases i with
    | zero =>
      simp only [List.getElem?_cons_zero, Option.some.injEq] at e
      subst e
      exact ⟨b, rfl, r⟩
    | succ j =>
      simp only [List.getElem?_cons_succ] at e ⊢
      exact kt_all t e
theorem Paired.impM {α β : Type} {R S : α → β → Prop} : ∀ {as : List α} {bs : List β}, (∀ a b, b ∈ bs → R a b → S a b) → Paired R as bs → Paired S as bs
  | _, _, _, .nil => .nil
  | _, _, h, .cons r t => .cons (h _ _ List.mem_cons_self r) (Paired.impM (fun a b hb => h a b (List.mem_cons_of_mem _ hb)) t)
theorem getK_mem {kvs : List (NK × D)} {i : Nat} {q : NK × D} (h : kvs[i]? = some q) : ∃ d, getK kvs q.1 = some d := by
  unfold getK
  cases e : kvs.find? (fun p => decide (p.1 = q.1)) with
  | none =>
    have := List.find?_eq_none.mp e q (List.mem_of_getElem? h)
    simp at this
  | some p => exact ⟨p.2, rfl⟩
theorem getK_in {kvs : List (NK × D)} {k : NK} {d : D} (h : getK kvs k = some d) : ∃ p ∈ kvs, p.2 = d := by
  unfold getK at h
  cases e : kvs.find? (fun p => decide (p.1 = k)) with
  | none => rw [e] at h; cases h
  | some p => rw [e] at h; exact ⟨p, List.mem_of_find?_eq_some e, Option.some.inj h⟩
theorem atI0 {x : V} {vs : List V} : atI (x :: vs) 0 = some x := by
  have : ixN (x :: vs).length 0 = some 0 := by
    unfold ixN
    simp
  simp only [atI, this]
  rfl
section
variable {K : Bd}
theorem se_told : SE K (tTold K) gTold := by
  intro F hK c Φ Q R p q
  subst hK
  obtain ⟨hlen, ks, ds, rest, e0, hks, hk2, hfl, p⟩ := p
  obtain ⟨v, y1, y2⟩ := R.at_ 0 _ e0
  have σlen : c.σ.length = 3 := by rw [R.len]; exact hlen
  cases y2 with
  | @tup t xs _ hs hr =>
    cases hr with
    | @cons v0 vs _ _ hd hrs =>
      obtain ⟨l, es, rfl, h1, hnd, hp⟩ := dnk_at R (.inl hd)
      have hBl : ∃ o, c.B l = some o ∧ ∃ f, o = .ext f := by
        cases hd with
        | @dnk a ks as xs ds z1 _ _ _ _ _ => exact ⟨_, z1, _, rfl⟩
      obtain ⟨ol, hBl, fl, rfl⟩ := hBl
      have eol : HO.ext fl = NdO F.P F.w l es := Option.some.inj ((R.le _ _ hBl).symm.trans h1)
      let Bz : Hp := fun a => if a = l then none else c.B a
      have Bz_ne : ∀ {a : Addr}, a ≠ l → Bz a = c.B a := fun z => if_neg z
      have Bz_l : Bz l = none := if_pos rfl
      have sqz : ∀ a xs, SqT F.K c.B a xs → SqT F.K Bz a xs := fun a xs m => by
        rcases m with m | m
        · have keep : ∀ {o : HO}, c.B a = some o → (∀ f, o ≠ .ext f) → Bz a = some o := fun {o} e n => by
            rw [Bz_ne fun z => by rw [z, hBl] at e; exact n _ (Option.some.inj e).symm]
            exact e
          rcases m with m | ⟨o, m⟩
          · exact .inl (.inl (keep m fun _ z => nomatch z))
          · exact .inl (.inr ⟨o, keep m fun _ z => nomatch z⟩)
        · exact .inr m
      have hst := sqz _ _ hs
      have hpz : Paired (KtR F.K Bz) es (ks.zip ds) := Paired.impM (fun a b hb ⟨g1, g2, g3, g4⟩ => ⟨g1, g2, flatT_rp sqz g3 (flat_dN b.1), flatT_rp sqz g4 (hfl _ (List.of_mem_zip hb).2)⟩) hp
      have eln : es.length = (ks.zip ds).length := Paired.length hp
      have lzip : (ks.zip ds).length = ks.length := by
        cases hd with
        | @dnk a ks as xs ds z1 z2 z3 z4 z5 z6 => rw [List.length_zip, ← z6.len, z3]; simp
      refine ⟨l, NdO F.P F.w l es, h1, trivial, fun od => ?_⟩
      have neT : ∀ {a : Addr} {o : HO}, Bz a = some o → a ≠ l := fun {a o} e z => by rw [z, Bz_l] at e; cases e
      have xz0 : Ext Bz (upd c.H l (.frz od (NdO F.P F.w l es))) := fun a o e => by
        rw [upd_ne (neT e)]
        exact R.le _ _ ((Bz_ne (neT e)).symm.trans e)
      refine ⟨.ref t, y1, .inr (.inl ⟨t, _, 0, .ref l, rfl, rfl, hst.ext xz0, atI0, ?_⟩)⟩
      refine ⟨l, od, es, rfl, upd_same, fun D hD => ?_⟩
      have hDc : c.H D = none := by
        by_cases z : D = l
        · rw [z, upd_same] at hD; cases hD
        · rw [upd_ne z] at hD; exact hD
      have hDl : D ≠ l := fun z => by rw [z, upd_same] at hD; cases hD
      let rws : List DL.D := ks.map (rowT (ks.zip ds))
      have rget : ∀ {i : Nat} {pr : NK × DL.D}, (ks.zip ds)[i]? = some pr → rws[i]? = some (rowT (ks.zip ds) pr.1) := fun {i pr} e => by
        rw [List.getElem?_zip_eq_some] at e
        show (ks.map _)[i]? = _
        rw [List.getElem?_map, e.1]
        rfl
      refine lc_acc (walk_keysN (P := F.P) (w := F.w) (d := l) (o := od) (kvs := es)) hD (fun i acc H => (∀ a o, a ≠ l → c.H a = some o → H a = some o) ∧ H l = some (.frz od (NdO F.P F.w l es)) ∧ ∃ B : Hp, Ext Bz B ∧ Ext B H ∧ B l = none ∧ (∀ a, B a ≠ none → Bz a = none → c.H a = none) ∧ RpA F.K B acc (rws.take i)) ?_ ?_ ?_ ?_
      · exact ⟨fun a o z e => by rw [upd_ne z]; exact e, upd_same, Bz, Ext.rfl', xz0, Bz_l, fun a e n => absurd n e, .nil⟩
      · rintro i acc H _ _ ⟨_, h, _⟩
        rw [del_ne hDl.symm] at h
        exact h
      · rintro i x H H' acc hi hacc hal ⟨g1, g2, B, b1, b2, b3, b4, b5⟩ ⟨rfl, pr, hpr, rfl⟩
        obtain ⟨pq, hpq, e1, e2, e3, e4⟩ := kt_all hpz hpr
        obtain ⟨dv, hdv⟩ := getK_mem hpq
        obtain ⟨k1, k2, ek⟩ := hk2 pq.1 (by
          have := List.mem_of_getElem? hpq
          exact (List.of_mem_zip (a := pq.1) (b := pq.2) this).1)
        have xB : Ext B H' := b2.trans ext_del
        rw [ek] at e3
        have e3' : Rp F.K Bz (.ref pr.2.1) (.tup [dN k1, dN k2]) := by
          have : dN (.tup [k1, k2]) = .tup [dN k1, dN k2] := by simp [dN, dNs]
          rw [← this]; exact e3
        cases e3' with
        | @tup _ xs2 _ s1 s2 =>
          cases s2 with
          | @cons w1 _ _ _ t1 s2 =>
            cases s2 with
            | @cons w2 _ _ _ t2 s2 =>
              cases s2
              refine ⟨pr.2.1, _, rfl, s1.ext (b1.trans xB), rfl, w1, _, rfl, w2, _, rfl, rfl, ?_⟩
              have wl : (wipe c.σ [1, 2]).length = 3 := by rw [wipe_length]; exact σlen
              have wj : ∀ j, j ∉ [1, 2] → (((wipe c.σ [1, 2]).set 1 (some w1)).set 2 (some w2))[j]? = c.σ[j]? := fun j hj => by
                rw [List.getElem?_set_ne (fun z => hj (by simp [z])), List.getElem?_set_ne (fun z => hj (by simp [z])), wipe_out hj]
              refine ⟨(wipe_same (by simp [wipe_length]) wj), ?_⟩
              refine yes_go ?_
              rw [if_pos rfl]
              have sl1 : (((wipe c.σ [1, 2]).set 1 (some w1)).set 2 (some w2))[1]? = some (some w1) := by
                rw [List.getElem?_set_ne (by decide), List.getElem?_set_self (by omega)]
              have sl2 : (((wipe c.σ [1, 2]).set 1 (some w1)).set 2 (some w2))[2]? = some (some w2) := List.getElem?_set_self (by rw [List.length_set]; omega)
              have sl0 : (((wipe c.σ [1, 2]).set 1 (some w1)).set 2 (some w2))[0]? = some (some (.ref t)) := (wj 0 (by decide)).trans y1
              refine ⟨w1, sl1, w2, sl2, .ref t, sl0, .inr (.inl ⟨t, _, 0, .ref l, rfl, rfl, hst.ext (b1.trans xB), atI0, ?_⟩)⟩
              refine ⟨w1, sl1, w2, sl2, by rw [sizeLine_eq]; exact Nat.le_of_ble_eq_true rfl, fun p1 hp1 => ?_⟩
              have xp1 : Ext H' (upd H' p1 (.tup [w1, w2])) := Ext.upd hp1
              have dps : Dp F.K (upd H' p1 (.tup [w1, w2])) (.ref p1) (nkD (.tup [k1, k2])) := by
                have q1 := (t1.ext (b1.trans (xB.trans xp1))).dp (pure_dN k1)
                have q2 := (t2.ext (b1.trans (xB.trans xp1))).dp (pure_dN k2)
                rw [toP_dN] at q1 q2
                have : nkD (.tup [k1, k2]) = .tuple [nkD k1, nkD k2] := by simp [nkD, nkDs]
                rw [this]
                exact .tup (.inl (.inl upd_same)) (.cons q1 (.cons q2 .nil))
              have g2' : H' l = some (.frz od (NdO F.P F.w l es)) := by rw [del_ne hDl.symm] at g2; exact g2
              have nd1 : NdAt F.K F.P F.w (upd H' p1 (.tup [w1, w2])) l es := ⟨.inr ⟨od, xp1 _ _ g2'⟩, fun pp hpp => ⟨dp_ext (b1.trans (xB.trans xp1)) (kt_keys hpz pp hpp).1, (kt_keys hpz pp hpp).2⟩⟩
              rw [ek] at hdv
              rcases kt_get hpz (.tup [k1, k2]) with ⟨_, f2⟩ | ⟨vv, dd, f1, f2, rv⟩
              · rw [f2] at hdv; cases hdv
              · refine ⟨l, p1, .tup [k1, k2], es, vv, rfl, rfl, dps, by rw [← ek, ← e1]; exact e2, nd1, f1, ?_⟩
                refine ⟨by rw [sizeLine_eq]; exact Nat.le_of_ble_eq_true rfl, fun p2 hp2 => ?_⟩
                have xp2 : Ext (upd H' p1 (.tup [w1, w2])) (upd (upd H' p1 (.tup [w1, w2])) p2 (.tup [w1, w2, vv])) := Ext.upd hp2
                have np1 : p2 ≠ p1 := fun z => by rw [z, upd_same] at hp2; cases hp2
                have hp2' : H' p2 = none := by rw [upd_ne np1] at hp2; exact hp2
                have nD1 : D ≠ p1 := fun z => by rw [← z, hacc] at hp1; cases hp1
                have nD2 : D ≠ p2 := fun z => by rw [← z, hacc] at hp2'; cases hp2'
                have nl1 : l ≠ p1 := fun z => by rw [← z, g2'] at hp1; cases hp1
                have nl2 : l ≠ p2 := fun z => by rw [← z, g2'] at hp2'; cases hp2'
                have Bp2 : B p2 = none := by
                  cases z : B p2 with
                  | none => rfl
                  | some o => have := xB _ _ z; rw [hp2'] at this; cases this
                refine acc_add (acc := acc) (by rw [upd_ne nD2, upd_ne nD1]; exact hacc) hal (by rw [sizeLine_eq]; omega) ⟨fun a o z e => ?_, ?_, upd B p2 (.tup [w1, w2, vv]), b1.trans (Ext.upd Bp2), fun a o e => ?_, by rw [upd_ne nl2]; exact b3, fun a e n => ?_, ?_⟩
                · have ha := g1 a o z e
                  have aD : a ≠ D := fun z => by rw [z, hDc] at e; cases e
                  rw [del_ne aD] at ha
                  rw [del_ne aD]
                  exact xp2 _ _ (xp1 _ _ ha)
                · rw [del_ne hDl.symm, upd_ne nl2, upd_ne nl1]; exact g2'
                · by_cases z : a = p2
                  · rw [z, upd_same] at e
                    rw [z, del_ne nD2.symm, upd_same]; exact e
                  · rw [upd_ne z] at e
                    have ha := b2 a o e
                    have aD : a ≠ D := fun z => by rw [z, del_same] at ha; cases ha
                    rw [del_ne aD] at ha
                    rw [del_ne aD]
                    exact xp2 _ _ (xp1 _ _ ha)
                · by_cases z : a = p2
                  · rw [z]
                    cases u : c.H p2 with
                    | none => rfl
                    | some o =>
                      have := g1 p2 o nl2.symm u
                      rw [del_ne nD2.symm, hp2'] at this
                      cases this
                  · rw [upd_ne z] at e
                    exact b4 a e n
                · have ht : rws.take (i + 1) = rws.take i ++ [rowT (ks.zip ds) pq.1] := by
                    have := rget hpq
                    rw [List.take_succ, this]
                    rfl
                  rw [ht]
                  refine (b5.ext (Ext.upd Bp2)).snoc ?_
                  rw [ek]
                  show Rp F.K _ (.ref p2) (.tup [dN k1, dN k2, (getK (ks.zip ds) (.tup [k1, k2])).getD .non])
                  rw [f2]
                  have xx := b1.trans (Ext.upd (o := .tup [w1, w2, vv]) Bp2)
                  exact .tup (.inl (.inl upd_same)) (.cons (t1.ext xx) (.cons (t2.ext xx) (.cons (rv.ext xx) .nil)))
      · rintro H acc hacc hal ⟨g1, g2, B, b1, b2, b3, b4, b5⟩
        have g2' : H l = some (.frz od (NdO F.P F.w l es)) := by rw [del_ne hDl.symm] at g2; exact g2
        refine ⟨g2', ?_⟩
        have rl : rws.length = es.length := by rw [eln, lzip]; show (ks.map _).length = _; rw [List.length_map]
        rw [← rl, List.take_length] at b5
        let B' : Hp := upd B l (NdO F.P F.w l es)
        have B'x : Ext B B' := Ext.upd b3
        have x1 : Ext c.B B' := fun a o e => by
          by_cases z : a = l
          · rw [z]
            show upd B l _ l = some o
            rw [upd_same, ← eol, ← hBl, ← z, e]
          · exact B'x _ _ (b1 _ _ ((Bz_ne z).trans e))
        have hBD : B D = none := by
          cases z : B D with
          | none => rfl
          | some o => have := b2 _ _ z; rw [del_same] at this; cases this
        have x2 : Ext B' (upd H l (NdO F.P F.w l es)) := fun a o e => by
          have e' : upd B l (NdO F.P F.w l es) a = some o := e
          by_cases z : a = l
          · rw [z, upd_same] at e' ⊢; exact e'
          · rw [upd_ne z] at e' ⊢
            exact ext_del _ _ (b2 a o e')
        have x3 : Ext c.H (upd H l (NdO F.P F.w l es)) := fun a o e => by
          by_cases z : a = l
          · rw [z] at e ⊢
            rw [upd_same, ← h1, e]
          · rw [upd_ne z]
            exact ext_del _ _ (g1 a o z e)
        obtain ⟨R', G'⟩ := R.grow (B' := B') (H' := upd H l (NdO F.P F.w l es)) x1 x2 x3 (fun a e n => by
          by_cases z : a = l
          · rw [z, hBl] at n; cases n
          · have e' : upd B l (NdO F.P F.w l es) a ≠ none := e
            rw [upd_ne z] at e'
            exact b4 a e' ((Bz_ne z).trans n))
        refine q ⟨B', upd H l (NdO F.P F.w l es), c.σ, c.s⟩ (.ref D) (.new rws) R' G' ⟨D, acc, rfl, ?_, b5.ext B'x, ?_, ?_, ?_, hDc⟩ p
        · show upd H l _ D = _
          rw [upd_ne hDl]; exact hacc
        · show upd B l _ D = none
          rw [upd_ne hDl]; exact hBD
        · exact fun m => R.notOwn hDc (m.ofEq rfl rfl)
        · exact fun on => R.notBag hDc on
end
end DL
set_option maxHeartbeats 1000000
/-! l.pop() of an own list; a handler's return of e.f == x and e.g == y. -/
namespace DL
open PySem PySem.Spec PyProof.Rows L2 Ax
def gPop0 (i : Nat) : GX := fun s Φ => ∃ (ds : List D) (d : D), s.r[i]? = some (some (.own (ds ++ [d]))) ∧ Φ (.dat d) (s.put i (.own ds))
theorem RpA.last {K : Bk} {B : Hp} : ∀ {vs : List V} {ds : List D} {d : D}, RpA K B vs (ds ++ [d]) → ∃ us v, vs = us ++ [v] ∧ RpA K B us ds ∧ Rp K B v d
  | _, [], d, .cons h t => by
    cases t
    exact ⟨[], _, rfl, .nil, h⟩
  | _, e :: ds, d, .cons h t => by
    obtain ⟨us, v, rfl, r1, r2⟩ := RpA.last t
    exact ⟨_ :: us, v, rfl, .cons h r1, r2⟩
section
variable {K : Bd}
theorem se_pop0 {i : Nat} : SE K (tBM0 K "list" rPop (tVar i)) (gPop0 i) := by
  intro F hK c Φ Q R p q
  obtain ⟨ds, d, e0, p⟩ := p
  obtain ⟨l, o0, q1, q2, ⟨vs0, rfl, r0⟩, q4, q5⟩ := R.at_ i _ e0
  subst hK
  obtain ⟨us, v, rfl, r1, r2⟩ := r0.last
  obtain ⟨R3, G3⟩ := R.updE (e' := .own ds) (o' := .lst us) e0 rfl q1 ⟨_, rfl, r1⟩
  refine ⟨.ref l, q1, .inl ⟨rfl, _, SqL.of q2⟩, ?_⟩
  refine ⟨l, us ++ [v], v, rfl, rfl, q2, by simp, ?_⟩
  rw [List.dropLast_concat]
  exact q _ v (.dat d) R3 G3 r2 p
def hvEq (f x g y : Str) : HV := fun ks ds => match (ks.zip ds).lookup f, (ks.zip ds).lookup g with
  | some (.str d), some (.str e) => if strK d = true ∧ strK e = true ∧ strK x = true ∧ strK y = true then some (.bl (decide (d = x) && decide (e = y))) else none
  | _, _ => none
theorem hok_eq {C f x g y : Str} {i : Nat} : HOk K C i (fun a cls d => tAndV (tOp (rEqD K.K) (tXf a cls d (He.ga K.K C) f (tVar i)) (tC (.str x))) (tOp (rEqD K.K) (tXf a cls d (He.ga K.K C) g (tVar i)) (tC (.str y)))) (hvEq f x g y) := by
  intro F hK c σ' a dd ks vs ds d Q R h0 h1 h2 h3 h4 q
  subst hK
  unfold hvEq at h4
  split at h4
  · rename_i d1 d2 e1 e2
    split at h4
    · rename_i hs
      cases Option.some.inj h4
      obtain ⟨v, l, r⟩ := zip_lookup h3 e1
      obtain ⟨v2, l2, r2⟩ := zip_lookup h3 e2
      have eq : ∀ {u v : Str} {w : V} {Q : VK}, Rp F.K c.B w (.str u) → strK u = true → strK v = true → Q (.bl (decide (u = v))) c.H → rEqD F.bd.K w (.str v) c.H Q := fun {u v w Q} rw hu hv q => by
        have e1 : Dp F.bd.K c.H w (.str u) := by
          have := (rw.ext R.le).dp (K := F.K) rfl
          simpa [toP] using this
        have o1 := okD_shaped (okD_str hu)
        have o2 := okD_shaped (okD_str hv)
        have e3 : PyData.eqv (.str u) (.str v) = decide (u = v) := eqD_str u v
        refine ⟨.str u, .str v, e1, .str v, by simpa [toP] using o1, by simpa [toP] using o2, ?_⟩
        rw [e3]
        exact q
      refine ⟨.ref a, h0, rfl, rfl, dd, _, v, rfl, h1, l, ?_⟩
      dsimp only [tC]
      refine eq r hs.1 hs.2.2.1 ?_
      refine ⟨_, rfl, ?_⟩
      by_cases z : d1 = x
      · rw [decide_eq_true z, if_pos rfl]
        refine ⟨.ref a, h0, rfl, rfl, dd, _, v2, rfl, h1, l2, ?_⟩
        dsimp only [tC]
        refine eq r2 hs.2.1 hs.2.2.2 ?_
        rw [decide_eq_true z, Bool.true_and] at q
        exact q c _ R Go.rfl' (.bl _)
      · rw [decide_eq_false z]
        rw [decide_eq_false z, Bool.false_and] at q
        exact q c _ R Go.rfl' (.bl _)
    · cases h4
  · cases h4
end
end DL
set_option maxHeartbeats 2000000
/-! Own dicts copied, compared, sorted backwards; d.get(k, x); calls with the bag that look at what is one's own. -/
namespace DL
open PySem PySem.Spec PyProof.Rows L2 Ax
section
variable {X : Cx}
/-! ### sorted(d, reverse=True), whole numbers as keys -/
def rSrtDR : List V → List V → Hp → VK → Prop := fun vs zs H Q => ∃ (a : Addr) (kvs : List (L2.Key × V)) (ks : List Int), vs = [V.ref a] ∧ zs = [.bl true] ∧ Rd H a (.dK kvs) ∧ kvs.map (·.1) = ks.map Sum.inl ∧ ks.length < 64 ∧
  ∀ (ys : List Int) (p : Addr), ys.Perm ks → H p = none → Q (.ref p) (upd H p (.lst (ys.map V.int)))
theorem cr_sortedDR (hcalm : X.calm = true) : CallRK X (.builtin "sorted") [Str.ofString "reverse"] rSrtDR := by
  intro pins s σ H vs0 zs us ws Q I r rz h
  obtain ⟨a, kvs, ks, ex, ez, hd, hks, h64, q⟩ := h
  subst ex
  subst ez
  obtain rfl := Vals.ref1 r
  obtain ⟨w1, rfl, e1⟩ := vals1 rz
  obtain rfl : w1 = Value.bool true := e1
  obtain ⟨z, lo, vs, rel, dd⟩ := dk_rd I.hok hd
  obtain ⟨ep, hat⟩ := dd.dictAt
  have hkeys : vs.map (·.1) = ks.map Sum.inl := rel.keys.symm.trans hks
  have hl : vs.length = ks.length := by
    have e := congrArg List.length hkeys
    rw [List.length_map, List.length_map] at e
    exact e
  have h16 : vs.length ≤ sizeLine := by rw [hl, sizeLine_eq]; omega
  refine PyProof.Rows.call_function_entry_kw PyProof.Rows.kind_sorted PyProof.Rows.plain_sorted PyProof.Rows.entry_sorted (PyProof.Rows.args_sorted_rev _ _) ?_
  unfold Builtin.«sorted»
  refine wpAny_bind (m := checkCount "sorted" 1 1 _) (wpAny_pure ?_)
  refine wpAny_bind (PySem.W.kdu_collect (A := X.A.in1) (PySem.W.kdl_dict (knd := mixKind X.prog X.w) (kvs := vs) (ep := ep) lo) (I.ok.hd hcalm) hat h16 fun h' tk acc hk hacc => ?_)
  have hal : acc.toList.length = ks.length := by rw [Array.length_toList, hacc.1, hl]
  have hS : IntsAre acc.toList ks := ints_each hal fun j v e => by
    obtain ⟨k, x, e1, e2⟩ := hacc.2 j v (by rw [← Array.getElem?_toList]; exact e)
    have e3 : (vs.map (·.1))[j]? = some k := by rw [List.getElem?_map, e1]; rfl
    rw [hkeys, List.getElem?_map] at e3
    cases e4 : ks[j]? with
    | none => rw [e4] at e3; cases e3
    | some y =>
      rw [e4] at e3
      have e5 : Sum.inl y = k := Option.some.inj e3
      subst e5
      rcases keyIs_shape (show keyIs (Sum.inl y) v = true from e2) with ⟨i, t, ek, ev⟩ | ⟨z, t, ek, ev⟩
      · cases ek
        exact ⟨y, t, rfl, ev⟩
      · cases ek
  have I1 : Inv X pins σ H { s with heap := h', toks := tk } := I.kept hk
  have hsz : acc.toList.length ≤ sizeLine := by rw [hal, sizeLine_eq]; omega
  refine wpAny_bind (wpAny_newList ?_ hsz)
  have hoL : (h'.push (seqObj "list" acc.toList.toArray 0)).get? h'.objs.size = some (seqObj "list" acc.toList.toArray 0) := Heap.get?_push_size _ rfl
  show wpAny _ _ _ _ _ { s with heap := h'.push (seqObj "list" acc.toList.toArray 0), toks := tk }
  refine wpAny_bind (wpAny_holding (PyProof.Rows.wpAny_call_entry_kw PyProof.Rows.slot_list_sort ⟨_, hoL, rfl⟩ PyProof.Rows.entry_list_sort
    (SrtR.list_sort_ordR (b := true) (s := { s with heap := h'.push (seqObj "list" acc.toList.toArray 0), toks := tk }) SrtO.swo_int hoL hsz (fun h2 => SrtO.ints_sortable hS h2) fun out hs hb => ⟨_, rfl, ?_⟩)
    (PyProof.Rows.args_list_sort_rev _ _)))
  obtain ⟨ns', k1, k2, k3⟩ := SrtR.ints_outR hS hs hb
  obtain ⟨e', he'⟩ := PyProof.Rows.sortedHeap_at (vs := acc.toList) (out := out.toArray.reverse) hoL
  have hlen : (ns'.map V.int).length ≤ sizeLine := by
    rw [List.length_map, k2.length_eq]
    exact Nat.le_trans (Nat.le_of_lt h64) (by decide)
  refine wpAny_pure ⟨_, rfl, .ref h'.objs.size, upd H h'.objs.size (.lst (ns'.map V.int)), I1.laid (t' := tk) (fun b u e => ?_) (Nat.le_refl _)
    (show ObjOk X.prog X.w _ _ _ (.lst (ns'.map V.int)) from ⟨hlen, (out.toArray.reverse).toList, e', vals_of_ints k1, by rw [Array.toArray_toList]; exact he'⟩), rfl, q ns' _ k2 (I1.hok.fresh (Nat.le_refl _))⟩
  have hb : b < h'.objs.size := Heap.lt_size e
  show (PyProof.Rows.sortedHeap _ _ _ _).get? b = some u
  rw [PyProof.Rows.sortedHeap_old (Nat.ne_of_lt hb) (by rw [size_push']; exact Nat.lt_succ_of_lt hb)]
  exact Heap.get?_push_of_some _ e
/-! ### dicts of data compared: unlike -/
def rNeDK (K : PySem.W.Frag) : R2 := fun x y H Q => ∃ a b ks ls, x = .ref a ∧ y = .ref b ∧ H a = some (.dK ks) ∧ H b = some (.dK ls) ∧ ks.length = ls.length ∧ (∀ p ∈ ks, ∃ v d e, valV ls p.1 = some v ∧ Dp K H p.2 d ∧ Dp K H v e ∧ SeqAt.shaped d = true ∧ SeqAt.shaped e = true ∧ PyData.eqv d e = true) ∧ Q (.bl false) H
theorem hits_dp {pins : List (Addr × Obj)} {s : Shared} {σ : L2.St} {H : Hp} (I : Inv X pins σ H s) (hu : X.A.units + 65 < cLine) {kvs : List (L2.Key × V)} {vb : List (L2.Key × Value)} (rb : KV kvs vb) : ∀ {ks : List (L2.Key × V)} {va : List (L2.Key × Value)}, KV ks va →
    (∀ p ∈ ks, ∃ v d e, valV kvs p.1 = some v ∧ Dp X.K H p.2 d ∧ Dp X.K H v e ∧ SeqAt.shaped d = true ∧ SeqAt.shaped e = true ∧ PyData.eqv d e = true) → PySem.W.KeqHits X.A.in1 s vb va true := by
  intro ks va ra
  unfold KV at ra
  induction ra with
  | nil => intro _; exact .nil
  | @cons p q ps qs h t ih =>
    intro hp
    obtain ⟨h1, h2⟩ := h
    obtain ⟨v, d, e, ev, hd, he, sd, se, eq⟩ := hp p List.mem_cons_self
    have rr : RelO (some v) (valueAt vb p.1) := by rw [← ev]; exact rb.val p.1
    obtain ⟨y, hy, ry⟩ := rr.some_of
    obtain ⟨k, v'⟩ := q
    have h1' : p.1 = k := h1
    rw [h1'] at hy
    obtain ⟨as, r1⟩ := Dp.reads I d _ _ hd h2
    obtain ⟨bs, r2⟩ := Dp.reads I e _ _ he ry
    have z := PySem.W.keq_at (A := X.A) r1 r2 sd se (by show X.A.units + 1 + 64 < cLine; omega)
    rw [eq] at z
    show PySem.W.KeqHits X.A.in1 s vb ((k, v') :: qs) (true && true)
    exact .hit hy z (ih fun p' hm => hp p' (List.mem_cons_of_mem _ hm))
theorem op_neDK (hu : X.A.units + 65 < cLine) : OpR X (compareOp .NotEq) (rNeDK X.K) := by
  intro pins s σ H x y v u Q I rx ry h
  obtain ⟨a, b, ks, ls, rfl, rfl, ea, eb, hlen, hp, q⟩ := h
  obtain rfl : v = Value.ref a := rx
  obtain rfl : u = Value.ref b := ry
  obtain ⟨_, ya, va, ra, da⟩ := (show ObjOk X.prog X.w H s.heap a (.dK ks) from I.hok a _ ea)
  obtain ⟨_, yb, vb, rb, db⟩ := (show ObjOk X.prog X.w H s.heap b (.dK ls) from I.hok b _ eb)
  have hl : va.length = vb.length := by rw [← ra.length, ← rb.length]; exact hlen
  exact PySem.W.keq_ne (knd := mixKind X.prog X.w) (r := true) ya yb da db (by omega) (fun _ => hits_dp I hu rb ra hp) (fin_bl I q (by simp [hl]))
end
theorem getC_mem : ∀ {kvs : List (L2.Key × D)} {q : L2.Key × D}, (kvs.map (·.1)).Nodup → q ∈ kvs → getC kvs q.1 = some q.2
  | p :: ps, q, nd, h => by
    rw [List.map_cons, List.nodup_cons] at nd
    unfold getC
    rcases List.mem_cons.mp h with z | z
    · rw [z, List.find?_cons_of_pos (by simp)]
      rfl
    · have ne : p.1 ≠ q.1 := fun e => nd.1 (by rw [e]; exact List.mem_map.mpr ⟨q, z, rfl⟩)
      rw [List.find?_cons_of_neg (by simpa using ne)]
      exact getC_mem nd.2 z
section
variable {K : Bd}
def gSrtR (g : GX) : GX := fun s Φ => g s fun w s1 => ∃ kvs ks, rdk w s1 = some kvs ∧ kvs.map (·.1) = ks.map Sum.inl ∧ ks.length < 64 ∧ ∀ ys : List Int, ys.Perm ks → Φ (.new (ys.map D.int)) s1
theorem rpa_intsU {B : Hp} : ∀ ys : List Int, RpA K B (ys.map V.int) (ys.map D.int)
  | [] => .nil
  | y :: ys => .cons (.int y) (rpa_intsU ys)
theorem kk_keys {K : Bk} {B : Hp} : ∀ {ks : List (L2.Key × V)} {kvs : List (L2.Key × D)}, Paired (KkR K B) ks kvs → ks.map (·.1) = kvs.map (·.1)
  | _, _, .nil => rfl
  | _, _, .cons h r => by rw [List.map_cons, List.map_cons, h.1, kk_keys r]
theorem se_srtR {t : TE} {g : GX} (h : SE K t g) : SE K (tCKw rSrtDR (tCons t tNil) (tCons (tC (.bl true)) tNil)) (gSrtR g) := by
  intro F hK c Φ Q R p q
  refine h F hK c _ _ R p fun c1 v1 w1 R1 G1 D1 p1 => ?_
  obtain ⟨kvs, kn, e1, e2, h64, p2⟩ := p1
  obtain ⟨a, ks, rfl, ha, r⟩ := rdk_ok R1 D1 e1
  refine ⟨a, ks, kn, rfl, rfl, .of ha, (kk_keys r).trans e2, h64, fun ys l hp hl => ?_⟩
  exact Den.newL R1 hl (rpa_intsU ys) fun c' v R' G' es D' => q c' v _ R' (G1.trans G') (D'.back G1.go) (by rw [es]; exact p2 ys hp)
def gNeC (g1 g2 : GX) : GX := fun s Φ => g1 s fun w1 s1 => g2 s1 fun w2 s2 => ∃ kvs, rdk w1 s2 = some kvs ∧ rdk w2 s2 = some kvs ∧ (kvs.map (·.1)).Nodup ∧ (∀ p ∈ kvs, okD p.2 = true ∧ eqD p.2 p.2 = true) ∧ Φ (.dat (.bl false)) s2
theorem se_neC {t1 t2 : TE} {g1 g2 : GX} (h1 : SE K t1 g1) (h2 : SE K t2 g2) : SE K (tOp (rNeDK K.K) t1 t2) (gNeC g1 g2) := by
  intro F hK c Φ Q R p q
  subst hK
  refine h1 F rfl c _ _ R p fun c1 v1 w1 R1 G1 D1 p1 => ?_
  refine h2.run rfl G1.σ R1 p1 fun c2 v2 w2 R2 G2 D2 p2 => ?_
  obtain ⟨kvs, e1, e2, nd, ho, p3⟩ := p2
  obtain ⟨a, ks, rfl, ha, r1⟩ := rdk_ok R2 (D1.keep G2) e1
  obtain ⟨b, ls, rfl, hb, r2⟩ := rdk_ok R2 D2 e2
  refine ⟨a, b, ks, ls, rfl, rfl, ha, hb, by rw [kk_len r1, kk_len r2], fun p hp => ?_, q c2 _ (.dat (.bl false)) R2 (G1.trans G2) (Rp.bl _) p3⟩
  obtain ⟨qd, hq, ek, rv⟩ : ∃ qd ∈ kvs, p.1 = qd.1 ∧ Rp F.K c2.B p.2 qd.2 := by
    clear ha hb ho nd e1 e2 r2
    induction r1 with
    | nil => cases hp
    | @cons x y l1 l2 hh t ih =>
      rcases List.mem_cons.mp hp with z | z
      · exact ⟨y, List.mem_cons_self, by rw [z]; exact hh.1, by rw [z]; exact hh.2⟩
      · obtain ⟨qd, a1, a2, a3⟩ := ih z
        exact ⟨qd, List.mem_cons_of_mem _ a1, a2, a3⟩
  obtain ⟨o1, o2⟩ := ho qd hq
  rcases kk_get r2 p.1 with ⟨_, f⟩ | ⟨v, d, f1, f2, rv2⟩
  · rw [ek, getC_mem nd hq] at f
    cases f
  · rw [ek, getC_mem nd hq] at f2
    cases f2
    exact ⟨v, toP qd.2, toP qd.2, f1, (rv.ext R2.le).dp (okD_pure o1), (rv2.ext R2.le).dp (okD_pure o1), okD_shaped o1, okD_shaped o1, o2⟩
/-! ### e = dict(d) -/
def rCpyD : List V → Hp → VK → Prop := fun xs H Q => ∃ (a : Addr) (kvs : List (L2.Key × V)), xs = [.ref a] ∧ Rd H a (.dK kvs) ∧ ∀ p, H p = none → Q (.ref p) (upd H p (.dK kvs))
theorem call_cpyD {X : Cx} : CallR X (.type "dict") rCpyD := call_dictD
def gsCpy (i : Nat) (g : GX) : GS := fun s De => g s fun w s1 => ∃ kvs, rdk w s1 = some kvs ∧ De.nx (s1.put i (.dck kvs))
theorem ss_cpy {i : Nat} {t : TE} {g : GX} (h : SE K t g) : SS K (tAsg (tCB rCpyD (tCons t tNil)) (L2.gName i)) (gsCpy i g) := by
  intro F hK c E De R p ok
  refine h F hK c _ _ R p fun c1 v w R1 G1 D1 p1 => ?_
  obtain ⟨kvs, e, p2⟩ := p1
  obtain ⟨a, ks, rfl, ha, r⟩ := rdk_ok R1 D1 e
  refine ⟨a, ks, rfl, .of ha, fun l hl => ?_⟩
  obtain ⟨R2, G2⟩ := R1.putH (o := .dK ks) hl
  obtain ⟨R3, hO⟩ := R2.setE (i := i) (v := .ref l) (e := .dck kvs) (fun q => ⟨l, .dK ks, List.getElem?_set_self q, upd_same, ⟨ks, rfl, r⟩, R1.notB hl, R1.notBag hl⟩) (fun l' _ e => by cases e; exact fun m => R1.notOwn hl (m.ofEq rfl rfl))
  have z := ok.nx _ R3 (G1.go.trans ⟨G2.go.b, G2.go.fr, G2.go.nb, fun a m => by
    rcases hO a m with z | ⟨_, z⟩
    · exact G2.go.ow a z
    · cases z; exact .inr hl, G2.go.dom⟩) p2
  show E.nx (c.σ.set i (some (.ref l))) (upd c1.H l (.dK ks))
  rw [← G1.σ]
  exact z
/-! ### d.get(k, x) -/
theorem se_getC2 {t1 t2 t3 : TE} {g1 g2 g3 : GX} (h1 : SE K t1 g1) (h2 : SE K t2 g2) (h3 : SE K t3 g3) : SE K (tDGet2 t1 t2 t3) (gGetC g1 g2 g3) := by
  intro F hK c Φ Q R p q
  refine h1 F hK c _ _ R p fun c1 v1 w1 R1 G1 D1 p1 => ?_
  obtain ⟨⟨kv0, e0⟩, p1⟩ := p1
  obtain ⟨a, ks0, rfl, ha0, _⟩ := rdk_ok R1 D1 e0
  refine ⟨a, rfl, .inl ⟨ks0, .of ha0⟩, ?_⟩
  refine h2.run hK G1.σ R1 p1 fun c2 v2 w2 R2 G2 D2 p2 => ?_
  refine h3.run hK (G2.σ.trans G1.σ) R2 p2 fun c3 v3 w3 R3 G3 D3 p3 => ?_
  obtain ⟨kvs, k, d, s4, e1, e2, e3, p4⟩ := p3
  obtain ⟨a', ks, ea, ha, r⟩ := rdk_ok R3 ((D1.keep G2).keep G3) e1
  cases ea
  have ek := key_of (rd_ok R3 (D2.keep G3) e2)
  obtain ⟨c4, b1, b2, b3, x4, R4, G4, r4⟩ := frz_ok R3 G3 D3 e3
  refine ⟨valV ks k, by rw [ek]; exact DGet.k ha, ?_⟩
  rw [← b1]
  rcases kk_get r k with ⟨f1, f2⟩ | ⟨v, d', f1, f2, rv⟩
  · rw [f1]
    rw [f2] at p4
    exact q c4 v3 (.dat d) R4 ((G1.trans G2).trans G4) r4 (by rw [b2]; exact p4)
  · rw [f1]
    rw [f2] at p4
    exact q c4 v (.dat d') R4 ((G1.trans G2).trans G4) (rv.ext x4) (by rw [b2]; exact p4)
/-! ### x not in t, a tuple without a dict -/
def fNotInZ : D → D → Option W
  | d, .tpz es => if okD d = true ∧ okD (.tpz es) = true then some (.dat (.bl (!inD d es))) else none
  | _, _ => none
theorem os_notInZ : OpS K (rNotInT K) fNotInZ := by
  intro F hK c x y d e w Q R hx hy hf q
  cases e with
  | tpz es =>
    simp only [fNotInZ] at hf
    split at hf
    · rename_i h
      cases Option.some.inj hf
      subst hK
      have hy' := (hy.rp R).dp (okD_pure h.2)
      have s2 := okD_shaped h.2
      simp only [toP] at hy' s2
      refine ⟨toP d, toPs es, (hx.rp R).dp (okD_pure h.1), hy', okD_shaped h.1, s2, ?_⟩
      rw [inD_toPs]
      exact q c _ R GoE.rfl' rfl (Rp.bl _)
    · cases hf
  | _ => cases hf
/-! ### f(bag, e, ..): what is one's own stays so -/
open Classical in
theorem back_ownB {F : Fx} {c1 c2 : Cf} {B' H' : Hp} {v : V} {d : D} {n' : Nat} (on : F.on = true) (R1 : Rep F c1) (b1 : c2.H = c1.H) (R2 : Rep F c2) (G2 : GoE F c1 c2) (x1 : Ext c2.B B') (x2 : Ext B' H') (x3 : ∀ a o, a ≠ F.b → c2.H a = some o → H' a = some o) (nb : ∀ a, B' a ≠ none → c2.B a = none → c2.H a = none) (hb : BagAt H' F.b F.c F.ms n') (rp : Rp F.K B' v d) (hf : flatT d = true) :
    ∃ c3 : Cf, c3.H = H' ∧ c3.s = { c1.s with n := n' } ∧ Rep F c3 ∧ GoE F c1 c3 ∧ Rp F.K c3.B v d := by
  rw [b1] at x3 nb
  let B2 : Hp := fun a => if Own c1 a then none else B' a
  have B2o : ∀ {a : Addr}, ¬ Own c1 a → B2 a = B' a := fun {a} n => if_neg n
  have y1 : Ext c1.B B2 := fun a o z => by
    have n : ¬ Own c1 a := fun m => by
      obtain ⟨i, e, k1, k0, k2⟩ := m
      obtain ⟨l, u, q1, q2, q3, q4, _⟩ := (R1.at_ i e k1).own k0
      rw [k2] at q1
      cases q1
      rw [q4] at z
      cases z
    rw [B2o n]
    exact x1 _ _ (G2.go.b _ _ z)
  have y2 : Ext B2 H' := fun a o z => by
    by_cases n : Own c1 a
    · have : B2 a = none := if_pos n
      rw [this] at z
      cases z
    · rw [B2o n] at z
      exact x2 _ _ z
  have y4 : ∀ a, B2 a ≠ none → c1.B a = none → c1.H a = none := fun a z w => by
    by_cases n : Own c1 a
    · exact absurd (if_pos n) z
    · rw [B2o n] at z
      cases u : c2.B a with
      | none => exact nb a z u
      | some o =>
        rcases G2.go.nb a (by rw [u]; exact fun k => nomatch k) w with k | k
        · exact k
        · exact absurd k n
  obtain ⟨R3, G3⟩ := R1.growB on y1 y2 x3 y4 hb
  refine ⟨⟨B2, H', c1.σ, { c1.s with n := n' }⟩, rfl, rfl, R3, G3, flatT_rp (fun a xs m => ?_) rp hf⟩
  rcases m with m | m
  · left
    have keep : ∀ {o : HO}, B' a = some o → (∀ u, o ≠ .lst u) → (∀ u, o ≠ .dK u) → (∀ u1 u2 u3, o ≠ .ins u1 u2 u3) → (∀ f, o ≠ .ext f) → B2 a = some o := fun {o} e n1 n2 n3 n4 => by
      rw [B2o ?_]
      · exact e
      · rintro ⟨i, en, k1, k0, k2⟩
        obtain ⟨l, u, q1, q2, q3, q4, q5⟩ := (R1.at_ i en k1).own k0
        rw [k2] at q1
        cases q1
        have z := x3 _ _ (q5 on).1 q2
        rw [x2 _ _ e] at z
        cases Option.some.inj z
        cases en with
        | own ds => obtain ⟨w1, w2, _⟩ := q3; exact n1 _ w2
        | dct kvs => obtain ⟨w1, w2, _⟩ := q3; exact n4 _ w2
        | dck kvs => obtain ⟨w1, w2, _⟩ := q3; exact n2 _ w2
        | obj a C ks ds => obtain ⟨_, w1, w2, w3, _⟩ := q3; exact n3 _ _ _ w3
        | _ => exact q3.elim
    rcases m with m | ⟨o, m⟩
    · exact .inl (keep m (fun _ z => nomatch z) (fun _ z => nomatch z) (fun _ _ _ z => nomatch z) (fun _ z => nomatch z))
    · exact .inr ⟨o, keep m (fun _ z => nomatch z) (fun _ z => nomatch z) (fun _ _ _ z => nomatch z) (fun _ z => nomatch z)⟩
  · exact .inr m
def gCallBP (i : Nat) (G : GFB) (ga : GA) : GX := fun s Φ => s.r[i]? = some (some .bag) ∧ ga s fun ws s1 => ∃ ds s2, frzA ws s1 = some (ds, s2) ∧ G ds s2.n fun d n' => flatT d = true ∧ Φ (.dat d) { s1 with n := n' }
theorem se_callBP {i : Nat} {G : GFB} {E : XK} {t : TA} {ga : GA} (h : SA K t ga) : SE K (tCall (spB K G) [] E (tCons (tVar i) t)) (gCallBP i G ga) := by
  intro F hK c Φ Q R p q
  subst hK
  obtain ⟨hi, p⟩ := p
  have y := R.at_ i _ hi
  have on : F.on = true := y.1
  have y2 : c.σ[i]? = some (some (.ref F.b)) := y.2
  refine ⟨.ref F.b, y2, h F rfl c _ _ R p fun c1 vs ws R1 G1 D1 p1 => ?_⟩
  obtain ⟨ds, s2, e1, g⟩ := p1
  obtain ⟨c2, b1, b2, R2, G2, r⟩ := frzA_ok R1 D1 e1
  obtain ⟨z1, z2, z3⟩ := R2.bag on
  rw [← b2] at g
  refine ⟨c2.B, F.b, F.c, F.ms, c2.s.n, vs, ds, _, by rw [List.append_nil], by rw [← b1]; exact z1, z2, z3, by rw [← b1]; exact R2.le, r, g, fun B' H' v d n' x1 x2 x3 nb hb rv hΦ => ?_⟩
  rw [← b1] at x3 nb
  obtain ⟨c3, e3, e4, R3, G3, r3⟩ := back_ownB on R1 b1 R2 G2 x1 x2 x3 nb hb rv hΦ.1
  rw [← e3]
  exact q c3 v (.dat d) R3 (G1.trans G3) r3 (by rw [e4]; exact hΦ.2)
end
section
variable {s s2 : Stt} {De : EndsD} {g g1 g2 : GX} {ga : GA} {w w1 w2 : W} {ws : List W} {ds : List D} {i : Nat} {kvs : List (L2.Key × D)}
theorem gs_cpy (h : Ev g s w) (r : rdk w s = some kvs) (q : De.nx (s.put i (.dck kvs))) : gsCpy i g s De := h _ ⟨kvs, r, q⟩
theorem Ev.neC (h1 : Ev g1 s w1) (h2 : Ev g2 s w2) (r1 : rdk w1 s = some kvs) (r2 : rdk w2 s = some kvs) (nd : (kvs.map (·.1)).Nodup) (ho : ∀ p ∈ kvs, okD p.2 = true ∧ eqD p.2 p.2 = true) : Ev (gNeC g1 g2) s (.dat (.bl false)) := fun Φ q => h1 _ (h2 _ ⟨kvs, r1, r2, nd, ho, q⟩)
theorem srtR_run {Φ : W → Stt → Prop} {ks : List Int} (h : Ev g s w) (r : rdk w s = some kvs) (e : kvs.map (·.1) = ks.map Sum.inl) (hl : ks.length < 64) (q : ∀ ys : List Int, ys.Perm ks → Φ (.new (ys.map D.int)) s) : gSrtR g s Φ := h _ ⟨kvs, ks, r, e, hl, q⟩
theorem callBP {G : GFB} {Φ : W → Stt → Prop} (hb : s.r[i]? = some (some .bag)) (h : EvA ga s ws) (r : frzA ws s = some (ds, s2)) (hG : G ds s2.n fun d n' => flatT d = true ∧ Φ (.dat d) { s with n := n' }) : gCallBP i G ga s Φ := ⟨hb, h _ ⟨ds, s2, r, hG⟩⟩
end
end DL
set_option maxHeartbeats 1000000
/-! An own list walked while others, flat ones, are one's own too. -/
namespace DL
open PySem PySem.Spec PyProof.Rows L2 Ax
def flatE : En → Bool
  | .own ds => flatTs ds
  | .val _ => true
  | .bag => true
  | _ => false
/-- e while the list of slot i is only looked at; e tells a new list of flat things -/
def gLoanF (i : Nat) (g : GX) : GX := fun s Φ => ∃ ds, s.r[i]? = some (some (.own ds)) ∧ (∀ (j : Nat) (e : En), j ≠ i → s.r[j]? = some (some e) → flatE e = true) ∧
  g (s.put i (.val (.lst ds))) fun w s' => ∃ es : List D, w = .new es ∧ flatTs es = true ∧ s' = s.put i (.val (.lst ds)) ∧ Φ (.new es) s
section
variable {K : Bd}
theorem se_loanF {i : Nat} {t : TE} {g : GX} (h : SE K t g) : SE K t (gLoanF i g) := by
  intro F hK c Φ Q R p q
  obtain ⟨ds, e0, hno, p⟩ := p
  obtain ⟨l, o0, q1, q2, ⟨vs0, rfl, r0⟩, q4, q5⟩ := R.at_ i _ e0
  have fz : frz (.loc i) c.s = some (.lst ds, c.s.put i (.val (.lst ds))) := by
    simp only [frz, e0]
    rfl
  have dl : Den F c.H c (.ref l) (.loc i) := ⟨q1, _, e0⟩
  obtain ⟨c2, b1, b2, b3, b4, R2, G2, r2⟩ := frz_ok R GoE.rfl' dl fz
  have key := h F hK c2 (fun w s' => ∃ es : List D, w = .new es ∧ flatTs es = true ∧ s' = c.s.put i (.val (.lst ds)) ∧ Φ (.new es) c.s) Q R2 (by rw [b2]; exact p) fun c' v w R' G' D' z => by
    obtain ⟨es, rfl, hfl, hs, hΦ⟩ := z
    have hl2 : c2.B l = some (.lst vs0) := by
      cases r2 with
      | lst a1 a2 =>
        have := R2.le _ _ a1
        rw [b1, q2] at this
        rw [a1, this]
    have hl' : c'.B l = some (.lst vs0) := G'.go.b _ _ hl2
    let B2 : Hp := fun a => if a = l then none else c'.B a
    have B2n : ∀ {a : Addr}, a ≠ l → B2 a = c'.B a := fun z => if_neg z
    have B2l : B2 l = none := if_pos rfl
    have sq : ∀ a xs, SqT F.K c'.B a xs → SqT F.K B2 a xs := fun a xs m => by
      rcases m with m | m
      · have keep : ∀ {o : HO}, c'.B a = some o → (∀ u, o ≠ .lst u) → B2 a = some o := fun {o} e n => by
          rw [B2n fun z => by rw [z, hl'] at e; exact n _ (Option.some.inj e).symm]
          exact e
        rcases m with m | ⟨o, m⟩
        · exact .inl (.inl (keep m fun _ z => nomatch z))
        · exact .inl (.inr ⟨o, keep m fun _ z => nomatch z⟩)
      · exact .inr m
    have σ' : c'.σ = c.σ := G'.σ.trans b3
    have x1 : Ext c.B B2 := fun a o e => by
      rw [B2n fun z => by rw [z, q4] at e; cases e]
      exact G'.go.b _ _ (b4 _ _ e)
    have x2 : Ext B2 c'.H := fun a o e => by
      by_cases z : a = l
      · rw [z, B2l] at e; cases e
      · rw [B2n z] at e; exact R'.le _ _ e
    have GG := G2.trans G'
    let c'' : Cf := ⟨B2, c'.H, c.σ, c.s⟩
    have hlH : c'.H l = some (.lst vs0) := R'.le _ _ hl'
    have R'' : Rep F c'' := by
      refine ⟨x2, R.len, fun j e he => ?_, R.sep, fun on => ?_⟩
      · by_cases z : j = i
        · subst z
          have : e = .own ds := by
            have h1 : c.s.r[j]? = some (some e) := he
            rw [e0] at h1
            cases h1
            rfl
          subst this
          exact ⟨l, _, q1, hlH, ⟨vs0, rfl, r0.ext x1⟩, B2l, q5⟩
        · have ho := hno j e z he
          have y := R.at_ j e he
          have e' : c'.s.r[j]? = some (some e) := by
            rw [hs]
            exact (List.getElem?_set_ne (Ne.symm z)).trans he
          have y' := R'.at_ j e e'
          cases e with
          | val d =>
            obtain ⟨u, y1, y2⟩ := y
            exact ⟨u, y1, y2.ext x1⟩
          | bag => exact y
          | own es2 =>
            obtain ⟨l2, o2, y1, y2, ⟨vs2, rfl, y3⟩, y4, y5⟩ := y'
            rw [σ'] at y1
            refine ⟨l2, _, y1, y2, ⟨vs2, rfl, flatTs_rp sq y3 ho⟩, ?_, y5⟩
            show B2 l2 = none
            by_cases z2 : l2 = l
            · rw [z2]; exact B2l
            · rw [B2n z2]; exact y4
          | _ => cases ho
      · have y := R'.bag on
        have y0 := R.bag on
        have e : c'.s.n = c.s.n := by rw [hs]; rfl
        rw [e] at y
        refine ⟨y.1, ?_, ?_⟩
        · show B2 F.b = none
          by_cases z2 : F.b = l
          · rw [z2]; exact B2l
          · rw [B2n z2]; exact y.2.1
        · show B2 F.c = none
          by_cases z2 : F.c = l
          · rw [z2]; exact B2l
          · rw [B2n z2]; exact y.2.2
    have G'' : GoE F c c'' := by
      refine ⟨⟨x1, GG.go.fr, fun a h1 h2 => ?_, fun a h1 => .inl h1, GG.go.dom⟩, rfl, fun j e h1 => ⟨e, h1⟩⟩
      by_cases z : a = l
      · exact absurd (show B2 a = none by rw [z]; exact B2l) h1
      · exact GG.go.nb a (by rw [← B2n z]; exact h1) h2
    obtain ⟨l2, vs2, d1, d2, d3, d4, d5, d6, d7⟩ := D'
    rw [b1] at d7
    refine q c'' v (.new es) R'' G'' ⟨l2, vs2, d1, d2, flatTs_rp sq d3 hfl, ?_, fun m => R.notOwn d7 m, d6, d7⟩ hΦ
    show B2 l2 = none
    by_cases z2 : l2 = l
    · rw [z2]; exact B2l
    · rw [B2n z2]; exact d4
  rw [b1, b3] at key
  exact key
end
theorem Ev.loanF {i : Nat} {g : GX} {s : Stt} {ds es : List D} (h0 : s.r[i]? = some (some (.own ds))) (hn : ∀ (j : Nat) (e : En), j ≠ i → s.r[j]? = some (some e) → flatE e = true) (h : Ev g (s.put i (.val (.lst ds))) (.new es)) (hf : flatTs es = true) : Ev (gLoanF i g) s (.new es) :=
  fun Φ q => ⟨ds, h0, hn, h _ ⟨es, rfl, hf, rfl, q⟩⟩
end DL
set_option maxHeartbeats 1000000
namespace K21
open PySem PySem.Spec PyProof.Rows L2 Ax DL
def lettersL : List Nat := ("abcdefghijklmnopqrstuvwxyz" : Str).cps.toList
def signsL : List Nat := ("abcdefghijklmnopqrstuvwxyz0123456789" : Str).cps.toList
/-- a name, by its signs -/
def nameL : List Nat → Bool
  | [] => false
  | c :: l => decide ((c :: l).length ≤ 8) && (decide (c ∈ lettersL) && (c :: l).all fun u => decide (u ∈ signsL))
def nameD : D → Bool
  | .str x => nameL x.cps.toList
  | _ => false
def keyD (d : D) : Bool := match seqL d with
  | some es => decide (es.length ≤ 3) && es.all isW
  | none => false
abbrev hd (e : E) : Str × List Int := (e.1, e.2.1)
def hdN (e : E) : NK := .tup [.text e.1, .tup (e.2.1.map NestedKey.num)]
/-! events and orders -/
structure Evt where
  nm : Str
  en : Int
  kn : Str
  nz : Bool
  nd : List Str
def ndD (e : Evt) : D := match e.nz with
  | true => .tpz (e.nd.map D.str)
  | false => .tup (e.nd.map D.str)
abbrev evK : List Str := ["name", "end", "kind", "needs"]
abbrev evF (e : Evt) : List D := [.str e.nm, .int e.en, .str e.kn, ndD e]
abbrev evT (e : Evt) : D := .tup (evF e)
abbrev evI (e : Evt) : D := .ins "Event" evK (evF e)
structure EvOk (elder : List Str) (e : Evt) : Prop where
  nm : nameL e.nm.cps.toList = true
  new : e.nm ∉ elder
  en : 1 ≤ e.en ∧ e.en ≤ 5
  kn : e.kn = "query" ∨ e.kn = "action"
  nod : e.nd.Nodup
  sub : ∀ x ∈ e.nd, x ∈ elder
  len : e.nd.length ≤ 3
  nz : e.nz = false → e.nd = []
structure Wf (evs : List Evt) : Prop where
  len : evs.length ≤ 12
  ok : ∀ pre e post, evs = pre ++ e :: post → EvOk (pre.map Evt.nm) e
abbrev nmD (e : Evt) : D := .str e.nm
abbrev orK : List Str := ["events", "_names"]
abbrev orD (evs : List Evt) : D := .ins "Order" orK [.tup (evs.map evI), .tup (evs.map nmD)]
/-- the law's world -/
abbrev wlL (rows : List E) (b f : Int) : D := .tup [.dnk (rows.map hdN) (rows.map fun e => .int e.2.2), .int b, .int f]
def wsum (k : List Int) : Int := ((enumL 0 k).map fun p => ((p.1 : Int) + 1) * p.2).sum
def ansR (rows : List E) (b f : Int) (n : Str) (k : List Int) : Int := match rows.find? (fun e => decide (hd e = (n, k))) with
  | some e => e.2.2
  | none => b + f * wsum k
def bndK (k : List Int) : Prop := k.length ≤ 3 ∧ ∀ x ∈ k, x.natAbs < 2 ^ 1000
/-! true runs -/
def Sol (evs : List Evt) (ans : Str → List Int → Int) (φ : Str → Int) : Prop := ∀ e ∈ evs, φ e.nm = ans e.nm (e.nd.map φ)
abbrev rowE (φ : Str → Int) (e : Evt) : E := (e.nm, e.nd.map φ, φ e.nm)
abbrev runF (evs : List Evt) (φ : Str → Int) : List E := evs.map (rowE φ)
abbrev runD (es : List E) : D := .tup (es.map eD)
def bndF (evs : List Evt) (φ : Str → Int) : Prop := ∀ e ∈ evs, (φ e.nm).natAbs < 2 ^ 1000
def intD : Option Int → D
  | some p => .int p
  | none => .non
abbrev truD (evs : List Evt) (φ : Str → Int) : D := .dic (evs.map fun e => .inr e.nm) (evs.map fun e => .tup [kD (e.nd.map φ), .int (φ e.nm)])
/-! ### tables -/
abbrev TB := List (Int × List E)
abbrev tbD (T : TB) : D := .dic (T.map fun p => .inl p.1) (T.map fun p => .tup (p.2.map eD))
abbrev tbL (T : TB) : List (L2.Key × D) := T.map fun p => (.inl p.1, .tup (p.2.map eD))
def tabT (T : TB) (en : Int) : List E := match T.find? (fun p => decide (p.1 = en)) with
  | some p => p.2
  | none => []
def findV (t : List E) (n : Str) (k : List Int) : Option Int := (t.find? fun e => decide (hd e = (n, k))).map (·.2.2)
def withF (t : List E) (e : E) : List E := if (findV t e.1 e.2.1).isSome = true then t else sortE (t ++ [e])
structure TabOk (t : List E) : Prop where
  len : t.length ≤ 900
  str : ∀ e ∈ t, strK e.1 = true
def TbOk (T : TB) : Prop := ∀ p ∈ T, TabOk p.2
/-! ### plays -/
def valF (acc : List E) (x : Str) : Option Int := (acc.find? fun r => decide (r.1 = x)).map (·.2.2)
def keyF (acc : List E) (nd : List Str) : Option (List Int) := if (nd.all fun x => (valF acc x).isSome) = true then some (nd.map fun x => (valF acc x).getD 0) else none
def keyO : Option (List Int) → D
  | some k => kD k
  | none => .non
def stepP (T : TB) (acc : List E) (e : Evt) : List E := match keyF acc e.nd with
  | none => acc
  | some k => match findV (tabT T e.en) e.nm k with
    | none => acc
    | some v => acc ++ [(e.nm, k, v)]
def playF (T : TB) (evs : List Evt) : List E := evs.foldl (stepP T) []
abbrev WE := Str × Int × List Int × Option Int
def wkD (r : WE) : D := .tup [.str r.1, .int r.2.1, kD r.2.2.1, intD r.2.2.2]
def accW (F : List WE) : List E := F.filterMap fun r => r.2.2.2.map fun v => (r.1, r.2.2.1, v)
def stepW (T : TB) (F : List WE) (e : Evt) : List WE := match keyF (accW F) e.nd with
  | none => F
  | some k => F ++ [(e.nm, e.en, k, findV (tabT T e.en) e.nm k)]
def walkF (T : TB) (evs : List Evt) : List WE := evs.foldl (stepW T) []
def NL : List Str := ["m", "b2", "z", "a", "k0", "c", "zz", "d"]
/-! the promises -/
def S_is_whole : GF := fun ds Φ => ∃ d, ds = [d] ∧ kd d = true ∧ Φ (.bl (isW d))
def S_is_between : GF := fun ds Φ => ∃ i a b : Int, ds = [.int i, .int a, .int b] ∧ Φ (.bl (decide (a ≤ i) && decide (i ≤ b)))
def S_is_name : GF := fun ds Φ => ∃ d, ds = [d] ∧ Th 0 d ∧ Φ (.bl (nameD d))
def SI_Event : GFI := fun ds Φ => ∃ e : Evt, ds = evF e ∧ Φ evK (evF e)
def S_are_needs : GF := fun ds Φ => ∃ (e : Evt) (elder : List Str), ds = [ndD e, .lst (elder.map D.str)] ∧ EvOk elder e ∧ (∀ x ∈ elder, nameL x.cps.toList = true) ∧ Φ (.bl true)
def S_event_fault : GF := fun ds Φ => ∃ (e : Evt) (elder : List Str), ds = [evI e, .lst (elder.map D.str)] ∧ EvOk elder e ∧ (∀ x ∈ elder, nameL x.cps.toList = true) ∧ Φ .non
def SI_Order : GFI := fun ds Φ => ∃ evs : List Evt, ds = [.lst (evs.map evI)] ∧ Wf evs ∧ Φ orK [.tup (evs.map evI), .tup (evs.map nmD)]
def S_Order_place : GF := fun ds Φ => ∃ (evs : List Evt) (p : Nat) (e : Evt), ds = [orD evs, .str e.nm] ∧ Wf evs ∧ evs[p]? = some e ∧ Φ (.int (p : Nat))
def S_Order_event : GF := fun ds Φ => ∃ (evs : List Evt) (p : Nat) (e : Evt), ds = [orD evs, .str e.nm] ∧ Wf evs ∧ evs[p]? = some e ∧ Φ (evI e)
def S_Order_key_of : GF := fun ds Φ => ∃ (evs : List Evt) (p : Nat) (e : Evt) (ks : List L2.Key) (vs : List D) (acc : List E), ds = [orD evs, .str e.nm, .dic ks vs] ∧ Wf evs ∧ evs[p]? = some e ∧ (∀ x ∈ e.nd, getC (ks.zip vs) (.inr x) = (valF acc x).map D.int) ∧ Φ (keyO (keyF acc e.nd))
def S_entry_value : GF := fun ds Φ => ∃ (t : List E) (n : Str) (k : List Int), ds = [.tup (t.map eD), .str n, kD k] ∧ TabOk t ∧ strK n = true ∧ Φ (intD (findV t n k))
def S_with_answer : GF := fun ds Φ => ∃ (t : List E) (e : E), ds = [.tup (t.map eD), .str e.1, kD e.2.1, .int e.2.2] ∧ TabOk t ∧ strK e.1 = true ∧ Φ (.tup ((withF t e).map eD))
def S_play : GF := fun ds Φ => ∃ (evs : List Evt) (T : TB), ds = [orD evs, tbD T] ∧ Wf evs ∧ TbOk T ∧ Φ (runD (playF T evs))
def S_law_answer : GF := fun ds Φ => ∃ (rows : List E) (b f : Int) (n : Str) (k : List Int), ds = [wlL rows b f, .str n, kD k] ∧ bndK k ∧ f.natAbs ≤ 2 ∧ Φ (.int (ansR rows b f n k))
def S_law_true : GF := fun ds Φ => ∃ (evs : List Evt) (rows : List E) (b f : Int) (φ : Str → Int), ds = [.lst (evs.map evT), wlL rows b f] ∧ Wf evs ∧ f.natAbs ≤ 2 ∧ Sol evs (ansR rows b f) φ ∧ bndF evs φ ∧ Φ (truD evs φ)
/-- what a drawn world is -/
structure WlOk (rows : List E) (b f : Int) : Prop where
  nod : (rows.map hd).Nodup
  nm : ∀ e ∈ rows, nameL e.1.cps.toList = true
  key : ∀ e ∈ rows, e.2.1.length ≤ 3
  val : ∀ e ∈ rows, e.2.2.natAbs < 2 ^ 100
  b : b.natAbs < 2 ^ 100
  f : f.natAbs ≤ 2
def S_law_made_world : GFB := fun ds n Φ => ∃ evs : List Evt, ds = [.lst (evs.map evT)] ∧ Wf evs ∧ n < 800000 ∧ ∀ (rows : List E) (b f : Int) n', WlOk rows b f → rows.length ≤ 12 → n' ≤ n + 100 → Φ (wlL rows b f) n'
/-- what a drawn order is -/
structure DrOk (evs : List Evt) : Prop where
  wf : Wf evs
  pos : 1 ≤ evs.length
  len : evs.length ≤ 7
  nz : ∀ e ∈ evs, e.nz = true
  nl : ∀ e ∈ evs, e.nm ∈ NL
def S_law_order : GFB := fun ds n Φ => ∃ ends : Int, ds = [.int ends, .int 1, .int 7] ∧ 1 ≤ ends ∧ ends ≤ 4 ∧ n < 800000 ∧ ∀ (evs : List Evt) n', DrOk evs → n' ≤ n + 100 → Φ (.lst (evs.map evT)) n'
def S_law_wide_order : GFB := fun ds n Φ => ∃ ends : Int, ds = [.int ends, .int 1, .int 7] ∧ 1 ≤ ends ∧ ends ≤ 4 ∧ n < 700000 ∧ ∀ (evs : List Evt) n', DrOk evs → n' ≤ n + 200 → Φ (.lst (evs.map evT)) n'
def S_law_order_of : GF := fun ds Φ => ∃ evs : List Evt, ds = [.lst (evs.map evT)] ∧ Wf evs ∧ Φ (orD evs)
def S_law_is_whole : GF := fun ds Φ => ∃ i : Int, ds = [.int i] ∧ Φ (.bl true)
def S_law_is_entry : GF := fun ds Φ => ∃ e : E, ds = [eD e] ∧ e.2.1.length ≤ 100 ∧ Φ (.bl true)
def S_law_are_entries : GF := fun ds Φ => ∃ es : List E, ds = [runD es] ∧ es.length ≤ 1000 ∧ (∀ e ∈ es, e.2.1.length ≤ 100) ∧ Φ (.bl true)
def S_law_find : GF := fun ds Φ => ∃ (t : List E) (n : Str) (k : List Int), ds = [.tup (t.map eD), .str n, kD k] ∧ TabOk t ∧ strK n = true ∧ Φ (intD (findV t n k))
def S_law_walk : GF := fun ds Φ => ∃ (evs : List Evt) (T : TB), ds = [.lst (evs.map evT), tbD T] ∧ Wf evs ∧ TbOk T ∧ Φ (.lst ((walkF T evs).map wkD))
def S_law_due_play : GF := fun ds Φ => ∃ (evs : List Evt) (T : TB), ds = [.lst (evs.map evT), tbD T] ∧ Wf evs ∧ TbOk T ∧ Φ (runD (playF T evs))
def S_law_put : GF := fun ds Φ => ∃ (t : List E) (e : E), ds = [.tup (t.map eD), eD e] ∧ TabOk t ∧ strK e.1 = true ∧ Φ (.tup ((withF t e).map eD))
def S_law_grown : GFB := fun ds n Φ => ∃ (evs : List Evt) (rows : List E) (b f : Int) (φ : Str → Int) (d : D), ds = [.lst (evs.map evT), wlL rows b f, d] ∧ Wf evs ∧ 1 ≤ evs.length ∧ n < 900000 ∧ f.natAbs ≤ 2 ∧ Sol evs (ansR rows b f) φ ∧ bndF evs φ ∧ ∀ (e : Evt) (k : List Int) n', e ∈ evs → k.length = e.nd.length → n' ≤ n + 20 → Φ (.tup [.int e.en, eD (e.nm, k, ansR rows b f e.nm k)]) n'
def B_is_whole : GS := (gsRet (gAnd (gIsi "int" (DL.gName 0)) (gNot (gIsi "bool" (DL.gName 0)))))
def B_is_between : GS := (gsRet (gAnd (gCall S_is_whole [] (gaCons (DL.gName 0) gaNil)) (gChain (fB fun i j => decide (i ≤ j)) (fB fun i j => decide (i ≤ j)) (DL.gName 1) (DL.gName 0) (DL.gName 2))))
def B_is_name : GS := (gsSeq (gsIf (gTOr (gTNot (gTv (gIsi "str" (DL.gName 0)))) (gTNot (gTv (gChain (fB fun i j => decide (i ≤ j)) (fB fun i j => decide (i ≤ j)) (gDat (.int 1)) (gCl fLen (gaCons (DL.gName 0) gaNil)) (gDat (.int 8)))))) (gsRet (gDat (.bl false))) gsNil)
    (gsRet (gAnd (gBin fInS (gBin fIx (DL.gName 0) (gDat (.int 0))) (gDat (.str ("abcdefghijklmnopqrstuvwxyz" : Str)))) (gCl fAll (gaCons (gLc (giStr (DL.gName 0)) (tgName 1) gYes (gBin fInS (DL.gName 1) (gDat (.str ("abcdefghijklmnopqrstuvwxyz0123456789" : Str)))) [1]) gaNil)))))
def B_Event_init : GS := (gsSeq (gsFld 0 "Event" "name" (DL.gName 1))
    (gsSeq (gsFld 0 "Event" "end" (DL.gName 2))
    (gsSeq (gsFld 0 "Event" "kind" (DL.gName 3))
    (gsFld 0 "Event" "needs" (gCl fTuple (gaCons (DL.gName 4) gaNil))))))
def B_are_needs : GS := (gsSeq (gsIf (gTv (gBin (fB fun i j => decide (j < i)) (gCl fLen (gaCons (DL.gName 0) gaNil)) (gDat (.int 3)))) (gsRet (gDat (.bl false))) gsNil)
    (gsRet (gCl fAll (gaCons (gLc (giSeq (DL.gName 0)) (tgName 2) gYes (gAnd (gBin fIn (DL.gName 2) (DL.gName 1)) (gBin fEq (gCountZ (DL.gName 0) (DL.gName 2)) (gDat (.int 1)))) [2]) gaNil))))
def B_event_fault : GS := (gsSeq (gsIf (gTNot (gTv (gCall S_is_name [] (gaCons (gFld "Event" "name" (DL.gName 0)) gaNil)))) (gsRet (gDat (.str ("name" : Str)))) gsNil)
    (gsSeq (gsIf (gTv (gBin fIn (gFld "Event" "name" (DL.gName 0)) (DL.gName 1))) (gsRet (gDat (.str ("twice" : Str)))) gsNil)
    (gsSeq (gsIf (gTNot (gTv (gCall S_is_between [] (gaCons (gFld "Event" "end" (DL.gName 0)) (gaCons (gDat (.int 1)) (gaCons (gDat (.int 5)) gaNil)))))) (gsRet (gDat (.str ("end" : Str)))) gsNil)
    (gsSeq (gsIf (gTv (gBin fNotInT (gFld "Event" "kind" (DL.gName 0)) (gDat (.tup ([("query" : Str), ("action" : Str)].map D.str))))) (gsRet (gDat (.str ("kind" : Str)))) gsNil)
    (gsSeq (gsIf (gTNot (gTv (gCall S_are_needs [] (gaCons (gFld "Event" "needs" (DL.gName 0)) (gaCons (DL.gName 1) gaNil))))) (gsRet (gDat (.str ("needs" : Str)))) gsNil)
    (gsRet (gDat .non)))))))
def B_Order_init : GS := (gsSeq (gsFld 0 "Order" "events" (gCl fTuple (gaCons (DL.gName 1) gaNil)))
    (gsSeq (gsIf (gTv (gBin (fB fun i j => decide (j < i)) (gCl fLen (gaCons (gFldO 0 "Order" "events") gaNil)) (gDat (.int 12)))) gsNever gsNil)
    (gsSeq (gsOwn 2 (gLst gaNil))
    (gsSeq (gsFor (giSeq (gFldO 0 "Order" "events")) (tgName 3) (gsSeq (gsSet 4 (gPeek S_event_fault [] (gaCons (DL.gName 3) (gaCons (DL.gName 2) gaNil))))
    (gsSeq (gsIf (gTv (gNotN (DL.gName 4))) gsNever gsNil)
    (gsApp 2 (gFld "Event" "name" (DL.gName 3))))))
    (gsFld 0 "Order" "_names" (gCl fTuple (gaCons (DL.gName 2) gaNil)))))))
def B_Order_place : GS := (gsSeq (gsFor (giEnum (gaCons (gFld "Order" "events" (DL.gName 0)) gaNil)) (tgTup 2 (tgCons (tgName 2) (tgCons (tgName 3) tgNil))) (gsIf (gTv (gBin fEq (gFld "Event" "name" (DL.gName 3)) (DL.gName 1))) (gsRet (DL.gName 2)) gsNil))
    gsNever)
def B_Order_event : GS := (gsRet (gBin fIx (gFld "Order" "events" (DL.gName 0)) (gMeth "Order" "place" S_Order_place [] (DL.gName 0) (gaCons (DL.gName 1) gaNil))))
def B_Order_key_of : GS := (gsSeq (gsSet 3 (gFld "Event" "needs" (gMeth "Order" "event" S_Order_event [] (DL.gName 0) (gaCons (DL.gName 1) gaNil))))
    (gsSeq (gsIf (gTNot (gTv (gCl fAll (gaCons (gLc (giSeq (DL.gName 3)) (tgName 4) gYes (gInC false (DL.gName 4) (DL.gName 2)) [4]) gaNil)))) (gsRet (gDat .non)) gsNil)
    (gsRet (gCl fTuple (gaCons (gLc (giSeq (DL.gName 3)) (tgName 4) gYes (gIxC (DL.gName 2) (DL.gName 4)) [4]) gaNil)))))
def B_entry_value : GS := (gsSeq (gsFor (giSeq (DL.gName 0)) (tgName 3) (gsIf (gTAnd (gTv (gBin fEq (gBin fIx (DL.gName 3) (gDat (.int 0))) (DL.gName 1))) (gTv (gBin fEq (gBin fIx (DL.gName 3) (gDat (.int 1))) (DL.gName 2)))) (gsRet (gBin fIx (DL.gName 3) (gDat (.int 2)))) gsNil))
    (gsRet (gDat .non)))
def B_with_answer : GS := (gsSeq (gsIf (gTv (gNotN (gCall S_entry_value [] (gaCons (DL.gName 0) (gaCons (DL.gName 1) (gaCons (DL.gName 2) gaNil)))))) (gsRet (DL.gName 0)) gsNil)
    (gsRet (gCl fTuple (gaCons (gSorted (gaCons (gLst (gaStar (DL.gName 0) (gaCons (DL.gTup (gaCons (DL.gName 1) (gaCons (DL.gName 2) (gaCons (DL.gName 3) gaNil)))) gaNil))) gaNil)) gaNil))))
def B_play : GS := (gsSeq (gsDck 2)
    (gsSeq (gsOwn 3 (gLst gaNil))
    (gsSeq (gsFor (giOwn "Order" "events" (DL.gName 0)) (tgName 4) (gsSeq (gsSet 5 (gMethP "Order" "key_of" S_Order_key_of [] (DL.gName 0) (gaCons (gFld "Event" "name" (DL.gName 4)) (gaCons (DL.gName 2) gaNil))))
    (gsSeq (gsIf (gTv (gIsN (DL.gName 5))) gsCnt gsNil)
    (gsSeq (gsSet 6 (gCall S_entry_value [] (gaCons (gGetC (DL.gName 1) (gFld "Event" "end" (DL.gName 4)) (DL.gTup gaNil)) (gaCons (gFld "Event" "name" (DL.gName 4)) (gaCons (DL.gName 5) gaNil)))))
    (gsIf (gTv (gNotN (DL.gName 6))) (gsSeq (gsPutC 2 (DL.gName 6) (gFld "Event" "name" (DL.gName 4)))
    (gsApp 3 (DL.gTup (gaCons (gFld "Event" "name" (DL.gName 4)) (gaCons (DL.gName 5) (gaCons (DL.gName 6) gaNil)))))) gsNil)))))
    (gsRet (gCl fTuple (gaCons (DL.gName 3) gaNil))))))
def B_law_answer : GS := (gsSeq (gsIf (gTv (gInD false (DL.gTup (gaCons (DL.gName 1) (gaCons (DL.gName 2) gaNil))) (gBin fIx (DL.gName 0) (gDat (.int 0))))) (gsRet (gIxD (gBin fIx (DL.gName 0) (gDat (.int 0))) (DL.gTup (gaCons (DL.gName 1) (gaCons (DL.gName 2) gaNil))))) gsNil)
    (gsRet (gBin fAdd (gBin fIx (DL.gName 0) (gDat (.int 1))) (gBin (fIc CMulW fun i j => i * j) (gBin fIx (DL.gName 0) (gDat (.int 2))) (gCl fSum (gaCons (gLc (giEnum (gaCons (DL.gName 2) gaNil)) (tgTup 2 (tgCons (tgName 3) (tgCons (tgName 4) tgNil))) gYes (gBin (fIc CMulW fun i j => i * j) (gBin fAdd (DL.gName 3) (gDat (.int 1))) (DL.gName 4)) [3, 4]) gaNil))))))
def B_law_true : GS := (gsSeq (gsDck 2)
    (gsSeq (gsFor (giSeq (DL.gName 0)) (tgTup 4 (tgCons (tgName 3) (tgCons (tgName 4) (tgCons (tgName 5) (tgCons (tgName 6) tgNil))))) (gsSeq (gsSet 7 (gCl fTuple (gaCons (gLc (giSeq (DL.gName 6)) (tgName 8) gYes (gBin fIx (gIxC (DL.gName 2) (DL.gName 8)) (gDat (.int 1))) [8]) gaNil)))
    (gsPutC 2 (DL.gTup (gaCons (DL.gName 7) (gaCons (gCall S_law_answer [] (gaCons (DL.gName 1) (gaCons (DL.gName 3) (gaCons (DL.gName 7) gaNil)))) gaNil))) (DL.gName 3))))
    (gsRet (DL.gName 2))))
def B_law_order : GS := (gsSeq (gsSet 4 (gLst (gaCons (gDat (.str ("m" : Str))) (gaCons (gDat (.str ("b2" : Str))) (gaCons (gDat (.str ("z" : Str))) (gaCons (gDat (.str ("a" : Str))) (gaCons (gDat (.str ("k0" : Str))) (gaCons (gDat (.str ("c" : Str))) (gaCons (gDat (.str ("zz" : Str))) (gaCons (gDat (.str ("d" : Str))) gaNil))))))))))
    (gsSeq (gsOwn 5 (gLst gaNil))
    (gsSeq (gsFor (giRange1 (gaCons (gBin fAdd (DL.gName 2) (gCallB 0 SDraw (gaCons (gBin fAdd (gBin (fI fun i j => i - j) (DL.gName 3) (DL.gName 2)) (gDat (.int 1))) gaNil))) gaNil)) (tgName 6) (gsSeq (gsOwn 7 (gLst gaNil))
    (gsSeq (gsIf (gTAnd (gTv (gBin (fB fun i j => decide (j < i)) (DL.gName 6) (gDat (.int 0)))) (gTv (gBin (fB fun i j => decide (j < i)) (gCallB 0 SDraw (gaCons (gDat (.int 6)) gaNil)) (gDat (.int 0))))) (gsApp 7 (gBin fIx (DL.gName 4) (gBin (fI fun i j => i - j) (gBin (fI fun i j => i - j) (DL.gName 6) (gDat (.int 1))) (gIf (gTv (gBin fEq (gCallB 0 SDraw (gaCons (gDat (.int 3)) gaNil)) (gDat (.int 0)))) (gCallB 0 SDraw (gaCons (DL.gName 6) gaNil)) (gDat (.int 0)))))) gsNil)
    (gsSeq (gsIf (gTAnd (gTv (gBin (fB fun i j => decide (j < i)) (DL.gName 6) (gDat (.int 1)))) (gTv (gBin fEq (gCallB 0 SDraw (gaCons (gDat (.int 3)) gaNil)) (gDat (.int 0))))) (gsSeq (gsSet 8 (gBin fIx (DL.gName 4) (gCallB 0 SDraw (gaCons (DL.gName 6) gaNil))))
    (gsIf (gTv (gBin fNotIn (DL.gName 8) (DL.gName 7))) (gsApp 7 (DL.gName 8)) gsNil)) gsNil)
    (gsSeq (gsSet 9 (gBin fIx (gLst (gaCons (gDat (.str ("query" : Str))) (gaCons (gDat (.str ("action" : Str))) gaNil))) (gCallB 0 SDraw (gaCons (gDat (.int 2)) gaNil))))
    (gsApp 5 (DL.gTup (gaCons (gBin fIx (DL.gName 4) (DL.gName 6)) (gaCons (gBin fAdd (gDat (.int 1)) (gCallB 0 SDraw (gaCons (DL.gName 1) gaNil))) (gaCons (DL.gName 9) (gaCons (gCl fTupZ (gaCons (DL.gName 7) gaNil)) gaNil)))))))))))
    (gsRet (DL.gName 5)))))
def B_law_wide_order : GS := (gsSeq (gsOwn 4 (gLst gaNil))
    (gsSeq (gsFor (giSeq (gCallB 0 S_law_order (gaCons (DL.gName 1) (gaCons (DL.gName 2) (gaCons (DL.gName 3) gaNil))))) (tgTup 4 (tgCons (tgName 5) (tgCons (tgName 6) (tgCons (tgName 7) (tgCons (tgName 8) tgNil))))) (gsSeq (gsOwn 9 (gLoanF 4 (gLc (giSeq (DL.gName 4)) (tgName 12) (gTv (gBin fNotInZ (gBin fIx (DL.gName 12) (gDat (.int 0))) (DL.gName 8))) (gBin fIx (DL.gName 12) (gDat (.int 0))) [12])))
    (gsSeq (gsIf (gTAnd (gTv (gBin (fB fun i j => decide (j < i)) (gCl fLen (gaCons (DL.gName 4) gaNil)) (gDat (.int 2)))) (gTv (gBin fEq (gCallB 0 SDraw (gaCons (gDat (.int 5)) gaNil)) (gDat (.int 0))))) (gsSeq (gsOwn 10 (gCl fList (gaCons (DL.gName 8) gaNil)))
    (gsSeq (gsFor (giRange1 (gaCons (gBin (fI fun i j => i - j) (gDat (.int 3)) (gCl fLen (gaCons (DL.gName 8) gaNil))) gaNil)) (tgName 11) (gsApp 10 (gPop 9 (gCallB 0 SDraw (gaCons (gCl fLen (gaCons (DL.gName 9) gaNil)) gaNil)))))
    (gsSet 8 (gCl fTupZ (gaCons (DL.gName 10) gaNil))))) gsNil)
    (gsApp 4 (DL.gTup (gaCons (DL.gName 5) (gaCons (DL.gName 6) (gaCons (DL.gName 7) (gaCons (DL.gName 8) gaNil)))))))))
    (gsRet (DL.gName 4))))
def B_law_made_world : GS := (gsSeq (gsSet 2 (gBin fIx (gLst (gaCons (gDat (.int 0)) (gaCons (gDat (.int 1)) (gaCons (gDat (.int 7)) (gaCons (gBin (fIc CPow fun i j => i ^ j.toNat) (gDat (.int 10)) (gDat (.int 30))) gaNil))))) (gCallB 0 SDraw (gaCons (gDat (.int 4)) gaNil))))
    (gsMadeW (gBin fIx (gLst (gaCons (gDat (.int 0)) (gaCons (gDat (.int 1)) (gaCons (gDat (.int 2)) (gaCons (gBin (fI fun i j => i - j) (gDat (.int 0)) (gDat (.int 1))) gaNil))))) (gCallB 0 SDraw (gaCons (gDat (.int 4)) gaNil))) (gTv (gBin fEq (gCallB 0 SDraw (gaCons (gDat (.int 2)) gaNil)) (gDat (.int 0)))) (gBin fIx (gIxC (gCall S_law_true [] (gaCons (DL.gName 1) (gaCons (DL.gName 3) gaNil))) (gBin fIx (DL.gName 4) (gDat (.int 0)))) (gDat (.int 0))) (gCallB 0 SDraw (gaCons (gDat (.int 4)) gaNil)) (DL.gTup (gaCons (gBin fIx (DL.gName 4) (gDat (.int 0))) (gaCons (DL.gName 5) gaNil)))))
def B_law_order_of : GS := (gsRet (gMake "Order" SI_Order [] (gaCons (gLc (giSeq (DL.gName 0)) (tgTup 4 (tgCons (tgName 1) (tgCons (tgName 2) (tgCons (tgName 3) (tgCons (tgName 4) tgNil))))) gYes (gMake "Event" SI_Event [] (gaCons (DL.gName 1) (gaCons (DL.gName 2) (gaCons (DL.gName 3) (gaCons (DL.gName 4) gaNil))))) [1, 2, 3, 4]) gaNil)))
def B_law_is_whole : GS := (gsRet (gAnd (gIsi "int" (DL.gName 0)) (gNot (gIsi "bool" (DL.gName 0)))))
def B_law_is_entry : GS := (gsSeq (gsIf (gTOr (gTNot (gTv (gIsi "tuple" (DL.gName 0)))) (gTOr (gTv (gBin fNe (gCl fLen (gaCons (DL.gName 0) gaNil)) (gDat (.int 3)))) (gTNot (gTv (gIsi "str" (gBin fIx (DL.gName 0) (gDat (.int 0)))))))) (gsRet (gDat (.bl false))) gsNil)
    (gsSeq (gsIf (gTOr (gTNot (gTv (gIsi "tuple" (gBin fIx (DL.gName 0) (gDat (.int 1)))))) (gTNot (gTv (gCall S_law_is_whole [] (gaCons (gBin fIx (DL.gName 0) (gDat (.int 2))) gaNil))))) (gsRet (gDat (.bl false))) gsNil)
    (gsRet (gCl fAll (gaCons (gLc (giSeq (gBin fIx (DL.gName 0) (gDat (.int 1)))) (tgName 1) gYes (gCall S_law_is_whole [] (gaCons (DL.gName 1) gaNil)) [1]) gaNil)))))
def B_law_are_entries : GS := (gsRet (gAnd (gIsi "tuple" (DL.gName 0)) (gCl fAll (gaCons (gLc (giSeq (DL.gName 0)) (tgName 1) gYes (gCall S_law_is_entry [] (gaCons (DL.gName 1) gaNil)) [1]) gaNil))))
def B_law_find : GS := (gsSeq (gsFor (giSeq (DL.gName 0)) (tgName 3) (gsIf (gTAnd (gTv (gBin fEq (gBin fIx (DL.gName 3) (gDat (.int 0))) (DL.gName 1))) (gTv (gBin fEq (gBin fIx (DL.gName 3) (gDat (.int 1))) (DL.gName 2)))) (gsRet (gBin fIx (DL.gName 3) (gDat (.int 2)))) gsNil))
    (gsRet (gDat .non)))
def B_law_walk : GS := (gsSeq (gsDck 2)
    (gsSeq (gsOwn 3 (gLst gaNil))
    (gsSeq (gsFor (giSeq (DL.gName 0)) (tgTup 4 (tgCons (tgName 4) (tgCons (tgName 5) (tgCons (tgName 6) (tgCons (tgName 7) tgNil))))) (gsIf (gTv (gCl fAll (gaCons (gLc (giSeq (DL.gName 7)) (tgName 10) gYes (gInC false (DL.gName 10) (DL.gName 2)) [10]) gaNil))) (gsSeq (gsSet 8 (gCl fTuple (gaCons (gLc (giSeq (DL.gName 7)) (tgName 10) gYes (gIxC (DL.gName 2) (DL.gName 10)) [10]) gaNil)))
    (gsSeq (gsSet 9 (gIf (gTv (gInC false (DL.gName 5) (DL.gName 1))) (gCall S_law_find [] (gaCons (gIxC (DL.gName 1) (DL.gName 5)) (gaCons (DL.gName 4) (gaCons (DL.gName 8) gaNil)))) (gDat .non)))
    (gsSeq (gsIf (gTv (gNotN (DL.gName 9))) (gsPutC 2 (DL.gName 9) (DL.gName 4)) gsNil)
    (gsApp 3 (DL.gTup (gaCons (DL.gName 4) (gaCons (DL.gName 5) (gaCons (DL.gName 8) (gaCons (DL.gName 9) gaNil))))))))) gsNil))
    (gsRet (DL.gName 3)))))
def B_law_due_play : GS := (gsRet (gCl fTuple (gaCons (gLc (giSeq (gCall S_law_walk [] (gaCons (DL.gName 0) (gaCons (DL.gName 1) gaNil)))) (tgTup 4 (tgCons (tgName 2) (tgCons (tgName 3) (tgCons (tgName 4) (tgCons (tgName 5) tgNil))))) (gTv (gNotN (DL.gName 5))) (DL.gTup (gaCons (DL.gName 2) (gaCons (DL.gName 4) (gaCons (DL.gName 5) gaNil)))) [2, 3, 4, 5]) gaNil)))
def B_law_put : GS := (gsSeq (gsIf (gTv (gNotN (gCall S_law_find [] (gaCons (DL.gName 0) (gaCons (gBin fIx (DL.gName 1) (gDat (.int 0))) (gaCons (gBin fIx (DL.gName 1) (gDat (.int 1))) gaNil)))))) (gsRet (DL.gName 0)) gsNil)
    (gsRet (gCl fTuple (gaCons (gSorted (gaCons (gBin fAdd (gCl fList (gaCons (DL.gName 0) gaNil)) (gLst (gaCons (DL.gName 1) gaNil))) gaNil)) gaNil))))
def B_law_grown : GS := (gsSeq (gsAsg (tgTup 4 (tgCons (tgName 4) (tgCons (tgName 5) (tgCons (tgName 6) (tgCons (tgName 7) tgNil))))) (gBin fIx (DL.gName 1) (gCallB 0 SDraw (gaCons (gCl fLen (gaCons (DL.gName 1) gaNil)) gaNil))))
    (gsSeq (gsSet 8 (gIxC (gCall S_law_true [] (gaCons (DL.gName 1) (gaCons (DL.gName 2) gaNil))) (DL.gName 4)))
    (gsSeq (gsIf (gTOr (gTv (gBin fEq (DL.gName 6) (gDat (.str ("action" : Str))))) (gTv (gBin (fB fun i j => decide (j < i)) (gCallB 0 SDraw (gaCons (gDat (.int 4)) gaNil)) (gDat (.int 0))))) (gsRet (DL.gTup (gaCons (DL.gName 5) (gaCons (DL.gTup (gaCons (DL.gName 4) (gaCons (gBin fIx (DL.gName 8) (gDat (.int 0))) (gaCons (gBin fIx (DL.gName 8) (gDat (.int 1))) gaNil)))) gaNil)))) gsNil)
    (gsSeq (gsSet 9 (gCl fTuple (gaCons (gLc (giSeq (DL.gName 7)) (tgName 10) gYes (gCallB 0 SDraw (gaCons (gDat (.int 3)) gaNil)) [10]) gaNil)))
    (gsRet (DL.gTup (gaCons (DL.gName 5) (gaCons (DL.gTup (gaCons (DL.gName 4) (gaCons (DL.gName 9) (gaCons (gCall S_law_answer [] (gaCons (DL.gName 2) (gaCons (DL.gName 4) (gaCons (DL.gName 9) gaNil)))) gaNil)))) gaNil))))))))
def B_law : GS := (gsSeq (gsSet 2 (gBin fAdd (gDat (.int 1)) (gCallB 1 SDraw (gaCons (gDat (.int 4)) gaNil))))
    (gsSeq (gsSet 3 (gCallB 1 S_law_wide_order (gaCons (DL.gName 2) (gaCons (gDat (.int 1)) (gaCons (gDat (.int 7)) gaNil)))))
    (gsSeq (gsSet 4 (gCallB 1 S_law_made_world (gaCons (DL.gName 3) gaNil)))
    (gsSeq (gsSet 5 (gCall S_law_order_of [] (gaCons (DL.gName 3) gaNil)))
    (gsSeq (gsSet 6 (gCall S_law_true [] (gaCons (DL.gName 3) (gaCons (DL.gName 4) gaNil))))
    (gsSeq (gsDck 7)
    (gsSeq (gsFor (giRange2 (gaCons (gDat (.int 1)) (gaCons (gBin fAdd (DL.gName 2) (gDat (.int 1))) gaNil))) (tgName 8) (gsIf (gTv (gBin fEq (gCallB 1 SDraw (gaCons (gDat (.int 2)) gaNil)) (gDat (.int 0)))) (gsPutC 7 (DL.gTup gaNil) (DL.gName 8)) gsNil))
    (gsSeq (gsSet 9 (DL.gTup gaNil))
    (gsSeq (gsFor (giRange1 (gaCons (gBin fAdd (gDat (.int 4)) (gCallB 1 SDraw (gaCons (gDat (.int 9)) gaNil))) gaNil)) (tgName 10) (gsSeq (gsAsg (tgTup 2 (tgCons (tgName 8) (tgCons (tgName 11) tgNil))) (gCallBP 1 S_law_grown (gaCons (DL.gName 3) (gaCons (DL.gName 4) (gaCons (DL.gName 7) gaNil)))))
    (gsSeq (gsSet 12 (gIf (gTv (gInC false (DL.gName 8) (DL.gName 7))) (gIxC (DL.gName 7) (DL.gName 8)) (DL.gTup gaNil)))
    (gsSeq (gsSet 13 (gCall S_with_answer [] (gaCons (DL.gName 12) (gaCons (gBin fIx (DL.gName 11) (gDat (.int 0))) (gaCons (gBin fIx (DL.gName 11) (gDat (.int 1))) (gaCons (gBin fIx (DL.gName 11) (gDat (.int 2))) gaNil))))))
    (gsSeq (gsIf (gTOr (gTv (gBin fNe (DL.gName 13) (gCall S_law_put [] (gaCons (DL.gName 12) (gaCons (DL.gName 11) gaNil))))) (gTNot (gTv (gCall S_law_are_entries [] (gaCons (DL.gName 13) gaNil))))) (gsRet (gDat (.bl false))) gsNil)
    (gsSeq (gsIf (gTOr (gTv (gBin fNe (gCall S_entry_value [] (gaCons (DL.gName 13) (gaCons (gBin fIx (DL.gName 11) (gDat (.int 0))) (gaCons (gBin fIx (DL.gName 11) (gDat (.int 1))) gaNil)))) (gBin fIx (DL.gName 11) (gDat (.int 2))))) (gTv (gNotN (gCall S_entry_value [] (gaCons (DL.gName 13) (gaCons (gBin fIx (DL.gName 11) (gDat (.int 0))) (gaCons (gBin fAdd (gBin fIx (DL.gName 11) (gDat (.int 1))) (DL.gTup (gaCons (gDat (.int 0)) gaNil))) gaNil))))))) (gsRet (gDat (.bl false))) gsNil)
    (gsSeq (gsPutC 7 (DL.gName 13) (DL.gName 8))
    (gsSeq (gsCpy 14 (DL.gName 7))
    (gsSeq (gsSet 15 (gCall S_play [] (gaCons (DL.gName 5) (gaCons (DL.gName 14) gaNil))))
    (gsSeq (gsIf (gTOr (gTNot (gTv (gCall S_law_are_entries [] (gaCons (DL.gName 15) gaNil)))) (gTOr (gTv (gNeC (DL.gName 14) (DL.gName 7))) (gTv (gBin fNe (DL.gName 15) (gCallP S_law_due_play [] (gaCons (DL.gName 3) (gaCons (DL.gName 7) gaNil))))))) (gsRet (gDat (.bl false))) gsNil)
    (gsSeq (gsFor (giSeq (DL.gName 15)) (tgName 11) (gsIf (gTv (gBin fNe (DL.gTup (gaCons (gBin fIx (DL.gName 11) (gDat (.int 1))) (gaCons (gBin fIx (DL.gName 11) (gDat (.int 2))) gaNil))) (gIxC (DL.gName 6) (gBin fIx (DL.gName 11) (gDat (.int 0)))))) (gsRet (gDat (.bl false))) gsNil))
    (gsSeq (gsIf (gTv (gBin (fB fun i j => decide (j < i)) (gCl fLen (gaCons (gLc (giSeq (DL.gName 9)) (tgName 11) (gTv (gBin fNotInT (DL.gName 11) (DL.gName 15))) (DL.gName 11) [11]) gaNil)) (gDat (.int 0)))) (gsRet (gDat (.bl false))) gsNil)
    (gsSet 9 (DL.gName 15))))))))))))))
    (gsSeq (gsIf (gTv (gBin fNe (gCall S_with_answer [] (gaCons (gIxC (DL.gName 7) (DL.gName 8)) (gaCons (gDat (.str ("q1" : Str))) (gaCons (DL.gTup gaNil) (gaCons (gDat (.int 5)) gaNil))))) (gCl fTuple (gaCons (gSorted (gaCons (gBin fAdd (gCl fList (gaCons (gIxC (DL.gName 7) (DL.gName 8)) gaNil)) (gLst (gaCons (DL.gTup (gaCons (gDat (.str ("q1" : Str))) (gaCons (DL.gTup gaNil) (gaCons (gDat (.int 5)) gaNil)))) gaNil))) gaNil)) gaNil)))) (gsRet (gDat (.bl false))) gsNil)
    (gsSeq (gsSet 16 (gCallB 1 SDraw (gaCons (gCl fLen (gaCons (gIxC (DL.gName 7) (DL.gName 8)) gaNil)) gaNil)))
    (gsSeq (gsOwn 17 (gCl fList (gaCons (gIxC (DL.gName 7) (DL.gName 8)) gaNil)))
    (gsSeq (gsPutI 17 (DL.gTup (gaCons (gBin fIx (gBin fIx (DL.gName 17) (DL.gName 16)) (gDat (.int 0))) (gaCons (gBin fIx (gBin fIx (DL.gName 17) (DL.gName 16)) (gDat (.int 1))) (gaCons (gBin fAdd (gBin fAdd (gBin fIx (gBin fIx (DL.gName 17) (DL.gName 16)) (gDat (.int 2))) (gDat (.int 1))) (gCallB 1 SDraw (gaCons (gDat (.int 3)) gaNil))) gaNil)))) (DL.gName 16))
    (gsSeq (gsSet 18 (gBin fIx (DL.gName 17) (DL.gName 16)))
    (gsSeq (gsIf (gTv (gBin fNe (gCall S_with_answer [] (gaCons (gCl fTuple (gaCons (DL.gName 17) gaNil)) (gaCons (gBin fIx (DL.gName 18) (gDat (.int 0))) (gaCons (gBin fIx (DL.gName 18) (gDat (.int 1))) (gaCons (gBin (fI fun i j => i - j) (gBin fIx (DL.gName 18) (gDat (.int 2))) (gDat (.int 1))) gaNil))))) (gCl fTuple (gaCons (DL.gName 17) gaNil)))) (gsRet (gDat (.bl false))) gsNil)
    (gsSeq (gsPutC 7 (gCl fTuple (gaCons (DL.gName 17) gaNil)) (DL.gName 8))
    (gsSeq (gsDck 19)
    (gsSeq (gsFor (giSeq (gSrtR (DL.gName 7))) (tgName 20) (gsPutC 19 (gIxC (DL.gName 7) (DL.gName 20)) (DL.gName 20)))
    (gsRet (gAnd (gBin fEq (gCall S_play [] (gaCons (DL.gName 5) (gaCons (DL.gName 19) gaNil))) (gCallP S_law_due_play [] (gaCons (DL.gName 3) (gaCons (DL.gName 7) gaNil)))) (gBin fEq (gCall S_play [] (gaCons (DL.gName 5) (gaCons gDic0 gaNil))) (DL.gTup gaNil))))))))))))))))))))))
end K21
set_option maxHeartbeats 1000000
namespace K21
open PySem PySem.Spec PyProof.Rows L2 Ax DL
def isL : D → Bool
  | .lst _ => true
  | _ => false
def isT : D → Bool
  | .tup _ => true
  | _ => false
def isI : D → Bool
  | .int _ => true
  | .bl _ => true
  | _ => false
def isB : D → Bool
  | .bl _ => true
  | _ => false
def isS : D → Bool
  | .str _ => true
  | _ => false
theorem isi_list {d : D} (hk : kd d = true) : isiD "list" d = some (isL d) := by
  cases d with
  | ins _ _ _ => cases hk
  | tpz _ => cases hk
  | dnk _ _ => cases hk
  | non  => exact (show kitB "NoneType" "list" = some false by decide +kernel)
  | bl b => exact (show kitB "bool" "list" = some false by decide +kernel)
  | int b => exact (show kitB "int" "list" = some false by decide +kernel)
  | str b => exact (show kitB "str" "list" = some false by decide +kernel)
  | lst b => exact (show kitB "list" "list" = some true by decide +kernel)
  | tup b => exact (show kitB "tuple" "list" = some false by decide +kernel)
  | dic _ _ => exact (show kitB "dict" "list" = some false by decide +kernel)
theorem isi_tuple {d : D} (hk : kd d = true) : isiD "tuple" d = some (isT d) := by
  cases d with
  | ins _ _ _ => cases hk
  | tpz _ => cases hk
  | dnk _ _ => cases hk
  | non  => exact (show kitB "NoneType" "tuple" = some false by decide +kernel)
  | bl b => exact (show kitB "bool" "tuple" = some false by decide +kernel)
  | int b => exact (show kitB "int" "tuple" = some false by decide +kernel)
  | str b => exact (show kitB "str" "tuple" = some false by decide +kernel)
  | lst b => exact (show kitB "list" "tuple" = some false by decide +kernel)
  | tup b => exact (show kitB "tuple" "tuple" = some true by decide +kernel)
  | dic _ _ => exact (show kitB "dict" "tuple" = some false by decide +kernel)
theorem isi_int {d : D} (hk : kd d = true) : isiD "int" d = some (isI d) := by
  cases d with
  | ins _ _ _ => cases hk
  | tpz _ => cases hk
  | dnk _ _ => cases hk
  | non  => exact (show kitB "NoneType" "int" = some false by decide +kernel)
  | bl b => exact (show kitB "bool" "int" = some true by decide +kernel)
  | int b => exact (show kitB "int" "int" = some true by decide +kernel)
  | str b => exact (show kitB "str" "int" = some false by decide +kernel)
  | lst b => exact (show kitB "list" "int" = some false by decide +kernel)
  | tup b => exact (show kitB "tuple" "int" = some false by decide +kernel)
  | dic _ _ => exact (show kitB "dict" "int" = some false by decide +kernel)
theorem isi_bool {d : D} (hk : kd d = true) : isiD "bool" d = some (isB d) := by
  cases d with
  | ins _ _ _ => cases hk
  | tpz _ => cases hk
  | dnk _ _ => cases hk
  | non  => exact (show kitB "NoneType" "bool" = some false by decide +kernel)
  | bl b => exact (show kitB "bool" "bool" = some true by decide +kernel)
  | int b => exact (show kitB "int" "bool" = some false by decide +kernel)
  | str b => exact (show kitB "str" "bool" = some false by decide +kernel)
  | lst b => exact (show kitB "list" "bool" = some false by decide +kernel)
  | tup b => exact (show kitB "tuple" "bool" = some false by decide +kernel)
  | dic _ _ => exact (show kitB "dict" "bool" = some false by decide +kernel)
theorem isi_str {d : D} (hk : kd d = true) : isiD "str" d = some (isS d) := by
  cases d with
  | ins _ _ _ => cases hk
  | tpz _ => cases hk
  | dnk _ _ => cases hk
  | non  => exact (show kitB "NoneType" "str" = some false by decide +kernel)
  | bl b => exact (show kitB "bool" "str" = some false by decide +kernel)
  | int b => exact (show kitB "int" "str" = some false by decide +kernel)
  | str b => exact (show kitB "str" "str" = some true by decide +kernel)
  | lst b => exact (show kitB "list" "str" = some false by decide +kernel)
  | tup b => exact (show kitB "tuple" "str" = some false by decide +kernel)
  | dic _ _ => exact (show kitB "dict" "str" = some false by decide +kernel)
theorem hl_is_whole : ∀ ds Φ, S_is_whole ds Φ → ds.length = 1 := by rintro ds Φ ⟨d, rfl, _⟩; rfl
theorem hB_is_whole : ∀ ds Φ, S_is_whole ds Φ → B_is_whole ⟨startD n_is_whole ds, 0⟩ (retD Φ) := by
  rintro ds Φ ⟨d, rfl, hk, h⟩
  refine gs_ret (.and (.isi (.name rfl) rfl (isi_int hk)) rfl fun _ => ⟨.not (.isi (.name rfl) rfl (isi_bool hk)) rfl, rfl, rfl⟩) ⟨_, _, rfl, ?_⟩
  have e : (isI d && !isB d) = isW d := by cases d <;> rfl
  rw [e]
  exact h
theorem len_str {x : Str} (h : x.length ≤ 1000) : fLen [.str x] = some (.dat (.int (x.length : Nat))) := if_pos (by omega)
theorem len_cps (x : Str) : x.cps.toList.length = x.length := by
  show _ = x.cps.size
  simp
theorem at0 {x : Str} (h : x.length ≤ 1000) {c : Nat} {l : List Nat} (e : x.cps.toList = c :: l) : fIx (.str x) (.int 0) = some (.dat (.str ⟨#[c]⟩)) := by
  show (if _ then (atI x.cps.toList 0).map _ else none) = _
  rw [if_pos (by omega), e]
  have : ixN (c :: l).length 0 = some 0 := by
    unfold ixN
    simp
  simp only [atI, this]
  rfl
theorem inS (c : Nat) (z : Str) : fInS (.str ⟨#[c]⟩) (.str z) = some (.dat (.bl (decide (c ∈ z.cps.toList)))) := rfl
theorem notInS (c : Nat) (z : Str) : fNotInS (.str ⟨#[c]⟩) (.str z) = some (.dat (.bl (!decide (c ∈ z.cps.toList)))) := rfl
theorem nameL_cons (c : Nat) (l : List Nat) : nameL (c :: l) = (decide ((c :: l).length ≤ 8) && (decide (c ∈ lettersL) && (c :: l).all fun u => decide (u ∈ signsL))) := rfl
theorem nameL_long {l : List Nat} (h : ¬ (1 ≤ l.length ∧ l.length ≤ 8)) : nameL l = false := by
  cases l with
  | nil => rfl
  | cons c l =>
    rw [nameL_cons, decide_eq_false (p := (c :: l).length ≤ 8) fun z => h ⟨by simp, z⟩]
    rfl
theorem hl_is_name : ∀ ds Φ, S_is_name ds Φ → ds.length = 1 := by rintro ds Φ ⟨d, rfl, _⟩; rfl
theorem hB_is_name : ∀ ds Φ, S_is_name ds Φ → B_is_name ⟨startD n_is_name ds, 0⟩ (retD Φ) := by
  rintro ds Φ ⟨d, rfl, ht, h⟩
  have hk := ht.k
  cases d with
  | str x =>
    have hx := ht.s x rfl
    have hlc := len_cps x
    refine gs_seq (gs_if (k := !(decide ((1 : Int) ≤ (x.length : Nat)) && decide ((x.length : Nat) ≤ (8 : Int)))) (.or (b1 := false) (.of (.not (.v (.isi (.name rfl) rfl (isi_str hk)) rfl)) rfl) fun _ => .not (.v (.chain (d := .int 1) (e := .int (x.length : Nat)) .dt (.cl (.one (.name rfl)) rfl (len_str hx)) rfl rfl rfl fun _ => ⟨.dt, rfl, rfl⟩) rfl)) (fun c => ?_) fun c => gs_nil ?_)
    · refine gs_ret .dt ⟨_, _, rfl, ?_⟩
      have : nameL x.cps.toList = false := nameL_long (by
        rintro ⟨u, v⟩
        rw [decide_eq_true (by omega), decide_eq_true (by omega)] at c
        cases c)
      have e : nameD (.str x) = false := this
      rw [e] at h
      exact h
    · dsimp only
      have c1 : 1 ≤ x.length ∧ x.length ≤ 8 := by
        have c' : (decide ((1 : Int) ≤ (x.length : Nat)) && decide ((x.length : Nat) ≤ (8 : Int))) = true := by simpa using c
        obtain ⟨u, v⟩ := Bool.and_eq_true_iff.mp c'
        have := of_decide_eq_true u
        have := of_decide_eq_true v
        omega
      cases e : x.cps.toList with
      | nil => rw [e] at hlc; simp at hlc; omega
      | cons c0 l =>
        have hs : signsD x = (c0 :: l).map fun c => D.str ⟨#[c]⟩ := by unfold signsD; rw [e]
        refine gs_ret (w := .dat (.bl (nameD (.str x)))) ?_ ⟨_, _, rfl, h⟩
        have e2 : nameD (.str x) = (decide (c0 ∈ lettersL) && (c0 :: l).all fun u => decide (u ∈ signsL)) := by
          show nameL x.cps.toList = _
          rw [e]
          rw [e] at hlc
          rw [nameL_cons, decide_eq_true (p := (c0 :: l).length ≤ 8) (by rw [hlc]; exact c1.2)]
          rfl
        rw [e2]
        refine .and (.bin (.bin (.name rfl) .dt rfl rfl (at0 hx e)) .dt rfl rfl (inS _ _)) rfl fun _ => ⟨.cl (w := .dat (.bl ((c0 :: l).all fun u => decide (u ∈ signsL)))) (.one (.lcA (xs := c0 :: l) (dOf := fun c => .str ⟨#[c]⟩) (g := fun c => .bl (decide (c ∈ signsL))) (.str (.name rfl) rfl) hs (by rw [← e, hlc]; omega) fun u hu => ⟨_, rfl, rfl, _, .bin (.name rfl) .dt rfl rfl (inS _ _), rfl⟩)) rfl ?_, rfl, rfl⟩
        have := all_bls ((c0 :: l).map fun c => decide (c ∈ signsL))
        rw [List.map_map] at this
        refine (show fAll [D.lst ((c0 :: l).map fun c => .bl (decide (c ∈ signsL)))] = _ from this).trans ?_
        rw [List.all_map]
        rfl
  | _ => exact gs_seq (gs_ifT (.or (b1 := true) (b2 := false) (.of (.not (.v (.isi (.name rfl) rfl (isi_str hk)) rfl)) rfl) fun z => by cases z) (gs_ret .dt ⟨_, _, rfl, h⟩))
theorem gs_asg {f : D → Stt → Option Stt} {g : GX} {s s' s1 : Stt} {De : EndsD} {w : W} {d : D} (h : Ev g s w) (r : frz w s = some (d, s1)) (e : f d s1 = some s') (q : De.nx s') : gsAsg f g s De := h _ ⟨d, s1, s', r, e, q⟩
end K21
set_option maxHeartbeats 1000000
namespace K21
open PySem PySem.Spec PyProof.Rows L2 Ax DL
/-! ### keys -/
theorem dNs_nums (k : List Int) : dNs (k.map NestedKey.num) = k.map D.int := by
  induction k with
  | nil => simp [dNs]
  | cons x k ih => simp [dNs, dN, ih]
theorem dN_hdN (e : E) : dN (hdN e) = .tup [.str e.1, kD e.2.1] := by
  simp [hdN, kD, dN, dNs, dNs_nums]
theorem map_num_inj : ∀ {a b : List Int}, a.map NestedKey.num = b.map NestedKey.num → a = b
  | [], [], _ => rfl
  | [], _ :: _, h => by cases h
  | _ :: _, [], h => by cases h
  | x :: a, y :: b, h => by
    rw [List.map_cons, List.map_cons] at h
    injection h with h1 h2
    injection h1 with h1
    rw [h1, map_num_inj h2]
theorem hdN_inj {a b : E} (h : hdN a = hdN b) : hd a = hd b := by
  unfold hdN at h
  injection h with h
  injection h with h1 h2
  injection h1 with h1
  injection h2 with h2 _
  injection h2 with h2
  exact Prod.ext h1 (map_num_inj h2)
theorem hdN_of {a b : E} (h : hd a = hd b) : hdN a = hdN b := by
  obtain ⟨h1, h2⟩ := Prod.mk.inj h
  unfold hdN
  rw [h1, h2]
theorem depth_nums (k : List Int) : NestedKey.depthAll (k.map NestedKey.num) = 0 := by
  induction k with
  | nil => simp [NestedKey.depthAll]
  | cons x k ih => simp [NestedKey.depthAll, NestedKey.depth, ih]
theorem depth_hdN (e : E) : (hdN e).depth ≤ 8 := by
  simp [hdN, NestedKey.depth, NestedKey.depthAll, depth_nums]
theorem nodup_hdN {l : List E} : (l.map hdN).Nodup ↔ (l.map hd).Nodup := by
  induction l with
  | nil => simp
  | cons x l ih =>
    rw [List.map_cons, List.map_cons, List.nodup_cons, List.nodup_cons, ih]
    refine and_congr_left fun _ => not_congr ?_
    rw [List.mem_map, List.mem_map]
    exact ⟨fun ⟨y, h1, h2⟩ => ⟨y, h1, hdN_inj h2⟩, fun ⟨y, h1, h2⟩ => ⟨y, h1, hdN_of h2⟩⟩
/-! ### the dict of values -/
theorem getK_some {kvs : List (NK × D)} {k : NK} : (getK kvs k).isSome = true ↔ k ∈ kvs.map (·.1) := by
  unfold getK
  rw [Option.isSome_map, List.find?_isSome, List.mem_map]
  exact ⟨fun ⟨p, h1, h2⟩ => ⟨p, h1, of_decide_eq_true h2⟩, fun ⟨p, h1, h2⟩ => ⟨p, h1, decide_eq_true h2⟩⟩
theorem putK_old {kvs : List (NK × D)} {k : NK} {d : D} (h : k ∈ kvs.map (·.1)) : (putK kvs k d).length = kvs.length := by
  unfold DL.putK
  rw [if_pos (getK_some.mpr h), List.length_map]
theorem putK_new {kvs : List (NK × D)} {k : NK} {d : D} (h : k ∉ kvs.map (·.1)) : putK kvs k d = kvs ++ [(k, d)] := by
  unfold DL.putK
  rw [if_neg fun z => h (getK_some.mp z)]
theorem allW_ints (l : List Int) : (l.map D.int).all isW = true := by
  rw [List.all_map]
  exact List.all_eq_true.mpr fun _ _ => rfl
theorem name_len {x : Str} (h : nameL x.cps.toList = true) : x.length ≤ 8 := by
  rw [← len_cps]
  cases e : x.cps.toList with
  | nil => simp
  | cons c l =>
    rw [e, nameL_cons, Bool.and_eq_true_iff] at h
    exact of_decide_eq_true h.1
theorem small_sig : ∀ c, c ∈ signsL → c < 1000 := by decide +kernel
theorem name_ok {x : Str} (h : nameL x.cps.toList = true) : strK x = true := by
  show (x.cps.all fun b => decide (b < 0x110000)) = true
  rw [← Array.all_toList]
  refine List.all_eq_true.mpr fun c hc => ?_
  cases e : x.cps.toList with
  | nil => rw [e] at hc; cases hc
  | cons c0 l =>
    rw [e] at h hc
    rw [nameL_cons, Bool.and_eq_true_iff, Bool.and_eq_true_iff] at h
    have := small_sig c (of_decide_eq_true (List.all_eq_true.mp h.2.2 c hc))
    exact decide_eq_true (by omega)
theorem th_kD {n : Nat} {l : List Int} (h : l.length ≤ 1000) : Th (n + 1) (kD l) := by
  refine Th.seq (b := true) (by rw [List.length_map]; exact h) fun d hd => ?_
  obtain ⟨i, _, rfl⟩ := List.mem_map.mp hd
  exact .flat rfl (fun x z => by cases z) rfl
theorem th_eD {n : Nat} {e : E} (h1 : e.1.length ≤ 1000) (h2 : e.2.1.length ≤ 1000) : Th (n + 2) (eD e) := by
  refine Th.seq (b := true) (by simp) fun d hd => ?_
  rcases List.mem_cons.mp hd with rfl | hd
  · exact .flat rfl (fun x z => by cases z; exact h1) rfl
  · rcases List.mem_cons.mp hd with rfl | hd
    · exact th_kD h2
    · rw [List.mem_singleton.mp hd]
      exact .flat rfl (fun x z => by cases z) rfl
theorem ix_sq {d : D} {es : List D} (e : seqL d = some es) {i : Nat} {x : D} (h : es[i]? = some x) : fIx d (.int (i : Nat)) = some (.dat x) := by
  have : wat es (i : Nat) = some (.dat x) := by
    unfold wat atI
    have l := (List.getElem?_eq_some_iff.mp h).1
    have : ixN es.length (i : Nat) = some i := by
      unfold ixN
      simp [l]
    rw [this]
    simp [h]
  cases d <;> first | (cases Option.some.inj e; exact this) | cases e
theorem tup_sq {d : D} {es : List D} (h : seqL d = some es) : fTuple [d] = some (.dat (.tup es)) := by
  cases d <;> first | (cases Option.some.inj h; rfl) | cases h
theorem eqvAll_es : ∀ a b : List E, PyData.eqvAll (toPs (a.map eD)) (toPs (b.map eD)) = decide (a = b)
  | [], [] => by simp [toPs, PyData.eqvAll]
  | [], _ :: _ => by simp [toPs, PyData.eqvAll]
  | _ :: _, [] => by simp [toPs, PyData.eqvAll]
  | x :: a, y :: b => by
    rw [List.map_cons, List.map_cons, toPs, toPs, PyData.eqvAll, eqvAll_es a b]
    have : PyData.eqv (toP (eD x)) (toP (eD y)) = decide (x = y) := eqD_e x y
    rw [this]
    by_cases h : x = y <;> by_cases g : a = b <;> simp [h, g]
theorem eqD_rows (a b : List E) : eqD (.tup (a.map eD)) (.tup (b.map eD)) = decide (a = b) := by
  show PyData.eqv (toP (.tup (a.map eD))) (toP (.tup (b.map eD))) = _
  simp only [toP, PyData.eqv]
  exact eqvAll_es a b
theorem okD_rows {l : List E} (h : ∀ e ∈ l, strK e.1 = true) : okD (.tup (l.map eD)) = true := (Dk.tup fun e he => dk_e (h e he)).ok (by decide)
theorem sortE_nil : sortE [] = [] := by simp [sortE]
end K21
set_option maxHeartbeats 1000000
set_option exponentiation.threshold 5000
namespace K21
open PySem PySem.Spec PyProof.Rows L2 Ax DL
/-! ### heads -/
def hdD (e : E) : D := .tup [.str e.1, kD e.2.1]
theorem eqD_hd (a b : E) : eqD (hdD a) (hdD b) = decide (hd a = hd b) := by
  show PyData.eqv (toP (hdD a)) (toP (hdD b)) = _
  have t : ∀ e : E, toP (hdD e) = .tuple [.str e.1, .tuple (e.2.1.map PyData.int)] := fun e => by simp [hdD, kD, toP, toPs, toPs_ints]
  rw [t, t]
  simp only [PyData.eqv, PyData.eqvAll, eqvAll_ints]
  obtain ⟨a1, a2, a3⟩ := a
  obtain ⟨b1, b2, b3⟩ := b
  simp only [PySem.W.beq_decide, Prod.mk.injEq, Bool.and_true]
  by_cases h1 : a1 = b1 <;> by_cases h2 : a2 = b2 <;> simp [h1, h2]
theorem dk_hd {e : E} (h : strK e.1 = true) : Dk 2 (hdD e) := by
  have t : toP (hdD e) = .tuple [.str e.1, .tuple (e.2.1.map PyData.int)] := by simp [hdD, kD, toP, toPs, toPs_ints]
  refine ⟨by simp [hdD, kD, pureD, pureA, pureA_ints], ?_, ?_⟩
  · rw [t]
    simp [PyData.canLay0, PyData.canLayAll0, canLay_ints]
    exact h
  · rw [t]
    simp only [PyData.depth, PyData.depthAll, PySem.W.depth_ints]
    decide
/-! ### what is told of a head -/
theorem find_hd : ∀ {l : List E} {e : E}, (l.map hd).Nodup → e ∈ l → l.find? (fun x => decide (hd x = hd e)) = some e
  | [], e, _, h => by cases h
  | x :: l, e, n, h => by
    rw [List.map_cons, List.nodup_cons] at n
    by_cases c : hd x = hd e
    · rw [List.find?_cons_of_pos (by simpa using c)]
      rcases List.mem_cons.mp h with rfl | h
      · rfl
      · exact absurd (List.mem_map.mpr ⟨e, h, c.symm⟩) n.1
    · rw [List.find?_cons_of_neg (by simpa using c)]
      rcases List.mem_cons.mp h with rfl | h
      · exact absurd rfl c
      · exact find_hd n.2 h
theorem find_perm {l m : List E} (n : (l.map hd).Nodup) (p : ∀ x, x ∈ m ↔ x ∈ l) (nm : (m.map hd).Nodup) (x : Str × List Int) : m.find? (fun e => decide (hd e = x)) = l.find? (fun e => decide (hd e = x)) := by
  cases h : l.find? (fun e => decide (hd e = x)) with
  | none =>
    refine List.find?_eq_none.mpr fun e he => ?_
    exact List.find?_eq_none.mp h e ((p e).mp he)
  | some e =>
    have h1 : hd e = x := by simpa using List.find?_some h
    have h2 := List.mem_of_find?_eq_some h
    rw [← h1]
    exact find_hd nm ((p e).mpr h2)
theorem getK_rows (l : List E) (n : Str) (k : List Int) : getK ((l.map hdN).zip (l.map fun e => D.int e.2.2)) (.tup [.text n, .tup (k.map NestedKey.num)]) = (l.find? (fun e => decide (hd e = (n, k)))).map fun e => .int e.2.2 := by
  induction l with
  | nil => rfl
  | cons e l ih =>
    rw [List.map_cons, List.map_cons, List.zip_cons_cons]
    by_cases c : hd e = (n, k)
    · rw [List.find?_cons_of_pos (by simpa using c)]
      unfold getK
      rw [List.find?_cons_of_pos (by
        have : hdN e = hdN (n, k, 0) := hdN_of c
        exact decide_eq_true this)]
      rfl
    · rw [List.find?_cons_of_neg (by simpa using c)]
      unfold getK
      rw [List.find?_cons_of_neg (by
        have : ¬ hdN e = hdN (n, k, 0) := fun z => c (hdN_inj z)
        intro z
        exact this (of_decide_eq_true z))]
      exact ih
theorem dN_head (n : Str) (k : List Int) : dN (.tup [.text n, .tup (k.map NestedKey.num)]) = .tup [.str n, kD k] := dN_hdN (n, k, 0)
theorem depth_head (n : Str) (k : List Int) : (NestedKey.tup [.text n, .tup (k.map NestedKey.num)]).depth ≤ 8 := depth_hdN (n, k, 0)
theorem sort_nodup {rows : List E} (h : (rows.map hd).Nodup) : ((sortE rows).map hd).Nodup := (((sortE_perm rows).map hd).nodup_iff).mpr h
/-! ### numbers -/
theorem log_lt {n k : Nat} (h : n < 2 ^ k) (hk : 0 < k) : n.log2 < k := by
  by_cases z : n = 0
  · subst z; simpa using hk
  · exact (Nat.log2_lt z).mpr h
theorem mul_ev {i j : Int} (h1 : i.natAbs < 2 ^ 3000) (h2 : j.natAbs < 2 ^ 3000) : fIc CMulW (fun i j => i * j) (.int i) (.int j) = some (.dat (.int (i * j))) := if_pos (by
  have := log_lt h1 (by decide)
  have := log_lt h2 (by decide)
  show i.natAbs.log2 + j.natAbs.log2 < 1000000
  omega)
theorem pow_up {n : Nat} {a b : Nat} (h : n < 2 ^ a) (hab : a ≤ b) : n < 2 ^ b := Nat.lt_of_lt_of_le h (Nat.pow_le_pow_right (by decide) hab)
theorem small_lt {n a : Nat} (h : n < 1000) (ha : 10 ≤ a) : n < 2 ^ a := Nat.lt_of_lt_of_le (Nat.lt_of_lt_of_le h (by decide : 1000 ≤ 2 ^ 10)) (Nat.pow_le_pow_right (by decide) ha)
theorem ev_wsum {s : Stt} {i a b : Nat} {k : List Int} (S : D → D → Stt) (h : s.r[i]? = some (some (.val (kD k)))) (hS : ∀ x y : D, tgTup 2 (tgCons (tgName a) (tgCons (tgName b) tgNil)) (.tup [x, y]) (s.wipe [a, b]) = some (S x y) ∧ (S x y).wipe [a, b] = s.wipe [a, b] ∧ (S x y).r[a]? = some (some (.val x)) ∧ (S x y).r[b]? = some (some (.val y))) (hk : bndK k) :
    Ev (gCl fSum (gaCons (gLc (giEnum (gaCons (DL.gName i) gaNil)) (tgTup 2 (tgCons (tgName a) (tgCons (tgName b) tgNil))) gYes (gBin (fIc CMulW fun i j => i * j) (gBin fAdd (DL.gName a) (gDat (.int 1))) (DL.gName b)) [a, b]) gaNil)) s (.dat (.int (wsum k))) := by
  have lc : Ev (gLc (giEnum (gaCons (DL.gName i) gaNil)) (tgTup 2 (tgCons (tgName a) (tgCons (tgName b) tgNil))) gYes (gBin (fIc CMulW fun i j => i * j) (gBin fAdd (DL.gName a) (gDat (.int 1))) (DL.gName b)) [a, b]) s (.new ((enumL 0 k).map fun p => D.int (((p.1 : Int) + 1) * p.2))) := by
    refine .lcA (xs := enumL 0 k) (dOf := fun p => D.tup [.int (p.1 : Nat), .int p.2]) (.enum (d := kD k) (.one (.name h)) rfl rfl rfl) (enumL_D D.int 0 k) (by rw [enumL_len]; have := hk.1; omega) fun p hp => ?_
    obtain ⟨j, e1, e2⟩ := enumL_at hp
    have hj := (List.getElem?_eq_some_iff.mp e2).1
    obtain ⟨s1, s2, s3, s4⟩ := hS (.int (p.1 : Nat)) (.int p.2)
    refine ⟨_, s1, s2, _, .bin (.bin (.name s3) .dt rfl rfl (add_int _ _)) (.name s4) rfl rfl (mul_ev (small_lt (by have := hk.1; omega) (by decide)) (pow_up (hk.2 _ (List.mem_of_getElem? e2)) (by decide))), rfl⟩
  refine .cl (.one lc) rfl ?_
  have : (enumL 0 k).map (fun p => D.int (((p.1 : Int) + 1) * p.2)) = ((enumL 0 k).map fun p => ((p.1 : Int) + 1) * p.2).map D.int := by rw [List.map_map]; rfl
  rw [this]
  exact sum_ints _
theorem wsum_abs {k : List Int} {m : Nat} (hl : k.length ≤ 3) (h : ∀ x ∈ k, x.natAbs ≤ m) : (wsum k).natAbs ≤ 6 * m := by
  unfold wsum
  match k, hl with
  | [], _ => simp [enumL]
  | [a], _ =>
    have := h a (by simp)
    simp [enumL]; omega
  | [a, b], _ =>
    have := h a (by simp)
    have := h b (by simp)
    simp [enumL]; omega
  | [a, b, c], _ =>
    have := h a (by simp)
    have := h b (by simp)
    have := h c (by simp)
    simp [enumL]; omega
theorem bnd_wsum {k : List Int} (h : bndK k) : (wsum k).natAbs < 2 ^ 3000 := by
  have h1 := wsum_abs (m := 2 ^ 1000) h.1 fun x hx => Nat.le_of_lt (h.2 x hx)
  have h2 : 6 * 2 ^ 1000 < 2 ^ 3000 := by
    have : (2 : Nat) ^ 3000 = 2 ^ 1997 * (8 * 2 ^ 1000) := by
      rw [show (8 : Nat) = 2 ^ 3 from rfl, ← Nat.pow_add, ← Nat.pow_add]
    have h3 : 1 ≤ (2 : Nat) ^ 1997 := Nat.one_le_two_pow
    have h4 : 1 ≤ (2 : Nat) ^ 1000 := Nat.one_le_two_pow
    rw [this]
    calc 6 * 2 ^ 1000 < 8 * 2 ^ 1000 := by omega
      _ = 1 * (8 * 2 ^ 1000) := by omega
      _ ≤ 2 ^ 1997 * (8 * 2 ^ 1000) := Nat.mul_le_mul_right _ h3
  omega
theorem Ev.getD {s : Stt} {g1 g2 : GX} {w1 w2 : W} {ks kk : List NK} {ds : List D} (h1 : Ev g1 s w1) (r1 : rd w1 s = some (.dnk ks ds)) (h2 : Ev g2 s w2) (r2 : rd w2 s = some (dN (.tup kk))) (hd : (NestedKey.tup kk).depth ≤ 8) : Ev (gGetD g1 g2) s (.dat ((getK (ks.zip ds) (.tup kk)).getD .non)) := fun Φ q => h1 _ ⟨⟨_, _, r1⟩, h2 _ ⟨_, _, kk, r1, r2, hd, q⟩⟩
/-! ### World.answer -/
end K21
set_option maxHeartbeats 1000000
namespace K21
open PySem PySem.Spec PyProof.Rows L2 Ax DL
theorem dk_str {x : Str} (h : strK x = true) : Dk 0 (.str x) := by
  refine ⟨rfl, ?_, ?_⟩
  · simp [toP, PyData.canLay0]; exact h
  · simp [toP, PyData.depth]
theorem okD_strs {l : List Str} (h : ∀ x ∈ l, strK x = true) : okD (.lst (l.map D.str)) = true := (Dk.lst fun x hx => dk_str (h x hx)).ok (by decide)
theorem inD_str (x : Str) (l : List Str) : inD (.str x) (l.map D.str) = decide (x ∈ l) := by
  unfold inD
  rw [List.any_map]
  induction l with
  | nil => simp
  | cons b l ih =>
    rw [List.any_cons, ih]
    show (eqD (.str b) (.str x) || _) = _
    rw [eqD_str]
    by_cases h : b = x
    · rw [decide_eq_true h, Bool.true_or, h]
      exact (decide_eq_true List.mem_cons_self).symm
    · rw [decide_eq_false h, Bool.false_or]
      exact decide_eq_decide.mpr ⟨fun z => List.mem_cons_of_mem _ z, fun z => (List.mem_cons.mp z).resolve_left fun y => h y.symm⟩
theorem in_str {x : Str} {l : List Str} (h : strK x = true) (hl : ∀ y ∈ l, strK y = true) : fIn (.str x) (.lst (l.map D.str)) = some (.dat (.bl (decide (x ∈ l)))) := by
  rw [← inD_str]
  exact if_pos ⟨okD_str h, okD_strs hl⟩
theorem notIn_str {x : Str} {l : List Str} (h : strK x = true) (hl : ∀ y ∈ l, strK y = true) : fNotIn (.str x) (.lst (l.map D.str)) = some (.dat (.bl (!decide (x ∈ l)))) := by
  rw [← inD_str]
  exact if_pos ⟨okD_str h, okD_strs hl⟩
theorem notInT_str {x : Str} {l : List Str} (h : strK x = true) (hl : ∀ y ∈ l, strK y = true) : fNotInT (.str x) (.tup (l.map D.str)) = some (.dat (.bl (!decide (x ∈ l)))) := by
  rw [← inD_str]
  exact if_pos ⟨okD_str h, (Dk.tup fun x hx => dk_str (hl x hx)).ok (by decide)⟩
theorem eq_str {x y : Str} (h : strK x = true) (g : strK y = true) : fEq (.str x) (.str y) = some (.dat (.bl (decide (x = y)))) := by
  rw [feq (okD_str h) (okD_str g), eqD_str]
theorem ne_str {x y : Str} (h : strK x = true) (g : strK y = true) : fNe (.str x) (.str y) = some (.dat (.bl (!decide (x = y)))) := by
  rw [fne (okD_str h) (okD_str g), eqD_str]
theorem all_bl {α : Type} (l : List α) (p : α → Bool) : fAll [.lst (l.map fun x => .bl (p x))] = some (.dat (.bl (l.all p))) := by
  have := all_bls (l.map p)
  rw [List.map_map] at this
  refine (show fAll [D.lst (l.map fun x => .bl (p x))] = _ from this).trans ?_
  rw [List.all_map]
  rfl
/-! ### needs -/
theorem nd_tuple (e : Evt) : fTuple [ndD e] = some (.dat (ndD e)) := by unfold ndD; cases e.nz <;> rfl
theorem nd_items (e : Evt) : itemsD (ndD e) = some (e.nd.map D.str) := by unfold ndD; cases e.nz <;> rfl
theorem nd_len (e : Evt) : fLen [ndD e] = some (.dat (.int (e.nd.length : Nat))) := by
  unfold ndD
  cases e.nz <;> simp [fLen]
theorem hl_is_between : ∀ ds Φ, S_is_between ds Φ → ds.length = 3 := by rintro ds Φ ⟨_, _, _, rfl, _⟩; rfl
theorem hB_is_between : ∀ ds Φ, S_is_between ds Φ → B_is_between ⟨startD n_is_between ds, 0⟩ (retD Φ) := by
  rintro ds Φ ⟨i, a, b, rfl, h⟩
  exact gs_ret (.and (b1 := true) (b2 := decide (a ≤ i) && decide (i ≤ b)) (.call (d := .bl true) (.one (.name rfl)) rfl fun Φ q => ⟨.int i, rfl, rfl, q⟩) rfl fun _ => ⟨.chain (.name rfl) (.name rfl) rfl rfl rfl fun _ => ⟨.name rfl, rfl, rfl⟩, rfl, rfl⟩) ⟨_, _, rfl, h⟩
theorem hl_Event_init : ∀ ds Φ, SI_Event ds Φ → ds.length = 4 := by rintro ds Φ ⟨_, rfl, _⟩; rfl
theorem hB_Event_init : ∀ x ds Φ, SI_Event ds Φ → B_Event_init ⟨startI x "Event" n_Event_init ds, 0⟩ (retI x "Event" Φ) := by
  rintro x ds Φ ⟨e, rfl, h⟩
  refine gs_seq (gs_fld (.name rfl) rfl rfl (by decide) (by decide) ?_)
  dsimp only [Stt.put, List.set, List.nil_append, List.cons_append]
  refine gs_seq (gs_fld (.name rfl) rfl rfl (by decide) (by decide) ?_)
  dsimp only [Stt.put, List.set, List.nil_append, List.cons_append]
  refine gs_seq (gs_fld (.name rfl) rfl rfl (by decide) (by decide) ?_)
  dsimp only [Stt.put, List.set, List.nil_append, List.cons_append]
  exact gs_fld (d := ndD e) (.cl (.one (.name rfl)) rfl (nd_tuple e)) rfl rfl (by decide) (by decide) ⟨_, _, rfl, h⟩
theorem hl_are_needs : ∀ ds Φ, S_are_needs ds Φ → ds.length = 2 := by rintro ds Φ ⟨_, _, rfl, _⟩; rfl
theorem hB_are_needs : ∀ ds Φ, S_are_needs ds Φ → B_are_needs ⟨startD n_are_needs ds, 0⟩ (retD Φ) := by
  rintro ds Φ ⟨e, elder, rfl, ok, hn, h⟩
  have se : ∀ x ∈ elder, strK x = true := fun x hx => name_ok (hn x hx)
  refine gs_seq (gs_ifF (.of (.v (.bin (.cl (.one (.name rfl)) rfl (nd_len e)) .dt rfl rfl rfl) rfl) (decide_eq_false (by have := ok.len; omega))) (gs_nil ?_))
  dsimp only
  have lc : Ev (gLc (giSeq (DL.gName 0)) (tgName 2) gYes (gAnd (gBin fIn (DL.gName 2) (DL.gName 1)) (gBin fEq (gCountZ (DL.gName 0) (DL.gName 2)) (gDat (.int 1)))) [2]) ⟨startD n_are_needs [ndD e, .lst (elder.map D.str)], 0⟩ (.new (e.nd.map fun _ => D.bl true)) := by
    refine .lcA (xs := e.nd) (dOf := D.str) (.seq (.name rfl) rfl (nd_items e)) rfl (by have := ok.len; omega) fun x hx => ?_
    have hz : e.nz = true := by
      cases z : e.nz with
      | true => rfl
      | false => rw [ok.nz z] at hx; cases hx
    have hnd : ndD e = .tpz (e.nd.map D.str) := by unfold ndD; rw [hz]
    refine ⟨⟨[some (.val (ndD e)), some (.val (.lst (elder.map D.str))), some (.val (.str x))], 0⟩, rfl, rfl, _, .and (b1 := true) (b2 := true) (.bin (w := .dat (.bl true)) (.name rfl) (.name rfl) rfl rfl ?_) rfl fun _ => ⟨.bin (w := .dat (.bl true)) (.countZ (ys := e.nd) (k := x) (.name rfl) (congrArg some hnd) (.name rfl) rfl) .dt rfl rfl ?_, rfl, rfl⟩, rfl⟩
    · rw [in_str (se x (ok.sub x hx)) se, decide_eq_true (ok.sub x hx)]
    · rw [feq (okD_int _) (okD_int _), eqD_int]
      have : e.nd.count x = 1 := by
        have h1 := List.nodup_iff_count.mp ok.nod x
        have h2 := List.count_pos_iff.mpr hx
        omega
      rw [this]
      rfl
  refine gs_ret (w := .dat (.bl true)) (.cl (.one lc) rfl ?_) ⟨_, _, rfl, h⟩
  have : fAll [.lst (e.nd.map fun _ => D.bl true)] = some (.dat (.bl (e.nd.all fun _ => true))) := all_bl e.nd fun _ => true
  refine this.trans ?_
  rw [List.all_eq_true.mpr fun _ _ => rfl]
theorem str_query : strK "query" = true := by decide +kernel
theorem str_action : strK "action" = true := by decide +kernel
theorem strKn {e : Evt} {elder : List Str} (ok : EvOk elder e) : strK e.kn = true := by
  rcases ok.kn with h | h <;> rw [h]
  · exact str_query
  · exact str_action
theorem hl_event_fault : ∀ ds Φ, S_event_fault ds Φ → ds.length = 2 := by rintro ds Φ ⟨_, _, rfl, _⟩; rfl
theorem hB_event_fault : ∀ ds Φ, S_event_fault ds Φ → B_event_fault ⟨startD n_event_fault ds, 0⟩ (retD Φ) := by
  rintro ds Φ ⟨e, elder, rfl, ok, hn, h⟩
  have se : ∀ x ∈ elder, strK x = true := fun x hx => name_ok (hn x hx)
  have he := name_ok ok.nm
  refine gs_seq (gs_ifF (.of (.not (.v (.call (d := .bl (nameD (.str e.nm))) (.one (.fld (d := .str e.nm) (.name rfl) rfl rfl)) rfl fun Φ q => ⟨.str e.nm, rfl, .flat rfl (fun x z => by cases z; have := name_len ok.nm; omega) rfl, q⟩) rfl)) (by rw [show nameD (.str e.nm) = true from ok.nm]; rfl)) (gs_nil ?_))
  dsimp only
  refine gs_seq (gs_ifF (.v (.bin (w := .dat (.bl false)) (.fld (d := .str e.nm) (.name rfl) rfl rfl) (.name rfl) rfl rfl (by rw [in_str he se, decide_eq_false ok.new])) rfl) (gs_nil ?_))
  dsimp only
  refine gs_seq (gs_ifF (.of (.not (.v (.call (d := .bl (decide (1 ≤ e.en) && decide (e.en ≤ 5))) (.cons (.fld (d := .int e.en) (.name rfl) rfl rfl) (.cons .dt (.one .dt))) rfl fun Φ q => ⟨e.en, 1, 5, rfl, q⟩) rfl)) (by rw [decide_eq_true ok.en.1, decide_eq_true ok.en.2]; rfl)) (gs_nil ?_))
  dsimp only
  refine gs_seq (gs_ifF (.v (.bin (w := .dat (.bl false)) (.fld (d := .str e.kn) (.name rfl) rfl rfl) .dt rfl rfl (by
    rw [notInT_str (strKn ok) (fun y hy => by
      rcases List.mem_cons.mp hy with rfl | hy
      · exact str_query
      · rw [List.mem_singleton.mp hy]; exact str_action), decide_eq_true (by rcases ok.kn with h | h <;> rw [h] <;> simp)]
    rfl)) rfl) (gs_nil ?_))
  dsimp only
  refine gs_seq (gs_ifF (.of (.not (.v (.call (d := .bl true) (.cons (.fld (d := ndD e) (.name rfl) rfl rfl) (.one (.name rfl))) rfl fun Φ q => ⟨e, elder, rfl, ok, hn, q⟩) rfl)) rfl) (gs_nil ?_))
  dsimp only
  exact gs_ret .dt ⟨_, _, rfl, h⟩
theorem Wf.names {evs : List Evt} (wf : Wf evs) : ∀ e ∈ evs, nameL e.nm.cps.toList = true := fun e he => by
  obtain ⟨pre, post, rfl⟩ := List.append_of_mem he
  exact (wf.ok pre e post rfl).nm
theorem Wf.str {evs : List Evt} (wf : Wf evs) : ∀ e ∈ evs, strK e.nm = true := fun e he => name_ok (wf.names e he)
theorem hl_Order_init : ∀ ds Φ, SI_Order ds Φ → ds.length = 1 := by rintro ds Φ ⟨_, rfl, _⟩; rfl
theorem hB_Order_init : ∀ x ds Φ, SI_Order ds Φ → B_Order_init ⟨startI x "Order" n_Order_init ds, 0⟩ (retI x "Order" Φ) := by
  rintro x ds Φ ⟨evs, rfl, wf, h⟩
  refine gs_seq (gs_fld (d := .tup (evs.map evI)) (.cl (.one (.name rfl)) rfl rfl) rfl rfl (by decide) (by decide) ?_)
  dsimp only [Stt.put, List.set, List.nil_append, List.cons_append]
  refine gs_seq (gs_ifF (.of (.v (.bin (.cl (.one (.fldO (d := .tup (evs.map evI)) rfl rfl)) rfl rfl) .dt rfl rfl rfl) rfl) (decide_eq_false (by rw [List.length_map]; have := wf.len; omega))) (gs_nil ?_))
  dsimp only
  refine gs_seq (gs_own (ds := []) (.lst .nil rfl (by decide)) ?_)
  dsimp only [Stt.put, List.set]
  refine gs_seq (gs_forL (L := evs) (dOf := evI) (fun pre s => ∃ x3 x4, s = ⟨[some (.obj x "Order" ["events"] [.tup (evs.map evI)]), some (.val (.lst (evs.map evI))), some (.own ((pre.map Evt.nm).map D.str)), x3, x4], 0⟩) (.seq (d := .tup (evs.map evI)) (.fldO rfl rfl) rfl rfl) rfl ⟨_, _, rfl⟩ ?_ ?_)
  · rintro pre e post s De' eL ⟨x3, x4, rfl⟩ _ _ hnx _
    refine ⟨⟨[some (.obj x "Order" ["events"] [.tup (evs.map evI)]), some (.val (.lst (evs.map evI))), some (.own ((pre.map Evt.nm).map D.str)), some (.val (evI e)), x4], 0⟩, rfl, ?_⟩
    have ok := wf.ok pre e post eL
    have hp : ∀ y ∈ pre.map Evt.nm, nameL y.cps.toList = true := fun y hy => by
      obtain ⟨z, hz, rfl⟩ := List.mem_map.mp hy
      exact wf.names z (by rw [eL]; exact List.mem_append_left _ hz)
    have hpl : pre.length ≤ 12 := by
      have := wf.len
      rw [eL, List.length_append] at this
      omega
    refine gs_seq (gs_set (d := .non) (fun Φ q => (EvA.cons (.name rfl) (.one (.nameO rfl))) _ ⟨[evI e, .lst ((pre.map Evt.nm).map D.str)], rfl, e, pre.map Evt.nm, rfl, ok, hp, rfl, q⟩) rfl ?_)
    dsimp only [Stt.put, List.set]
    refine gs_seq (gs_ifF (.of (.v (.notN (d := .non) (.name rfl) rfl) rfl) rfl) (gs_nil ?_))
    dsimp only
    refine gs_app rfl (.fld (d := .str e.nm) (.name rfl) rfl rfl) rfl (by rw [List.length_map, List.length_map]; omega) (hnx _ ⟨some (.val (evI e)), some (.val .non), ?_⟩)
    simp [Stt.put]
  · rintro s ⟨x3, x4, rfl⟩
    dsimp only
    refine gs_fld (w := .dat (.tup (evs.map nmD))) (.cl (.one (.nameO rfl)) rfl ?_) rfl rfl (by decide) (by decide) ⟨_, _, rfl, h⟩
    rw [List.map_map]
    rfl
theorem Wf.inj {evs : List Evt} (wf : Wf evs) {i j : Nat} {a b : Evt} (hi : evs[i]? = some a) (hj : evs[j]? = some b) (e : a.nm = b.nm) : i = j := by
  have key : ∀ {i j : Nat} {a b : Evt}, i < j → evs[i]? = some a → evs[j]? = some b → a.nm ≠ b.nm := fun {i j a b} h hi hj z => by
    have hj' := (List.getElem?_eq_some_iff.mp hj).1
    have eL : evs = evs.take j ++ b :: evs.drop (j + 1) := by
      have := List.drop_eq_getElem_cons hj'
      have e2 := (List.getElem?_eq_some_iff.mp hj).2
      rw [e2] at this
      rw [← this, List.take_append_drop]
    refine (wf.ok _ b _ eL).new (List.mem_map.mpr ⟨a, ?_, z⟩)
    refine List.mem_of_getElem? (i := i) ?_
    rw [List.getElem?_take_of_lt h]
    exact hi
  rcases Nat.lt_trichotomy i j with h | h | h
  · exact absurd e (key h hi hj)
  · exact h
  · exact absurd e.symm (key h hj hi)
theorem hl_Order_place : ∀ ds Φ, S_Order_place ds Φ → ds.length = 2 := by rintro ds Φ ⟨_, _, _, rfl, _⟩; rfl
theorem hB_Order_place : ∀ ds Φ, S_Order_place ds Φ → B_Order_place ⟨startD n_Order_place ds, 0⟩ (retD Φ) := by
  rintro ds Φ ⟨evs, p, e, rfl, wf, hp, h⟩
  have me := List.mem_of_getElem? hp
  refine gs_seq (gs_forL (L := enumL 0 evs) (dOf := fun q => D.tup [.int (q.1 : Nat), evI q.2]) (fun pre s => pre.length ≤ p ∧ ∃ x2 x3, s = ⟨[some (.val (orD evs)), some (.val (.str e.nm)), x2, x3], 0⟩) (.enum (d := .tup (evs.map evI)) (.one (.fld (.name rfl) rfl rfl)) rfl rfl rfl) (enumL_D evI 0 evs) ⟨Nat.zero_le _, _, _, rfl⟩ ?_ ?_)
  · rintro pre q post s De' eL ⟨hpre, x2, x3, rfl⟩ hrt _ hnx _
    refine ⟨⟨[some (.val (orD evs)), some (.val (.str e.nm)), some (.val (.int (q.1 : Nat))), some (.val (evI q.2))], 0⟩, rfl, ?_⟩
    have hq : q ∈ enumL 0 evs := by rw [eL]; simp
    obtain ⟨j, j1, j2⟩ := enumL_at hq
    rw [Nat.zero_add] at j1
    have jpre : q.1 = pre.length := by
      have : ∀ (l : List Evt) (k : Nat) (pre post : List (Nat × Evt)) (q : Nat × Evt), enumL k l = pre ++ q :: post → q.1 = k + pre.length := by
        intro l
        induction l with
        | nil => intro k pre post q h; simp [enumL] at h
        | cons a l ih =>
          intro k pre post q h
          cases pre with
          | nil =>
            rw [enumL, List.nil_append] at h
            injection h with h1 _
            rw [← h1]; simp
          | cons b pre =>
            rw [enumL, List.cons_append] at h
            injection h with _ h2
            have := ih (k + 1) pre post q h2
            rw [this, List.length_cons]; omega
      have := this _ _ _ _ _ eL
      omega
    have mq : q.2 ∈ evs := List.mem_of_getElem? j2
    have c1 : EvB (gTv (gBin fEq (gFld "Event" "name" (DL.gName 3)) (DL.gName 1))) ⟨[some (.val (orD evs)), some (.val (.str e.nm)), some (.val (.int (q.1 : Nat))), some (.val (evI q.2))], 0⟩ (decide (q.2.nm = e.nm)) := .v (.bin (w := .dat (.bl (decide (q.2.nm = e.nm)))) (.fld (d := .str q.2.nm) (.name rfl) rfl rfl) (.name rfl) rfl rfl (eq_str (wf.str _ mq) (wf.str _ me))) rfl
    refine gs_if c1 (fun c => ?_) fun c => gs_nil (hnx _ ⟨?_, _, _, rfl⟩)
    · have := wf.inj j2 hp (of_decide_eq_true c)
      refine gs_ret (.name rfl) ?_
      rw [hrt]
      refine ⟨_, _, rfl, ?_⟩
      rw [j1, this]
      exact h
    · rw [List.length_append, List.length_singleton]
      have : pre.length ≠ p := fun z => by
        rw [← z, ← jpre, j1] at hp
        rw [j2] at hp
        cases Option.some.inj hp
        exact absurd rfl (of_decide_eq_false c)
      omega
  · rintro s ⟨hl, _⟩
    rw [enumL_len] at hl
    have := (List.getElem?_eq_some_iff.mp hp).1
    omega
theorem hl_Order_event : ∀ ds Φ, S_Order_event ds Φ → ds.length = 2 := by rintro ds Φ ⟨_, _, _, rfl, _⟩; rfl
theorem wat_at {ds : List D} {i : Nat} {d : D} (h : ds[i]? = some d) : wat ds (i : Nat) = some (.dat d) := by
  unfold wat atI
  have l := (List.getElem?_eq_some_iff.mp h).1
  have : ixN ds.length (i : Nat) = some i := by
    unfold ixN
    simp [l]
  rw [this]
  simp [h]
theorem ix_tup {ds : List D} {i : Nat} {d : D} (h : ds[i]? = some d) : fIx (.tup ds) (.int (i : Nat)) = some (.dat d) := wat_at h
theorem ix_lst {ds : List D} {i : Nat} {d : D} (h : ds[i]? = some d) : fIx (.lst ds) (.int (i : Nat)) = some (.dat d) := wat_at h
theorem hB_Order_event : ∀ ds Φ, S_Order_event ds Φ → B_Order_event ⟨startD n_Order_event ds, 0⟩ (retD Φ) := by
  rintro ds Φ ⟨evs, p, e, rfl, wf, hp, h⟩
  exact gs_ret (.bin (d := .tup (evs.map evI)) (e := .int (p : Nat)) (w := .dat (evI e)) (.fld (.name rfl) rfl rfl) (.meth (d := .int (p : Nat)) (.name rfl) rfl (by decide) (.one (.name rfl)) rfl fun Φ q => ⟨evs, p, e, rfl, wf, hp, q⟩) rfl rfl (ix_tup (by rw [List.getElem?_map, hp]; rfl))) ⟨_, _, rfl, h⟩
theorem Wf.at_ {evs : List Evt} (wf : Wf evs) {e : Evt} (h : e ∈ evs) : ∃ pre, EvOk pre e := by
  obtain ⟨pre, post, rfl⟩ := List.append_of_mem h
  exact ⟨_, wf.ok pre e post rfl⟩
end K21
set_option maxHeartbeats 1000000
set_option exponentiation.threshold 5000
namespace K21
open PySem PySem.Spec PyProof.Rows L2 Ax DL
/-! ### true values: there are such, they are told by what is told, they are small -/
theorem map_same {φ ψ : Str → Int} {l : List Str} (h : ∀ x ∈ l, φ x = ψ x) : l.map φ = l.map ψ := List.map_congr_left h
theorem sol_ex {evs : List Evt} (wf : Wf evs) (ans : Str → List Int → Int) : ∃ φ, Sol evs ans φ := by
  have key : ∀ (post pre : List Evt), evs = pre ++ post → (∃ φ, Sol pre ans φ) → ∃ φ, Sol evs ans φ := by
    intro post
    induction post with
    | nil =>
      intro pre e h
      rw [List.append_nil] at e
      rw [e]; exact h
    | cons x post ih =>
      rintro pre e ⟨φ, h⟩
      refine ih (pre ++ [x]) (by rw [e, List.append_assoc]; rfl) ⟨fun y => if y = x.nm then ans x.nm (x.nd.map φ) else φ y, fun a ha => ?_⟩
      have okx := wf.ok pre x post e
      have same : ∀ (l : List Str), (∀ y ∈ l, y ∈ pre.map Evt.nm) → (l.map fun y => if y = x.nm then ans x.nm (x.nd.map φ) else φ y) = l.map φ := fun l hl => List.map_congr_left fun y hy => if_neg fun (z : y = x.nm) => okx.new (z ▸ hl y hy)
      rcases List.mem_append.mp ha with ha | ha
      · obtain ⟨p1, p2, ep⟩ := List.append_of_mem ha
        have oka := wf.ok p1 a (p2 ++ x :: post) (by rw [e, ep, List.append_assoc]; rfl)
        have na : a.nm ≠ x.nm := fun z => okx.new (z ▸ List.mem_map.mpr ⟨a, ha, rfl⟩)
        show (if a.nm = x.nm then _ else φ a.nm) = _
        rw [if_neg na, same a.nd fun y hy => by
          rw [ep, List.map_append]
          exact List.mem_append_left _ (oka.sub y hy)]
        exact h a ha
      · rw [List.mem_singleton.mp ha]
        show (if x.nm = x.nm then _ else _) = _
        rw [if_pos rfl, same x.nd okx.sub]
  exact key evs [] rfl ⟨fun _ => 0, fun e he => by cases he⟩
/-- values that hang on the same things are the same -/
theorem agree {evs : List Evt} (wf : Wf evs) {ans ans' : Str → List Int → Int} {φ ψ : Str → Int} (h1 : Sol evs ans φ) (h2 : Sol evs ans' ψ) (P : Evt → Prop) (hc : ∀ e ∈ evs, P e → ∀ e' ∈ evs, e'.nm ∈ e.nd → P e') (ha : ∀ e ∈ evs, P e → ans e.nm (e.nd.map φ) = ans' e.nm (e.nd.map φ)) : ∀ e ∈ evs, P e → φ e.nm = ψ e.nm := by
  have key : ∀ (post pre : List Evt), evs = pre ++ post → (∀ e ∈ pre, P e → φ e.nm = ψ e.nm) → ∀ e ∈ evs, P e → φ e.nm = ψ e.nm := by
    intro post
    induction post with
    | nil =>
      intro pre e h
      rw [List.append_nil] at e
      rw [e]; exact h
    | cons x post ih =>
      intro pre e h
      refine ih (pre ++ [x]) (by rw [e, List.append_assoc]; rfl) fun a ha' hp => ?_
      rcases List.mem_append.mp ha' with q | q
      · exact h a q hp
      · rw [List.mem_singleton.mp q] at hp ⊢
        have okx := wf.ok pre x post e
        have mx : x ∈ evs := by rw [e]; simp
        have : x.nd.map φ = x.nd.map ψ := map_same fun y hy => by
          obtain ⟨a', ha', e'⟩ := List.mem_map.mp (okx.sub y hy)
          rw [← e']
          exact h a' ha' (hc x mx hp a' (by rw [e]; exact List.mem_append_left _ ha') (e' ▸ hy))
        rw [h1 x mx, h2 x mx, ← this]
        exact ha x mx hp
  exact key evs [] rfl fun e he => by cases he
theorem nd_same {evs : List Evt} (wf : Wf evs) {φ ψ : Str → Int} {e : Evt} (he : e ∈ evs) (h : ∀ e' ∈ evs, e'.nm ∈ e.nd → φ e'.nm = ψ e'.nm) : e.nd.map φ = e.nd.map ψ := by
  obtain ⟨pre, post, rfl⟩ := List.append_of_mem he
  refine map_same fun y hy => ?_
  obtain ⟨a, ha, rfl⟩ := List.mem_map.mp ((wf.ok pre e post rfl).sub y hy)
  exact h a (List.mem_append_left _ ha) hy
/-- at most these numbers -/
structure Small (N : Nat) (rows : List E) (b f : Int) : Prop where
  val : ∀ e ∈ rows, e.2.2.natAbs < 2 ^ N
  b : b.natAbs < 2 ^ N
  f : f.natAbs ≤ 2
theorem ansR_lt {N M : Nat} {rows : List E} {b f : Int} (s : Small N rows b f) (hNM : N ≤ M) {n : Str} {k : List Int} (hl : k.length ≤ 3) (h : ∀ x ∈ k, x.natAbs < 2 ^ M) : (ansR rows b f n k).natAbs < 2 ^ (M + 5) := by
  unfold ansR
  have hM : (2 : Nat) ^ (M + 5) = 32 * 2 ^ M := by rw [Nat.pow_add]; omega
  have hN : (2 : Nat) ^ N ≤ 2 ^ M := Nat.pow_le_pow_right (by decide) hNM
  cases e : rows.find? (fun e => decide (hd e = (n, k))) with
  | some x =>
    have := s.val x (List.mem_of_find?_eq_some e)
    show x.2.2.natAbs < _
    omega
  | none =>
    show (b + f * wsum k).natAbs < _
    have h1 := wsum_abs (m := 2 ^ M) hl fun x hx => Nat.le_of_lt (h x hx)
    have h2 : (f * wsum k).natAbs ≤ 2 * (6 * 2 ^ M) := by
      rw [Int.natAbs_mul]
      exact Nat.mul_le_mul s.f h1
    have h3 := Int.natAbs_add_le b (f * wsum k)
    have := s.b
    omega
theorem sol_lt {N : Nat} {evs : List Evt} (wf : Wf evs) {rows : List E} {b f : Int} (s : Small N rows b f) {φ : Str → Int} (h : Sol evs (ansR rows b f) φ) : ∀ e ∈ evs, (φ e.nm).natAbs < 2 ^ (N + 60) := by
  have key : ∀ (post pre : List Evt), evs = pre ++ post → (∀ e ∈ pre, (φ e.nm).natAbs < 2 ^ (N + 5 * pre.length)) → ∀ e ∈ evs, (φ e.nm).natAbs < 2 ^ (N + 60) := by
    intro post
    induction post with
    | nil =>
      intro pre e h e' he'
      rw [List.append_nil] at e
      rw [e] at he'
      have := wf.len
      rw [e] at this
      exact pow_up (h e' he') (by omega)
    | cons x post ih =>
      intro pre e hp
      refine ih (pre ++ [x]) (by rw [e, List.append_assoc]; rfl) fun a ha => ?_
      rw [List.length_append, List.length_singleton]
      rcases List.mem_append.mp ha with q | q
      · exact pow_up (hp a q) (by omega)
      · rw [List.mem_singleton.mp q]
        have okx := wf.ok pre x post e
        rw [h x (by rw [e]; simp)]
        have := ansR_lt (M := N + 5 * pre.length) s (by omega) (n := x.nm) (k := x.nd.map φ) (by rw [List.length_map]; exact okx.len) fun y hy => by
          obtain ⟨z, hz, rfl⟩ := List.mem_map.mp hy
          obtain ⟨a, ha, rfl⟩ := List.mem_map.mp (okx.sub z hz)
          exact hp a ha
        exact pow_up this (by omega)
  exact key evs [] rfl fun e he => by cases he
theorem sol_bnd {N : Nat} {evs : List Evt} (wf : Wf evs) {rows : List E} {b f : Int} (s : Small N rows b f) (hN : N ≤ 900) {φ : Str → Int} (h : Sol evs (ansR rows b f) φ) : bndF evs φ := fun e he => pow_up (sol_lt wf s h e he) (by omega)
theorem bndK_nd {evs : List Evt} (wf : Wf evs) {φ : Str → Int} (hb : bndF evs φ) {e : Evt} (he : e ∈ evs) : bndK (e.nd.map φ) := by
  obtain ⟨pre, post, rfl⟩ := List.append_of_mem he
  have ok := wf.ok pre e post rfl
  refine ⟨by rw [List.length_map]; exact ok.len, fun x hx => ?_⟩
  obtain ⟨y, hy, rfl⟩ := List.mem_map.mp hx
  obtain ⟨a, ha, rfl⟩ := List.mem_map.mp (ok.sub y hy)
  exact hb a (List.mem_append_left _ ha)
/-! ### dicts by names -/
theorem getC_env {α : Type} (g : α → Str) (v : α → D) : ∀ {l : List α} {x : α}, x ∈ l → (∀ y ∈ l, g y = g x → v y = v x) → getC (l.map fun e => (Sum.inr (g e), v e)) (.inr (g x)) = some (v x)
  | [], x, h, _ => by cases h
  | a :: l, x, h, hv => by
    rw [List.map_cons]
    unfold getC
    by_cases c : g a = g x
    · rw [List.find?_cons_of_pos (by exact decide_eq_true (by rw [c]))]
      exact congrArg some (hv a List.mem_cons_self c)
    · rw [List.find?_cons_of_neg (by exact fun z => c (Sum.inr.inj (of_decide_eq_true z)))]
      refine getC_env g v ((List.mem_cons.mp h).resolve_left fun z => c (by rw [z])) fun y hy => hv y (List.mem_cons_of_mem _ hy)
theorem putC_new {kvs : List (L2.Key × D)} {k : L2.Key} {d : D} (h : ∀ p ∈ kvs, p.1 ≠ k) : putC kvs k d = kvs ++ [(k, d)] := by
  unfold putC
  rw [if_neg]
  intro z
  obtain ⟨p, hp, e⟩ := List.any_eq_true.mp z
  exact h p hp (of_decide_eq_true e)
theorem zip_fs {α β : Type} : ∀ l : List (α × β), (l.map (·.1)).zip (l.map (·.2)) = l
  | [] => rfl
  | p :: l => by rw [List.map_cons, List.map_cons, List.zip_cons_cons, zip_fs l]
theorem nmC {s : Stt} {i : Nat} {kvs : List (L2.Key × D)} (h : s.r[i]? = some (some (.dck kvs))) : Ev (DL.gName i) s (.loc i) := fun Φ q => by
  unfold DL.gName; rw [h]; exact q
/-! ### true_run -/
theorem pos_of {evs pre post : List Evt} {e : Evt} (h : evs = pre ++ e :: post) : evs[pre.length]? = some e := by rw [h]; simp
theorem flat_kD (k : List Int) : flatT (kD k) = true := by
  unfold kD
  have : ∀ l : List Int, flatTs (l.map D.int) = true := fun l => by
    induction l with
    | nil => rfl
    | cons x l ih => simp [flatTs, flatT, ih]
  simp [flatT, this k]
end K21
set_option maxHeartbeats 1000000
namespace K21
open PySem PySem.Spec PyProof.Rows L2 Ax DL
theorem eD_1 (e : E) : fIx (eD e) (.int 1) = some (.dat (kD e.2.1)) := rfl
theorem ne_k (a b : List Int) : fNe (kD a) (kD b) = some (.dat (.bl (!decide (a = b)))) := by rw [fne (okD_k a) (okD_k b), eqD_k]
theorem eq_k (a b : List Int) : fEq (kD a) (kD b) = some (.dat (.bl (decide (a = b)))) := by rw [feq (okD_k a) (okD_k b), eqD_k]
theorem enum_pos {α : Type} : ∀ {l : List α} {k : Nat} {pre post : List (Nat × α)} {q : Nat × α}, enumL k l = pre ++ q :: post → q.1 = k + pre.length ∧ l = pre.map (·.2) ++ q.2 :: post.map (·.2)
  | [], k, pre, post, q, h => by simp [enumL] at h
  | a :: l, k, pre, post, q, h => by
    cases pre with
    | nil =>
      rw [enumL, List.nil_append] at h
      injection h with h1 h2
      have : ∀ (k : Nat) (l : List α), (enumL k l).map (·.2) = l := fun k l => by
        induction l generalizing k with
        | nil => rfl
        | cons x l ih => rw [enumL, List.map_cons, ih]
      rw [← h1, ← h2, this]
      exact ⟨rfl, rfl⟩
    | cons b pre =>
      rw [enumL, List.cons_append] at h
      injection h with h1 h2
      obtain ⟨g1, g2⟩ := enum_pos h2
      rw [g1, List.length_cons]
      refine ⟨by omega, ?_⟩
      rw [← h1, List.map_cons, List.cons_append, ← g2]
end K21
set_option maxHeartbeats 1000000
namespace K21
open PySem PySem.Spec PyProof.Rows L2 Ax DL
theorem evInD {s : Stt} {neg : Bool} {g1 g2 : GX} {w1 w2 : W} {ks kk : List NK} {ds : List D} (h1 : Ev g1 s w1) (h2 : Ev g2 s w2) (r2 : rd w2 s = some (.dnk ks ds)) (r1 : rd w1 s = some (dN (.tup kk))) (hd : (NestedKey.tup kk).depth ≤ 8) : Ev (gInD neg g1 g2) s (.dat (.bl (if neg then !(getK (ks.zip ds) (.tup kk)).isSome else (getK (ks.zip ds) (.tup kk)).isSome))) := fun Φ q => h1 _ (h2 _ ⟨ks, ds, kk, r2, r1, hd, q⟩)
theorem evIxD {s : Stt} {g1 g2 : GX} {w1 w2 : W} {ks kk : List NK} {ds : List D} {d : D} (h1 : Ev g1 s w1) (h2 : Ev g2 s w2) (r1 : rd w1 s = some (.dnk ks ds)) (r2 : rd w2 s = some (dN (.tup kk))) (hd : (NestedKey.tup kk).depth ≤ 8) (g : getK (ks.zip ds) (.tup kk) = some d) : Ev (gIxD g1 g2) s (.dat d) := fun Φ q => h1 _ (h2 _ ⟨ks, ds, kk, d, r1, r2, hd, g, q⟩)
theorem hl_law_answer : ∀ ds Φ, S_law_answer ds Φ → ds.length = 3 := by rintro ds Φ ⟨_, _, _, _, _, rfl, _⟩; rfl
theorem hB_law_answer : ∀ ds Φ, S_law_answer ds Φ → B_law_answer ⟨startD n_law_answer ds, 0⟩ (retD Φ) := by
  rintro ds Φ ⟨rows, b, f, n, k, rfl, hk, hf, h⟩
  have hw : ∀ i : Int, ∀ d, fIx (wlL rows b f) (.int i) = some (.dat d) → Ev (gBin fIx (DL.gName 0) (gDat (.int i))) ⟨startD n_law_answer [wlL rows b f, .str n, kD k], 0⟩ (.dat d) := fun i d q => .bin (.name (d := wlL rows b f) rfl) .dt rfl rfl q
  have tp : Ev (DL.gTup (gaCons (DL.gName 1) (gaCons (DL.gName 2) gaNil))) ⟨startD n_law_answer [wlL rows b f, .str n, kD k], 0⟩ (.dat (.tup [.str n, kD k])) := .tup (.cons (.name rfl) (.one (.name rfl))) rfl (Nat.le_of_ble_eq_true rfl)
  have hr : rd (.dat (.tup [.str n, kD k])) ⟨startD n_law_answer [wlL rows b f, .str n, kD k], 0⟩ = some (dN (.tup [.text n, .tup (k.map NestedKey.num)])) := congrArg some (dN_head n k).symm
  have c := evInD (neg := false) tp (hw 0 (.dnk (rows.map hdN) (rows.map fun e => .int e.2.2)) rfl) rfl hr (depth_head n k)
  unfold ansR at h
  cases e : rows.find? (fun e => decide (hd e = (n, k))) with
  | some x =>
    rw [e] at h
    have g : getK ((rows.map hdN).zip (rows.map fun e => .int e.2.2)) (.tup [.text n, .tup (k.map NestedKey.num)]) = some (.int x.2.2) := by rw [getK_rows, e]; rfl
    rw [g] at c
    exact gs_seq (gs_ifT (.v c rfl) (gs_ret (evIxD (hw 0 (.dnk (rows.map hdN) (rows.map fun e => .int e.2.2)) rfl) tp rfl hr (depth_head n k) g) ⟨_, _, rfl, h⟩))
  | none =>
    rw [e] at h
    have g : getK ((rows.map hdN).zip (rows.map fun e => .int e.2.2)) (.tup [.text n, .tup (k.map NestedKey.num)]) = none := by rw [getK_rows, e]; rfl
    rw [g] at c
    refine gs_seq (gs_ifF (.v c rfl) (gs_nil ?_))
    dsimp only
    exact gs_ret (.bin (hw 1 (.int b) rfl) (.bin (hw 2 (.int f) rfl) (ev_wsum (fun x y => ⟨[some (.val (wlL rows b f)), some (.val (.str n)), some (.val (kD k)), some (.val x), some (.val y)], 0⟩) rfl (fun x y => ⟨rfl, rfl, rfl, rfl⟩) hk) rfl rfl (mul_ev (small_lt (by omega) (by decide)) (bnd_wsum hk))) rfl rfl (add_int _ _)) ⟨_, _, rfl, h⟩
abbrev truV (φ : Str → Int) (e : Evt) : D := .tup [kD (e.nd.map φ), .int (φ e.nm)]
abbrev envT (evs : List Evt) (φ : Str → Int) : List (L2.Key × D) := evs.map fun e => (.inr e.nm, truV φ e)
theorem getC_ex {α : Type} (g : α → Str) (v : α → D) : ∀ {l : List α} {x : Str}, x ∈ l.map g → ∃ a ∈ l, g a = x ∧ getC (l.map fun e => (Sum.inr (g e), v e)) (.inr x) = some (v a)
  | [], x, h => by cases h
  | a :: l, x, h => by
    rw [List.map_cons]
    unfold getC
    by_cases c : g a = x
    · refine ⟨a, List.mem_cons_self, c, ?_⟩
      rw [List.find?_cons_of_pos (by exact decide_eq_true (by rw [c]))]
      rfl
    · rw [List.find?_cons_of_neg (by exact fun z => c (Sum.inr.inj (of_decide_eq_true z)))]
      rw [List.map_cons] at h
      obtain ⟨b, hb, e1, e2⟩ := getC_ex g v ((List.mem_cons.mp h).resolve_left fun z => c z.symm)
      exact ⟨b, List.mem_cons_of_mem _ hb, e1, e2⟩
theorem envT_get {pre : List Evt} {φ : Str → Int} {x : Str} (h : x ∈ pre.map Evt.nm) : ∃ k, getC (envT pre φ) (.inr x) = some (.tup [k, .int (φ x)]) := by
  obtain ⟨a, _, rfl, e⟩ := getC_ex Evt.nm (truV φ) h
  exact ⟨_, e⟩
theorem envT_at {evs : List Evt} (wf : Wf evs) {φ : Str → Int} {e : Evt} (h : e ∈ evs) : getC (envT evs φ) (.inr e.nm) = some (truV φ e) := by
  obtain ⟨a, ha, e1, e2⟩ := getC_ex Evt.nm (truV φ) (List.mem_map.mpr ⟨e, h, rfl⟩ : e.nm ∈ evs.map Evt.nm)
  obtain ⟨i, hi⟩ := List.mem_iff_getElem?.mp ha
  obtain ⟨j, hj⟩ := List.mem_iff_getElem?.mp h
  have := wf.inj hi hj e1
  rw [this, hj] at hi
  cases Option.some.inj hi
  exact e2
theorem envT_put {pre : List Evt} {φ : Str → Int} {e : Evt} (h : e.nm ∉ pre.map Evt.nm) : putC (envT pre φ) (.inr e.nm) (truV φ e) = envT (pre ++ [e]) φ := by
  rw [putC_new fun p hp z => by
    obtain ⟨a, ha, rfl⟩ := List.mem_map.mp hp
    exact h (List.mem_map.mpr ⟨a, ha, Sum.inr.inj z⟩)]
  simp [envT]
theorem hl_law_true : ∀ ds Φ, S_law_true ds Φ → ds.length = 2 := by rintro ds Φ ⟨_, _, _, _, _, rfl, _⟩; rfl
theorem hB_law_true : ∀ ds Φ, S_law_true ds Φ → B_law_true ⟨startD n_law_true ds, 0⟩ (retD Φ) := by
  rintro ds Φ ⟨evs, rows, b, f, φ, rfl, wf, hf, sol, hb, h⟩
  refine gs_seq (gs_dck ?_)
  dsimp only [Stt.put]
  refine gs_seq (gs_forL (L := evs) (dOf := evT) (fun pre s => ∃ x3 x4 x5 x6 x7, s = ⟨[some (.val (.lst (evs.map evT))), some (.val (wlL rows b f)), some (.dck (envT pre φ)), x3, x4, x5, x6, x7, none], 0⟩) (.seq (.name rfl) rfl rfl) rfl ⟨none, none, none, none, none, rfl⟩ ?_ ?_)
  · rintro pre e post s De' eL ⟨x3, x4, x5, x6, x7, rfl⟩ _ _ hnx _
    refine ⟨⟨[some (.val (.lst (evs.map evT))), some (.val (wlL rows b f)), some (.dck (envT pre φ)), some (.val (.str e.nm)), some (.val (.int e.en)), some (.val (.str e.kn)), some (.val (ndD e)), x7, none], 0⟩, rfl, ?_⟩
    have ok := wf.ok pre e post eL
    have me : e ∈ evs := by rw [eL]; simp
    have hpl : pre.length ≤ 12 := by
      have := wf.len
      rw [eL, List.length_append] at this
      omega
    have lc : Ev (gLc (giSeq (DL.gName 6)) (tgName 8) gYes (gBin fIx (gIxC (DL.gName 2) (DL.gName 8)) (gDat (.int 1))) [8]) ⟨[some (.val (.lst (evs.map evT))), some (.val (wlL rows b f)), some (.dck (envT pre φ)), some (.val (.str e.nm)), some (.val (.int e.en)), some (.val (.str e.kn)), some (.val (ndD e)), x7, none], 0⟩ (.new (e.nd.map fun x => D.int (φ x))) := by
      refine .lcA (xs := e.nd) (dOf := D.str) (.seq (.name rfl) rfl (nd_items e)) rfl (by have := ok.len; omega) fun x hx => ?_
      obtain ⟨k, hk⟩ := envT_get (φ := φ) (ok.sub x hx)
      exact ⟨⟨[some (.val (.lst (evs.map evT))), some (.val (wlL rows b f)), some (.dck (envT pre φ)), some (.val (.str e.nm)), some (.val (.int e.en)), some (.val (.str e.kn)), some (.val (ndD e)), x7, some (.val (.str x))], 0⟩, rfl, rfl, .dat (.int (φ x)), .bin (.ixC (k := .inr x) (d := .tup [k, .int (φ x)]) (nmC rfl) (.name rfl) rfl rfl hk) .dt rfl rfl rfl, rfl⟩
    have e7 : fTuple [.lst (e.nd.map fun x => D.int (φ x))] = some (.dat (kD (e.nd.map φ))) := by
      show some (W.dat (.tup (e.nd.map fun x => D.int (φ x)))) = _
      unfold kD
      rw [List.map_map]
      rfl
    refine gs_seq (gs_set (d := kD (e.nd.map φ)) (.cl (.one lc) rfl e7) rfl ?_)
    dsimp only [Stt.put, List.set]
    refine gs_putC (k := .inr e.nm) (d := truV φ e) rfl (.tup (.cons (.name rfl) (.one (.call (d := .int (φ e.nm)) (.cons (.name rfl) (.cons (.name rfl) (.one (.name rfl)))) rfl fun Φ q => ⟨rows, b, f, e.nm, e.nd.map φ, rfl, bndK_nd wf hb me, hf, by rw [← sol e me]; exact q⟩))) rfl (Nat.le_of_ble_eq_true rfl)) rfl (.name rfl) rfl (by rw [List.length_map]; omega) (hnx _ ⟨some (.val (.str e.nm)), some (.val (.int e.en)), some (.val (.str e.kn)), some (.val (ndD e)), some (.val (kD (e.nd.map φ))), ?_⟩)
    rw [envT_put ok.new]
    rfl
  · rintro s ⟨x3, x4, x5, x6, x7, rfl⟩
    dsimp only
    refine gs_ret (nmC rfl) ⟨_, _, rfl, ?_⟩
    have : (D.dic ((envT evs φ).map (·.1)) ((envT evs φ).map (·.2))) = truD evs φ := by
      simp [envT, truD]
    rw [this]
    exact h
theorem hl_law_order_of : ∀ ds Φ, S_law_order_of ds Φ → ds.length = 1 := by rintro ds Φ ⟨_, rfl, _⟩; rfl
theorem hB_law_order_of : ∀ ds Φ, S_law_order_of ds Φ → B_law_order_of ⟨startD n_law_order_of ds, 0⟩ (retD Φ) := by
  rintro ds Φ ⟨evs, rfl, wf, h⟩
  have lc : Ev (gLc (giSeq (DL.gName 0)) (tgTup 4 (tgCons (tgName 1) (tgCons (tgName 2) (tgCons (tgName 3) (tgCons (tgName 4) tgNil))))) gYes (gMake "Event" SI_Event [] (gaCons (DL.gName 1) (gaCons (DL.gName 2) (gaCons (DL.gName 3) (gaCons (DL.gName 4) gaNil))))) [1, 2, 3, 4]) ⟨startD n_law_order_of [.lst (evs.map evT)], 0⟩ (.new (evs.map evI)) := by
    refine .lcA (xs := evs) (dOf := evT) (.seq (.name rfl) rfl rfl) rfl (by have := wf.len; omega) fun e he => ?_
    exact ⟨⟨[some (.val (.lst (evs.map evT))), some (.val (.str e.nm)), some (.val (.int e.en)), some (.val (.str e.kn)), some (.val (ndD e))], 0⟩, rfl, rfl, _, .make (.cons (.name rfl) (.cons (.name rfl) (.cons (.name rfl) (.one (.name rfl))))) rfl fun Φ q => ⟨e, rfl, q⟩, rfl⟩
  exact gs_ret (.make (.one lc) rfl fun Φ q => ⟨evs, rfl, wf, q⟩) ⟨_, _, rfl, h⟩
theorem nd_str {evs : List Evt} (wf : Wf evs) {e : Evt} (he : e ∈ evs) : ∀ y ∈ e.nd, strK y = true := fun y hy => by
  obtain ⟨pre, post, rfl⟩ := List.append_of_mem he
  obtain ⟨a, ha, rfl⟩ := List.mem_map.mp ((wf.ok pre e post rfl).sub y hy)
  exact wf.str a (List.mem_append_left _ ha)
end K21
set_option maxHeartbeats 1000000
set_option exponentiation.threshold 5000
namespace K21
open PySem PySem.Spec PyProof.Rows L2 Ax DL
theorem drd {i : Nat} {s : Stt} {g : GX} {lim : Int} {Φ : W → Stt → Prop} (hb : s.r[i]? = some (some .bag)) (hg : Ev g s (.dat (.int lim))) (h1 : 1 ≤ lim) (h2 : lim.natAbs < 2 ^ 200) (hn : s.n < 1000000) (q : ∀ d, 0 ≤ d → d < lim → Φ (.dat (.int d)) { s with n := s.n + 1 }) : gCallB i SDraw (gaCons g gaNil) s Φ :=
  callB hb (.one hg) rfl ⟨lim, rfl, h1, h2, hn, fun d h0 h1 => q d h0 h1⟩
theorem ix_mem {l : List D} {d : Int} (h0 : 0 ≤ d) (h1 : d < (l.length : Nat)) : ∃ x, x ∈ l ∧ fIx (.lst l) (.int d) = some (.dat x) := by
  obtain ⟨k, rfl⟩ : ∃ m : Nat, d = (m : Int) := ⟨d.toNat, by omega⟩
  have hk : k < l.length := by omega
  exact ⟨l[k], List.getElem_mem hk, ix_sq (d := .lst l) rfl (List.getElem?_eq_getElem hk)⟩
/-! ### the world -/
theorem hl_law_made_world : ∀ ds n Φ, S_law_made_world ds n Φ → ds.length = 1 := by rintro ds n Φ ⟨_, rfl, _⟩; rfl
abbrev mS (evs : List Evt) (b : Int) (x4 x5 : Option En) (n : Nat) : Stt := ⟨[some .bag, some (.val (.lst (evs.map evT))), some (.val (.int b)), none, x4, x5], n⟩
theorem mS_clean {evs : List Evt} {b : Int} {x4 x5 : Option En} {n : Nat} (h4 : ∀ e, x4 = some e → e.isOwn = false) (h5 : ∀ e, x5 = some e → e.isOwn = false) : Clean (mS evs b x4 x5 n) := by
  refine ⟨rfl, fun i e h => ?_⟩
  match i with
  | 0 => cases Option.some.inj (Option.some.inj h); rfl
  | 1 => cases Option.some.inj (Option.some.inj h); rfl
  | 2 => cases Option.some.inj (Option.some.inj h); rfl
  | 3 => cases Option.some.inj h
  | 4 => exact h4 e (Option.some.inj h)
  | 5 => exact h5 e (Option.some.inj h)
  | i + 6 => simp at h
abbrev kvR (rows : List E) : List (NK × D) := rows.map fun e => (hdN e, .int e.2.2)
theorem wl_eq (rows : List E) (b f : Int) : wlD (kvR rows) b f = wlL rows b f := by
  simp [wlD, wlL, kvR]
theorem putK_rows {rows : List E} {e : E} : ∃ rows', putK (kvR rows) (hdN e) (.int e.2.2) = kvR rows' ∧ rows'.length ≤ rows.length + 1 ∧ ((rows.map hd).Nodup → (rows'.map hd).Nodup) ∧ ∀ x ∈ rows', x = e ∨ (∃ y ∈ rows, hd y = hd x ∧ (x.2.2 = e.2.2 ∨ x.2.2 = y.2.2)) := by
  by_cases c : hdN e ∈ (kvR rows).map (·.1)
  · refine ⟨rows.map fun x => if hd x = hd e then (x.1, x.2.1, e.2.2) else x, ?_, by rw [List.length_map]; omega, fun n => ?_, fun x hx => .inr ?_⟩
    · unfold DL.putK
      rw [if_pos (getK_some.mpr c), List.map_map]
      show _ = (rows.map _).map (fun e => (hdN e, D.int e.2.2))
      rw [List.map_map]
      refine List.map_congr_left fun x _ => ?_
      show (if hdN x = hdN e then (hdN x, D.int e.2.2) else (hdN x, D.int x.2.2)) = _
      by_cases q : hd x = hd e
      · rw [if_pos (hdN_of q)]
        show _ = (hdN (if hd x = hd e then (x.1, x.2.1, e.2.2) else x), D.int (if hd x = hd e then (x.1, x.2.1, e.2.2) else x).2.2)
        rw [if_pos q]
        rfl
      · rw [if_neg (fun z => q (hdN_inj z))]
        show _ = (hdN (if hd x = hd e then (x.1, x.2.1, e.2.2) else x), D.int (if hd x = hd e then (x.1, x.2.1, e.2.2) else x).2.2)
        rw [if_neg q]
    · have : (rows.map fun x => if hd x = hd e then (x.1, x.2.1, e.2.2) else x).map hd = rows.map hd := by
        rw [List.map_map]
        refine List.map_congr_left fun x _ => ?_
        show hd (if hd x = hd e then (x.1, x.2.1, e.2.2) else x) = hd x
        split <;> rfl
      rw [this]; exact n
    · obtain ⟨y, hy, rfl⟩ := List.mem_map.mp hx
      refine ⟨y, hy, ?_⟩
      by_cases q : hd y = hd e
      · rw [if_pos q]; exact ⟨rfl, .inl rfl⟩
      · rw [if_neg q]; exact ⟨rfl, .inr rfl⟩
  · refine ⟨rows ++ [e], ?_, by simp, fun n => ?_, fun x hx => ?_⟩
    · rw [putK_new c]; simp [kvR]
    · rw [List.map_append, List.nodup_append]
      refine ⟨n, by simp, fun a ha b hb => ?_⟩
      rw [List.map_cons, List.map_nil, List.mem_singleton] at hb
      rw [hb]
      rintro rfl
      obtain ⟨y, hy, e1⟩ := List.mem_map.mp ha
      refine c ?_
      rw [List.map_map]
      exact List.mem_map.mpr ⟨y, hy, hdN_of e1⟩
    · rcases List.mem_append.mp hx with h | h
      · exact .inr ⟨x, h, rfl, .inr rfl⟩
      · exact .inl (List.mem_singleton.mp h)
theorem wl_small {rows : List E} {b f : Int} (h : WlOk rows b f) : Small 100 rows b f := ⟨h.val, h.b, h.f⟩
theorem made_loop {evs : List Evt} (wf : Wf evs) {b f : Int} {Φ : D → Nat → Prop} {n0 : Nat} (hn0 : n0 < 900000) (h : ∀ (rows : List E) n', WlOk rows b f → rows.length ≤ 12 → n' ≤ n0 + 90 → Φ (wlL rows b f) n') : ∀ (post pre : List Evt) (rows : List E) (x4 x5 : Option En) (n : Nat), evs = pre ++ post → WlOk rows b f → rows.length ≤ pre.length → n ≤ n0 + 5 * pre.length → (∀ e, x4 = some e → e.isOwn = false) → (∀ e, x5 = some e → e.isOwn = false) →
    loopW (gTv (gBin fEq (gCallB 0 SDraw (gaCons (gDat (.int 2)) gaNil)) (gDat (.int 0)))) (gBin fIx (gIxC (gCall S_law_true [] (gaCons (DL.gName 1) (gaCons (DL.gName 3) gaNil))) (gBin fIx (DL.gName 4) (gDat (.int 0)))) (gDat (.int 0))) (gCallB 0 SDraw (gaCons (gDat (.int 4)) gaNil)) (DL.gTup (gaCons (gBin fIx (DL.gName 4) (gDat (.int 0))) (gaCons (DL.gName 5) gaNil))) b f (post.map evT) (kvR rows) (mS evs b x4 x5 n) (retB Φ)
  | [], pre, rows, x4, x5, n, e, ok, hl, hn, h4, h5 => by
    have hp := wf.len
    rw [e, List.append_nil] at hp
    refine ⟨_, _, rfl, ?_⟩
    rw [wl_eq]
    exact h rows _ ok (by omega) (by show n ≤ _; omega)
  | x :: post, pre, rows, x4, x5, n, e, ok, hl, hn, h4, h5 => by
    have hp := wf.len
    rw [e, List.length_append, List.length_cons] at hp
    have mx : x ∈ evs := by rw [e]; simp
    have okx := wf.ok pre x post e
    have hf4 : ∀ (d : D) (e : En), some (En.val d) = some e → e.isOwn = false := fun d e h => by cases Option.some.inj h; rfl
    refine tv_run (bin_run (drd (s := mS evs b (some (.val (evT x))) x5 n) rfl .dt (by decide) (by decide) (by show n < 1000000; omega) fun y h0 h1 => ⟨_, _, _, rfl, rfl, feq (okD_int _) (okD_int _), _, rfl, mS_clean (hf4 _) h5, ?_⟩))
    rw [eqD_int]
    by_cases z : y = 0
    · rw [decide_eq_true z, if_pos rfl]
      obtain ⟨φ, sol⟩ := sol_ex wf (ansR rows b f)
      have hb := sol_bnd wf (wl_small ok) (by decide) sol
      have gk : Ev (gBin fIx (gIxC (gCall S_law_true [] (gaCons (DL.gName 1) (gaCons (DL.gName 3) gaNil))) (gBin fIx (DL.gName 4) (gDat (.int 0)))) (gDat (.int 0))) ⟨[some .bag, some (.val (.lst (evs.map evT))), some (.val (.int b)), some (.val (wlD (kvR rows) b f)), some (.val (evT x)), x5], n + 1⟩ (.dat (kD (x.nd.map φ))) := by
        refine .bin (.ixC (k := .inr x.nm) (kvs := envT evs φ) (d := truV φ x) (.call (d := truD evs φ) (.cons (.name rfl) (.one (.name rfl))) rfl fun Φ q => ⟨evs, rows, b, f, φ, by rw [wl_eq]; rfl, wf, ok.f, sol, hb, q⟩) (.bin (.name (d := evT x) rfl) .dt rfl rfl rfl) ?_ rfl (envT_at wf mx)) .dt rfl rfl rfl
        show some ((evs.map fun e => (.inr e.nm : L2.Key)).zip (evs.map fun e => truV φ e)) = _
        rw [List.zip_map']
      refine gk _ ⟨rfl, kD (x.nd.map φ), rfl, flat_kD _, ?_⟩
      refine drd (s := mS evs b (some (.val (evT x))) (some (.val (kD (x.nd.map φ)))) (n + 1)) rfl .dt (by decide) (by decide) (by show n + 1 < 1000000; omega) fun v v0 v1 => ⟨mS_clean (hf4 _) (hf4 _), v, rfl, ?_⟩
      have ti : Ev (DL.gTup (gaCons (gBin fIx (DL.gName 4) (gDat (.int 0))) (gaCons (DL.gName 5) gaNil))) (mS evs b (some (.val (evT x))) (some (.val (kD (x.nd.map φ)))) (n + 2)) (.dat (.tup [.str x.nm, kD (x.nd.map φ)])) := .tup (.cons (.bin (.name (d := evT x) rfl) .dt rfl rfl rfl) (.one (.name rfl))) rfl (Nat.le_of_ble_eq_true rfl)
      refine ti _ ⟨mS_clean (hf4 _) (hf4 _), [.text x.nm, .tup ((x.nd.map φ).map NestedKey.num)], congrArg some (dN_head _ _).symm, depth_head _ _, by rw [List.length_map]; omega, ?_⟩
      obtain ⟨rows', e1, l1, n1, m1⟩ := putK_rows (rows := rows) (e := (x.nm, x.nd.map φ, v))
      have e1' : putK (kvR rows) (.tup [.text x.nm, .tup ((x.nd.map φ).map NestedKey.num)]) (.int v) = kvR rows' := e1
      rw [e1']
      have bk : bndK (x.nd.map φ) := bndK_nd wf hb mx
      have sv : v.natAbs < 2 ^ 100 := small_lt (by omega) (by decide)
      refine made_loop wf hn0 h post (pre ++ [x]) rows' _ _ (n + 2) (by rw [e, List.append_assoc]; rfl) ⟨n1 ok.nod, fun a ha => ?_, fun a ha => ?_, fun a ha => ?_, ok.b, ok.f⟩ (by rw [List.length_append, List.length_singleton]; omega) (by rw [List.length_append, List.length_singleton]; omega) (hf4 _) (hf4 _)
      · rcases m1 a ha with rfl | ⟨y, hy, e2, _⟩
        · exact okx.nm
        · have := ok.nm y hy
          rw [show y.1 = a.1 from (Prod.mk.inj (show (y.1, y.2.1) = (a.1, a.2.1) from e2)).1] at this
          exact this
      · rcases m1 a ha with rfl | ⟨y, hy, e2, _⟩
        · exact bk.1
        · have := ok.key y hy
          rw [show y.2.1 = a.2.1 from (Prod.mk.inj (show (y.1, y.2.1) = (a.1, a.2.1) from e2)).2] at this
          exact this
      · rcases m1 a ha with rfl | ⟨y, hy, _, e3 | e3⟩
        · exact sv
        · rw [e3]; exact sv
        · rw [e3]; exact ok.val y hy
    · rw [decide_eq_false z, if_neg Bool.false_ne_true]
      exact made_loop wf hn0 h post (pre ++ [x]) rows _ _ (n + 1) (by rw [e, List.append_assoc]; rfl) ok (by rw [List.length_append]; omega) (by rw [List.length_append, List.length_singleton]; omega) (hf4 _) h5
theorem hB_law_made_world : ∀ ds n Φ, S_law_made_world ds n Φ → B_law_made_world ⟨startB n_law_made_world ds, n⟩ (retB Φ) := by
  rintro ds n Φ ⟨evs, rfl, wf, hn, h⟩
  have ls : Ev (gLst (gaCons (gDat (.int 0)) (gaCons (gDat (.int 1)) (gaCons (gDat (.int 7)) (gaCons (gBin (fIc CPow fun i j => i ^ j.toNat) (gDat (.int 10)) (gDat (.int 30))) gaNil))))) ⟨startB n_law_made_world [.lst (evs.map evT)], n⟩ (.new [.int 0, .int 1, .int 7, .int (10 ^ 30)]) := .lst (.cons .dt (.cons .dt (.cons .dt (.one (.bin (w := .dat (.int (10 ^ 30))) .dt .dt rfl rfl (by simp only [fIc]; rw [if_pos (by decide)]; rfl)))))) rfl (by decide)
  refine gs_seq (set_run (bin_run (ls _ (drd rfl .dt (by decide) (by decide) (by show n < 1000000; omega) fun d h0 h1 => ?_))))
  obtain ⟨xb, mb, eb⟩ := ix_mem (l := [.int 0, .int 1, .int 7, .int (10 ^ 30)]) h0 h1
  obtain ⟨b, rfl, hb⟩ : ∃ b : Int, xb = .int b ∧ b.natAbs < 2 ^ 100 := by
    simp only [List.mem_cons, List.not_mem_nil, or_false] at mb
    rcases mb with rfl | rfl | rfl | rfl
    · exact ⟨_, rfl, by decide⟩
    · exact ⟨_, rfl, by decide⟩
    · exact ⟨_, rfl, by decide⟩
    · exact ⟨_, rfl, by decide⟩
  refine ⟨_, _, _, rfl, rfl, eb, _, _, rfl, ?_⟩
  show gsMadeW _ _ _ _ _ (mS evs b none none (n + 1)) (retB Φ)
  have no : ∀ e, (none : Option En) = some e → e.isOwn = false := fun e h => by cases h
  refine ⟨mS_clean no no, ⟨b, rfl⟩, ?_⟩
  have ls2 : Ev (gLst (gaCons (gDat (.int 0)) (gaCons (gDat (.int 1)) (gaCons (gDat (.int 2)) (gaCons (gBin (fI fun i j => i - j) (gDat (.int 0)) (gDat (.int 1))) gaNil))))) (mS evs b none none (n + 1)) (.new [.int 0, .int 1, .int 2, .int (-1)]) := .lst (.cons .dt (.cons .dt (.cons .dt (.one (.bin (w := .dat (.int (-1))) .dt .dt rfl rfl rfl))))) rfl (by decide)
  refine bin_run (ls2 _ (drd rfl .dt (by decide) (by decide) (by show n + 1 < 1000000; omega) fun d h0 h1 => ?_))
  obtain ⟨xf, mf, ef⟩ := ix_mem (l := [.int 0, .int 1, .int 2, .int (-1)]) h0 h1
  obtain ⟨f, rfl, hf⟩ : ∃ b : Int, xf = .int b ∧ b.natAbs ≤ 2 := by
    simp only [List.mem_cons, List.not_mem_nil, or_false] at mf
    rcases mf with rfl | rfl | rfl | rfl
    · exact ⟨_, rfl, by decide⟩
    · exact ⟨_, rfl, by decide⟩
    · exact ⟨_, rfl, by decide⟩
    · exact ⟨_, rfl, by decide⟩
  refine ⟨_, _, _, rfl, rfl, ef, mS_clean no no, b, f, evs.map evT, rfl, rfl, rfl, ?_⟩
  exact made_loop wf (n0 := n + 2) (by omega) (fun rows n' ok hl hn' => h rows b f n' ok hl (by omega)) evs [] [] none none (n + 2) rfl ⟨by simp, fun e he => by (cases he), fun e he => by (cases he), fun e he => by (cases he), hb, hf⟩ (Nat.le_refl _) (by simp) no no
end K21
set_option maxHeartbeats 1000000
namespace K21
open PySem PySem.Spec PyProof.Rows L2 Ax DL
theorem wf_snoc {evs : List Evt} {e : Evt} (wf : Wf evs) (ok : EvOk (evs.map Evt.nm) e) (hl : evs.length + 1 ≤ 12) : Wf (evs ++ [e]) := by
  refine ⟨by rw [List.length_append]; exact hl, fun pre x post h => ?_⟩
  rcases List.eq_nil_or_concat post with rfl | ⟨post', y, rfl⟩
  · obtain ⟨h1, h2⟩ := List.append_inj' h rfl
    rw [← h1]
    cases h2
    exact ok
  · rw [List.concat_eq_append, ← List.cons_append, ← List.append_assoc] at h
    obtain ⟨h1, _⟩ := List.append_inj' h rfl
    exact wf.ok pre x post' h1
theorem erase_map {α β : Type} (f : α → β) : ∀ (l : List α) (k : Nat), (l.map f).eraseIdx k = (l.eraseIdx k).map f
  | [], k => by simp
  | x :: l, 0 => rfl
  | x :: l, k + 1 => by
    rw [List.map_cons, List.eraseIdx_cons_succ, List.eraseIdx_cons_succ, List.map_cons, erase_map f l k]
theorem perm_pop {α : Type} : ∀ {l : List α} {k : Nat} {x : α}, l[k]? = some x → (x :: l.eraseIdx k).Perm l
  | [], k, x, h => by simp at h
  | y :: l, 0, x, h => by
    simp only [List.getElem?_cons_zero, Option.some.injEq] at h
    rw [h]; exact .refl _
  | y :: l, k + 1, x, h => by
    simp only [List.getElem?_cons_succ] at h
    rw [List.eraseIdx_cons_succ]
    exact (List.Perm.swap y x _).trans ((perm_pop h).cons y)
theorem perm_move {α : Type} {a l m : List α} {k : Nat} {x : α} (h : l[k]? = some x) (p : (a ++ l).Perm m) : ((a ++ [x]) ++ l.eraseIdx k).Perm m := by
  rw [List.append_assoc]
  exact (List.Perm.append_left a (perm_pop h)).trans p
theorem range_eq (m : Nat) : rangeD 0 m = (List.range m).map fun i : Nat => D.int (i : Nat) := by
  unfold rangeD
  refine List.map_congr_left fun i _ => ?_
  rw [Int.zero_add]
theorem range_pos {m : Nat} {pre post : List Nat} {q : Nat} (h : List.range m = pre ++ q :: post) : q = pre.length ∧ pre.length < m := by
  have h1 : (List.range m)[pre.length]? = some q := by rw [h]; simp
  have h2 := (List.getElem?_eq_some_iff.mp h1).1
  rw [List.length_range] at h2
  rw [List.getElem?_range h2] at h1
  exact ⟨(Option.some.inj h1).symm, h2⟩
end K21
set_option maxHeartbeats 1000000
namespace K21
open PySem PySem.Spec PyProof.Rows L2 Ax DL
theorem hl_Order_key_of : ∀ ds Φ, S_Order_key_of ds Φ → ds.length = 3 := by rintro ds Φ ⟨_, _, _, _, _, _, rfl, _⟩; rfl
theorem hB_Order_key_of : ∀ ds Φ, S_Order_key_of ds Φ → B_Order_key_of ⟨startD n_Order_key_of ds, 0⟩ (retD Φ) := by
  rintro ds Φ ⟨evs, p, e, ks, vs, acc, rfl, wf, hp, hg, h⟩
  have me := List.mem_of_getElem? hp
  obtain ⟨pre, ok⟩ := wf.at_ me
  refine gs_seq (gs_set (d := ndD e) (.fld (d := ndD e) (.meth (d := evI e) (.name rfl) rfl (by decide) (.one (.name rfl)) rfl fun Φ q => ⟨evs, p, e, rfl, wf, hp, q⟩) rfl rfl) rfl ?_)
  dsimp only [Stt.put, List.set]
  have lc1 : Ev (gLc (giSeq (DL.gName 3)) (tgName 4) gYes (gInC false (DL.gName 4) (DL.gName 2)) [4]) ⟨[some (.val (orD evs)), some (.val (.str e.nm)), some (.val (.dic ks vs)), some (.val (ndD e)), none], 0⟩ (.new (e.nd.map fun x => D.bl (valF acc x).isSome)) := by
    refine .lcA (xs := e.nd) (dOf := D.str) (.seq (.name rfl) rfl (nd_items e)) rfl (by have := ok.len; omega) fun x hx => ?_
    refine ⟨⟨[some (.val (orD evs)), some (.val (.str e.nm)), some (.val (.dic ks vs)), some (.val (ndD e)), some (.val (.str x))], 0⟩, rfl, rfl, .dat (.bl (valF acc x).isSome), ?_, rfl⟩
    have := Ev.inC (neg := false) (k := .inr x) (g1 := DL.gName 4) (g2 := DL.gName 2) (s := ⟨[some (.val (orD evs)), some (.val (.str e.nm)), some (.val (.dic ks vs)), some (.val (ndD e)), some (.val (.str x))], 0⟩) (kvs := ks.zip vs) (.name rfl) (.name rfl) rfl rfl
    rw [hg x hx, Option.isSome_map] at this
    exact this
  have a1 : fAll [.lst (e.nd.map fun x => D.bl (valF acc x).isSome)] = some (.dat (.bl (e.nd.all fun x => (valF acc x).isSome))) := all_bl e.nd fun x => (valF acc x).isSome
  cases c : e.nd.all fun x => (valF acc x).isSome with
  | false =>
    rw [c] at a1
    have hk : keyF acc e.nd = none := by unfold keyF; rw [c]; rfl
    rw [hk] at h
    exact gs_seq (gs_ifT (.of (.not (.v (.cl (.one lc1) rfl a1) rfl)) rfl) (gs_ret .dt ⟨_, _, rfl, h⟩))
  | true =>
    rw [c] at a1
    have hk : keyF acc e.nd = some (e.nd.map fun x => (valF acc x).getD 0) := by unfold keyF; rw [c]; rfl
    rw [hk] at h
    refine gs_seq (gs_ifF (.of (.not (.v (.cl (.one lc1) rfl a1) rfl)) rfl) (gs_nil ?_))
    dsimp only
    have lc2 : Ev (gLc (giSeq (DL.gName 3)) (tgName 4) gYes (gIxC (DL.gName 2) (DL.gName 4)) [4]) ⟨[some (.val (orD evs)), some (.val (.str e.nm)), some (.val (.dic ks vs)), some (.val (ndD e)), none], 0⟩ (.new (e.nd.map fun x => D.int ((valF acc x).getD 0))) := by
      refine .lcA (xs := e.nd) (dOf := D.str) (.seq (.name rfl) rfl (nd_items e)) rfl (by have := ok.len; omega) fun x hx => ?_
      have hs := List.all_eq_true.mp c x hx
      have hv : getC (ks.zip vs) (.inr x) = some (.int ((valF acc x).getD 0)) := by
        rw [hg x hx]
        cases q : valF acc x with
        | none => rw [q] at hs; cases hs
        | some v => rfl
      exact ⟨⟨[some (.val (orD evs)), some (.val (.str e.nm)), some (.val (.dic ks vs)), some (.val (ndD e)), some (.val (.str x))], 0⟩, rfl, rfl, .dat (.int ((valF acc x).getD 0)), .ixC (k := .inr x) (.name rfl) (.name rfl) rfl rfl hv, rfl⟩
    refine gs_ret (w := .dat (kD (e.nd.map fun x => (valF acc x).getD 0))) (.cl (.one lc2) rfl ?_) ⟨_, _, rfl, h⟩
    show some (W.dat (.tup (e.nd.map fun x => D.int ((valF acc x).getD 0)))) = _
    unfold kD
    rw [List.map_map]
    rfl
/-! ### tables -/
theorem findV_at {pre post : List E} {e : E} {n : Str} {k : List Int} (hp : ∀ x ∈ pre, hd x ≠ (n, k)) (h : hd e = (n, k)) : findV (pre ++ e :: post) n k = some e.2.2 := by
  unfold findV
  rw [List.find?_append, List.find?_eq_none.mpr fun x hx => by simpa using hp x hx, Option.none_or, List.find?_cons_of_pos (by simpa using h)]
  rfl
theorem findV_none {t : List E} {n : Str} {k : List Int} (hp : ∀ x ∈ t, hd x ≠ (n, k)) : findV t n k = none := by
  unfold findV
  rw [List.find?_eq_none.mpr fun x hx => by simpa using hp x hx]
  rfl
theorem ent_body {t : List E} {n : Str} {k : List Int} {Φ : D → Prop} (ok : TabOk t) (hn : strK n = true) (h : Φ (intD (findV t n k))) : B_entry_value ⟨[some (.val (.tup (t.map eD))), some (.val (.str n)), some (.val (kD k)), none], 0⟩ (retD Φ) := by
  refine gs_seq (gs_forL (L := t) (dOf := eD) (fun pre s => (∀ x ∈ pre, hd x ≠ (n, k)) ∧ ∃ x3, s = ⟨[some (.val (.tup (t.map eD))), some (.val (.str n)), some (.val (kD k)), x3], 0⟩) (.seq (.name rfl) rfl rfl) rfl ⟨fun x hx => (by cases hx), none, rfl⟩ ?_ ?_)
  · rintro pre e post s De' eL ⟨hpre, x3, rfl⟩ hrt _ hnx _
    refine ⟨⟨[some (.val (.tup (t.map eD))), some (.val (.str n)), some (.val (kD k)), some (.val (eD e))], 0⟩, rfl, ?_⟩
    have se := ok.str e (by rw [eL]; simp)
    refine gs_if (k := decide (e.1 = n) && decide (e.2.1 = k)) (.and (.v (.bin (w := .dat (.bl (decide (e.1 = n)))) (.bin (w := .dat (.str e.1)) (.name (d := eD e) rfl) .dt rfl rfl rfl) (.name rfl) rfl rfl (eq_str se hn)) rfl) fun _ => .v (.bin (w := .dat (.bl (decide (e.2.1 = k)))) (.bin (w := .dat (kD e.2.1)) (.name (d := eD e) rfl) .dt rfl rfl rfl) (.name rfl) rfl rfl (eq_k _ _)) rfl) (fun c => ?_) fun c => gs_nil (hnx _ ⟨fun x hx => ?_, _, rfl⟩)
    · have c' : e.1 = n ∧ e.2.1 = k := by simpa using c
      refine gs_ret (w := .dat (.int e.2.2)) (.bin (.name (d := eD e) rfl) .dt rfl rfl rfl) ?_
      rw [hrt]
      refine ⟨_, _, rfl, ?_⟩
      rw [eL, findV_at hpre (by show (e.1, e.2.1) = _; rw [c'.1, c'.2])] at h
      exact h
    · rcases List.mem_append.mp hx with q | q
      · exact hpre x q
      · rw [List.mem_singleton.mp q]
        intro z
        have z1 : e.1 = n := congrArg (·.1) z
        have z2 : e.2.1 = k := congrArg (·.2) z
        rw [decide_eq_true z1, decide_eq_true z2] at c
        cases c
  · rintro s ⟨hp, x3, rfl⟩
    dsimp only
    rw [findV_none hp] at h
    exact gs_ret .dt ⟨_, _, rfl, h⟩
theorem hl_entry_value : ∀ ds Φ, S_entry_value ds Φ → ds.length = 3 := by rintro ds Φ ⟨_, _, _, rfl, _⟩; rfl
theorem hB_entry_value : ∀ ds Φ, S_entry_value ds Φ → B_entry_value ⟨startD n_entry_value ds, 0⟩ (retD Φ) := by
  rintro ds Φ ⟨t, n, k, rfl, ok, hn, h⟩
  exact ent_body ok hn h
theorem hl_law_find : ∀ ds Φ, S_law_find ds Φ → ds.length = 3 := by rintro ds Φ ⟨_, _, _, rfl, _⟩; rfl
theorem hB_law_find : ∀ ds Φ, S_law_find ds Φ → B_law_find ⟨startD n_law_find ds, 0⟩ (retD Φ) := by
  rintro ds Φ ⟨t, n, k, rfl, ok, hn, h⟩
  exact ent_body ok hn h
theorem isNon_int (o : Option Int) : isNonD (intD o) = !o.isSome := by cases o <;> rfl
theorem hl_with_answer : ∀ ds Φ, S_with_answer ds Φ → ds.length = 4 := by rintro ds Φ ⟨_, _, rfl, _⟩; rfl
theorem hB_with_answer : ∀ ds Φ, S_with_answer ds Φ → B_with_answer ⟨startD n_with_answer ds, 0⟩ (retD Φ) := by
  rintro ds Φ ⟨t, e, rfl, ok, hn, h⟩
  have c : EvB (gTv (gNotN (gCall S_entry_value [] (gaCons (DL.gName 0) (gaCons (DL.gName 1) (gaCons (DL.gName 2) gaNil)))))) ⟨startD n_with_answer [.tup (t.map eD), .str e.1, kD e.2.1, .int e.2.2], 0⟩ (!isNonD (intD (findV t e.1 e.2.1))) := .v (.notN (.call (d := intD (findV t e.1 e.2.1)) (.cons (.name rfl) (.cons (.name rfl) (.one (.name rfl)))) rfl fun Φ q => ⟨t, e.1, e.2.1, rfl, ok, hn, q⟩) rfl) rfl
  rw [isNon_int, Bool.not_not] at c
  unfold withF at h
  cases q : (findV t e.1 e.2.1).isSome with
  | true =>
    rw [q] at c h
    exact gs_seq (gs_ifT c (gs_ret (.name rfl) ⟨_, _, rfl, h⟩))
  | false =>
    rw [q] at c h
    refine gs_seq (gs_ifF c (gs_nil ?_))
    dsimp only
    have h : Φ (.tup ((sortE (t ++ [e])).map eD)) := h
    have ha : Ev (DL.gLst (gaStar (DL.gName 0) (gaCons (DL.gTup (gaCons (DL.gName 1) (gaCons (DL.gName 2) (gaCons (DL.gName 3) gaNil)))) gaNil))) ⟨startD n_with_answer [.tup (t.map eD), .str e.1, kD e.2.1, .int e.2.2], 0⟩ (.new ((t ++ [e]).map eD)) := by
      have : (t ++ [e]).map eD = t.map eD ++ [eD e] := by rw [List.map_append]; rfl
      rw [this]
      refine .lst (.star (.name rfl) rfl rfl (.one (.tup (ds := [.str e.1, kD e.2.1, .int e.2.2]) (.cons (.name rfl) (.cons (.name rfl) (.one (.name rfl)))) rfl (Nat.le_of_ble_eq_true rfl)))) ?_ ?_
      · have := frzA_dats (t.map eD ++ [eD e]) ⟨startD n_with_answer [.tup (t.map eD), .str e.1, kD e.2.1, .int e.2.2], 0⟩
        rw [List.map_append] at this
        exact this
      · rw [List.length_append, List.length_map, List.length_map]
        have := ok.len
        show _ + 1 ≤ 1000
        omega
    have so := Ev.sorted (EvA.one ha) rfl (okS_e _)
    rw [sortD_e] at so
    exact gs_ret (w := .dat (.tup ((sortE (t ++ [e])).map eD))) (.cl (.one so) rfl rfl) ⟨_, _, rfl, h⟩
theorem hl_law_put : ∀ ds Φ, S_law_put ds Φ → ds.length = 2 := by rintro ds Φ ⟨_, _, rfl, _⟩; rfl
theorem hB_law_put : ∀ ds Φ, S_law_put ds Φ → B_law_put ⟨startD n_law_put ds, 0⟩ (retD Φ) := by
  rintro ds Φ ⟨t, e, rfl, ok, hn, h⟩
  have e0 : Ev (gBin fIx (DL.gName 1) (gDat (.int 0))) ⟨startD n_law_put [.tup (t.map eD), eD e], 0⟩ (.dat (.str e.1)) := .bin (.name (d := eD e) rfl) .dt rfl rfl rfl
  have e1 : Ev (gBin fIx (DL.gName 1) (gDat (.int 1))) ⟨startD n_law_put [.tup (t.map eD), eD e], 0⟩ (.dat (kD e.2.1)) := .bin (.name (d := eD e) rfl) .dt rfl rfl rfl
  have c : EvB (gTv (gNotN (gCall S_law_find [] (gaCons (DL.gName 0) (gaCons (gBin fIx (DL.gName 1) (gDat (.int 0))) (gaCons (gBin fIx (DL.gName 1) (gDat (.int 1))) gaNil)))))) ⟨startD n_law_put [.tup (t.map eD), eD e], 0⟩ (!isNonD (intD (findV t e.1 e.2.1))) := .v (.notN (.call (d := intD (findV t e.1 e.2.1)) (.cons (.name rfl) (.cons e0 (.one e1))) rfl fun Φ q => ⟨t, e.1, e.2.1, rfl, ok, hn, q⟩) rfl) rfl
  rw [isNon_int, Bool.not_not] at c
  unfold withF at h
  cases q : (findV t e.1 e.2.1).isSome with
  | true =>
    rw [q] at c h
    exact gs_seq (gs_ifT c (gs_ret (.name rfl) ⟨_, _, rfl, h⟩))
  | false =>
    rw [q] at c h
    refine gs_seq (gs_ifF c (gs_nil ?_))
    dsimp only
    have h : Φ (.tup ((sortE (t ++ [e])).map eD)) := h
    have ha : Ev (gBin fAdd (gCl fList (gaCons (DL.gName 0) gaNil)) (gLst (gaCons (DL.gName 1) gaNil))) ⟨startD n_law_put [.tup (t.map eD), eD e], 0⟩ (.new ((t ++ [e]).map eD)) := by
      have : (t ++ [e]).map eD = t.map eD ++ [eD e] := by rw [List.map_append]; rfl
      rw [this]
      exact .bin (.cl (w := .new (t.map eD)) (.one (.name (d := .tup (t.map eD)) rfl)) rfl rfl) (.lst (ds := [eD e]) (.one (.name rfl)) rfl (Nat.le_of_ble_eq_true rfl)) rfl rfl (add_lst (by rw [List.length_map]; have := ok.len; show _ + 1 ≤ _; omega))
    have so := Ev.sorted (EvA.one ha) rfl (okS_e _)
    rw [sortD_e] at so
    exact gs_ret (w := .dat (.tup ((sortE (t ++ [e])).map eD))) (.cl (.one so) rfl rfl) ⟨_, _, rfl, h⟩
/-! ### entries -/
theorem hl_law_is_whole : ∀ ds Φ, S_law_is_whole ds Φ → ds.length = 1 := by rintro ds Φ ⟨_, rfl, _⟩; rfl
theorem hB_law_is_whole : ∀ ds Φ, S_law_is_whole ds Φ → B_law_is_whole ⟨startD n_law_is_whole ds, 0⟩ (retD Φ) := by
  rintro ds Φ ⟨i, rfl, h⟩
  exact gs_ret (.and (b1 := true) (b2 := true) (.isi (d := .int i) (.name rfl) rfl (isi_int rfl)) rfl fun _ => ⟨.not (b1 := false) (.isi (d := .int i) (.name rfl) rfl (isi_bool rfl)) rfl, rfl, rfl⟩) ⟨_, _, rfl, h⟩
theorem all_true {α : Type} (l : List α) : fAll [.lst (l.map fun _ => D.bl true)] = some (.dat (.bl true)) := by
  have : fAll [.lst (l.map fun _ => D.bl true)] = some (.dat (.bl (l.all fun _ => true))) := all_bl l fun _ => true
  refine this.trans ?_
  rw [List.all_eq_true.mpr fun _ _ => rfl]
theorem hl_law_is_entry : ∀ ds Φ, S_law_is_entry ds Φ → ds.length = 1 := by rintro ds Φ ⟨_, rfl, _⟩; rfl
theorem hB_law_is_entry : ∀ ds Φ, S_law_is_entry ds Φ → B_law_is_entry ⟨startD n_law_is_entry ds, 0⟩ (retD Φ) := by
  rintro ds Φ ⟨e, rfl, hl, h⟩
  have ix : ∀ (i : Int) (d : D), fIx (eD e) (.int i) = some (.dat d) → Ev (gBin fIx (DL.gName 0) (gDat (.int i))) ⟨startD n_law_is_entry [eD e], 0⟩ (.dat d) := fun i d q => .bin (.name (d := eD e) rfl) .dt rfl rfl q
  refine gs_seq (gs_ifF (.or (b1 := false) (b2 := false) (.of (.not (.v (.isi (d := eD e) (b := true) (.name rfl) rfl rfl) rfl)) rfl) fun _ => .or (b1 := false) (b2 := false) (.v (.bin (w := .dat (.bl false)) (.cl (w := .dat (.int 3)) (.one (.name (d := eD e) rfl)) rfl rfl) .dt rfl rfl rfl) rfl) fun _ => .of (.not (.v (.isi (d := .str e.1) (b := true) (ix 0 (.str e.1) rfl) rfl rfl) rfl)) rfl) (gs_nil ?_))
  dsimp only
  refine gs_seq (gs_ifF (.or (b1 := false) (b2 := false) (.of (.not (.v (.isi (d := kD e.2.1) (b := true) (ix 1 (kD e.2.1) rfl) rfl rfl) rfl)) rfl) fun _ => .of (.not (.v (.call (d := .bl true) (.one (ix 2 (.int e.2.2) rfl)) rfl fun Φ q => ⟨e.2.2, rfl, q⟩) rfl)) rfl) (gs_nil ?_))
  dsimp only
  have lc : Ev (gLc (giSeq (gBin fIx (DL.gName 0) (gDat (.int 1)))) (tgName 1) gYes (gCall S_law_is_whole [] (gaCons (DL.gName 1) gaNil)) [1]) ⟨startD n_law_is_entry [eD e], 0⟩ (.new (e.2.1.map fun _ => D.bl true)) := by
    refine .lcA (xs := e.2.1) (dOf := D.int) (.seq (d := kD e.2.1) (ix 1 (kD e.2.1) rfl) rfl rfl) rfl (by omega) fun x hx => ?_
    exact ⟨⟨[some (.val (eD e)), some (.val (.int x))], 0⟩, rfl, rfl, _, .call (.one (.name rfl)) rfl fun Φ q => ⟨x, rfl, q⟩, rfl⟩
  exact gs_ret (w := .dat (.bl true)) (.cl (.one lc) rfl (all_true _)) ⟨_, _, rfl, h⟩
theorem hl_law_are_entries : ∀ ds Φ, S_law_are_entries ds Φ → ds.length = 1 := by rintro ds Φ ⟨_, rfl, _⟩; rfl
theorem hB_law_are_entries : ∀ ds Φ, S_law_are_entries ds Φ → B_law_are_entries ⟨startD n_law_are_entries ds, 0⟩ (retD Φ) := by
  rintro ds Φ ⟨es, rfl, hl, hk, h⟩
  have lc : Ev (gLc (giSeq (DL.gName 0)) (tgName 1) gYes (gCall S_law_is_entry [] (gaCons (DL.gName 1) gaNil)) [1]) ⟨[some (.val (runD es)), none], 0⟩ (.new (es.map fun _ => D.bl true)) := by
    refine .lcA (xs := es) (dOf := eD) (.seq (.name rfl) rfl rfl) rfl (by omega) fun x hx => ?_
    exact ⟨⟨[some (.val (runD es)), some (.val (eD x))], 0⟩, rfl, rfl, _, .call (.one (.name rfl)) rfl fun Φ q => ⟨x, rfl, hk x hx, q⟩, rfl⟩
  exact gs_ret (.and (b1 := true) (b2 := true) (.isi (d := runD es) (b := true) (.name rfl) rfl rfl) rfl fun _ => ⟨.cl (.one lc) rfl (all_true _), rfl, rfl⟩) ⟨_, _, rfl, h⟩
end K21
set_option maxHeartbeats 1000000
namespace K21
open PySem PySem.Spec PyProof.Rows L2 Ax DL
abbrev envA (acc : List E) : List (L2.Key × D) := acc.map fun r => (.inr r.1, .int r.2.2)
theorem envA_get (acc : List E) (x : Str) : getC (envA acc) (.inr x) = (valF acc x).map D.int := by
  induction acc with
  | nil => rfl
  | cons r acc ih =>
    unfold getC valF at *
    rw [envA, List.map_cons]
    by_cases c : r.1 = x
    · rw [List.find?_cons_of_pos (by exact decide_eq_true (by rw [c])), List.find?_cons_of_pos (by exact decide_eq_true c)]
      rfl
    · rw [List.find?_cons_of_neg (by exact fun z => c (Sum.inr.inj (of_decide_eq_true z))), List.find?_cons_of_neg (by exact fun z => c (of_decide_eq_true z))]
      exact ih
theorem envA_put {acc : List E} {n : Str} {k : List Int} {v : Int} (h : n ∉ acc.map (·.1)) : putC (envA acc) (.inr n) (.int v) = envA (acc ++ [(n, k, v)]) := by
  rw [putC_new fun p hp z => by
    obtain ⟨a, ha, rfl⟩ := List.mem_map.mp hp
    exact h (List.mem_map.mpr ⟨a, ha, Sum.inr.inj z⟩)]
  simp [envA]
theorem play_snoc (T : TB) (pre : List Evt) (e : Evt) : playF T (pre ++ [e]) = stepP T (playF T pre) e := by
  unfold playF
  rw [List.foldl_append]
  rfl
theorem walk_snoc (T : TB) (pre : List Evt) (e : Evt) : walkF T (pre ++ [e]) = stepW T (walkF T pre) e := by
  unfold walkF
  rw [List.foldl_append]
  rfl
theorem step_mem {T : TB} {acc : List E} {e : Evt} {r : E} (h : r ∈ stepP T acc e) : r ∈ acc ∨ r.1 = e.nm := by
  unfold stepP at h
  split at h
  · exact .inl h
  · split at h
    · exact .inl h
    · rcases List.mem_append.mp h with h | h
      · exact .inl h
      · rw [List.mem_singleton.mp h]; exact .inr rfl
theorem step_len {T : TB} {acc : List E} {e : Evt} : (stepP T acc e).length ≤ acc.length + 1 := by
  unfold stepP
  split
  · omega
  · split
    · omega
    · rw [List.length_append]; exact Nat.le_refl _
theorem play_all {T : TB} : ∀ (post pre : List Evt), (∀ r ∈ playF T pre, r.1 ∈ pre.map Evt.nm) ∧ (playF T pre).length ≤ pre.length → (∀ r ∈ playF T (pre ++ post), r.1 ∈ (pre ++ post).map Evt.nm) ∧ (playF T (pre ++ post)).length ≤ (pre ++ post).length
  | [], pre, h => by rw [List.append_nil]; exact h
  | e :: post, pre, h => by
    have := play_all post (pre ++ [e]) (by
      rw [play_snoc]
      refine ⟨fun r hr => ?_, ?_⟩
      · rw [List.map_append]
        rcases step_mem hr with q | q
        · exact List.mem_append_left _ (h.1 r q)
        · exact List.mem_append_right _ (by rw [q]; exact List.mem_singleton.mpr rfl)
      · have := step_len (T := T) (acc := playF T pre) (e := e)
        rw [List.length_append]
        show _ ≤ pre.length + 1
        omega)
    rw [List.append_assoc] at this
    exact this
theorem play_nm {T : TB} {evs : List Evt} : ∀ r ∈ playF T evs, r.1 ∈ evs.map Evt.nm := (play_all evs [] ⟨fun _ h => (by cases h), Nat.le_refl _⟩).1
theorem play_len (T : TB) (evs : List Evt) : (playF T evs).length ≤ evs.length := (play_all evs [] ⟨fun _ h => (by cases h), Nat.le_refl _⟩).2
theorem tb_zip (T : TB) : (T.map fun p => (.inl p.1 : L2.Key)).zip (T.map fun p => D.tup (p.2.map eD)) = tbL T := by rw [List.zip_map']
theorem tb_cases (T : TB) (en : Int) : (getC (tbL T) (.inl en) = none ∧ tabT T en = []) ∨ getC (tbL T) (.inl en) = some (.tup ((tabT T en).map eD)) := by
  induction T with
  | nil => exact .inl ⟨rfl, rfl⟩
  | cons p T ih =>
    unfold getC tabT at *
    rw [tbL, List.map_cons]
    by_cases c : p.1 = en
    · right
      rw [List.find?_cons_of_pos (by exact decide_eq_true (by rw [c])), List.find?_cons_of_pos (by exact decide_eq_true c)]
      rfl
    · rw [List.find?_cons_of_neg (by exact fun z => c (Sum.inl.inj (of_decide_eq_true z))), List.find?_cons_of_neg (by exact fun z => c (of_decide_eq_true z))]
      exact ih
theorem tab_ok {T : TB} (h : TbOk T) (en : Int) : TabOk (tabT T en) := by
  unfold tabT
  split
  · rename_i p e
    exact h p (List.mem_of_find?_eq_some e)
  · exact ⟨by decide, fun _ h => (by cases h)⟩
theorem flat_keyO (o : Option (List Int)) : flatT (keyO o) = true := by
  cases o with
  | none => rfl
  | some k => exact flat_kD k
abbrev pS (evs : List Evt) (T : TB) (acc : List E) (x4 x5 x6 : Option En) : Stt := ⟨[some (.val (orD evs)), some (.val (tbD T)), some (.dck (envA acc)), some (.own (acc.map eD)), x4, x5, x6], 0⟩
theorem hl_play : ∀ ds Φ, S_play ds Φ → ds.length = 2 := by rintro ds Φ ⟨_, _, rfl, _⟩; rfl
theorem hB_play : ∀ ds Φ, S_play ds Φ → B_play ⟨startD n_play ds, 0⟩ (retD Φ) := by
  rintro ds Φ ⟨evs, T, rfl, wf, ok, h⟩
  refine gs_seq (gs_dck ?_)
  dsimp only [Stt.put]
  refine gs_seq (gs_own (ds := []) (.lst .nil rfl (by decide)) ?_)
  dsimp only [Stt.put]
  refine gs_seq (gs_forL (L := evs) (dOf := evI) (fun pre s => ∃ x4 x5 x6, s = pS evs T (playF T pre) x4 x5 x6) (.own (d := .tup (evs.map evI)) (.name rfl) rfl rfl rfl) rfl ⟨none, none, none, rfl⟩ ?_ ?_)
  · rintro pre e post s De' eL ⟨x4, x5, x6, rfl⟩ _ _ hnx hct
    refine ⟨pS evs T (playF T pre) (some (.val (evI e))) x5 x6, rfl, ?_⟩
    have oke := wf.ok pre e post eL
    have me : e ∈ evs := by rw [eL]; simp
    have hpl : (playF T pre).length ≤ 12 := by
      have := wf.len
      have := play_len T pre
      rw [eL, List.length_append] at *
      omega
    have hnew : e.nm ∉ (playF T pre).map (·.1) := fun z => by
      obtain ⟨r, hr, er⟩ := List.mem_map.mp z
      exact oke.new (er ▸ play_nm r hr)
    rw [play_snoc] at hnx hct
    unfold stepP at hnx hct
    refine gs_seq (gs_set (d := keyO (keyF (playF T pre) e.nd)) (.methP (d := keyO (keyF (playF T pre) e.nd)) (.name rfl) rfl (by decide) (.cons (.fld (d := .str e.nm) (.name rfl) rfl rfl) (.one (nmC rfl))) rfl (fun Φ q => ⟨evs, pre.length, e, _, _, playF T pre, rfl, wf, pos_of eL, fun x hx => by rw [zip_fs]; exact envA_get _ _, q⟩) (flat_keyO _)) rfl ?_)
    dsimp only [Stt.put, List.set]
    have c : EvB (gTv (gIsN (DL.gName 5))) (pS evs T (playF T pre) (some (.val (evI e))) (some (.val (keyO (keyF (playF T pre) e.nd)))) x6) (isNonD (keyO (keyF (playF T pre) e.nd))) := .v (.isN (.name rfl) rfl) rfl
    cases hk : keyF (playF T pre) e.nd with
    | none =>
      rw [hk] at c hct
      exact gs_seq (gs_ifT c (hct _ ⟨_, _, _, rfl⟩))
    | some k =>
      rw [hk] at c hnx
      refine gs_seq (gs_ifF c (gs_nil ?_))
      have gt : Ev (gGetC (DL.gName 1) (gFld "Event" "end" (DL.gName 4)) (DL.gTup gaNil)) (pS evs T (playF T pre) (some (.val (evI e))) (some (.val (kD k))) x6) (.dat (.tup ((tabT T e.en).map eD))) := by
        have := Ev.getC (s := pS evs T (playF T pre) (some (.val (evI e))) (some (.val (kD k))) x6) (k := .inl e.en) (d := .tup []) (kvs := tbL T) (g1 := DL.gName 1) (g2 := gFld "Event" "end" (DL.gName 4)) (g3 := DL.gTup gaNil) (.name rfl) (.fld (d := .int e.en) (.name rfl) rfl rfl) (.tup .nil rfl (by decide)) (congrArg some (tb_zip T)) rfl rfl
        rcases tb_cases T e.en with ⟨q1, q2⟩ | q1
        · rw [q1] at this; rw [q2]; exact this
        · rw [q1] at this; exact this
      dsimp only
      refine gs_seq (gs_set (d := intD (findV (tabT T e.en) e.nm k)) (.call (.cons gt (.cons (.fld (d := .str e.nm) (.name rfl) rfl rfl) (.one (.name rfl)))) rfl fun Φ q => ⟨tabT T e.en, e.nm, k, rfl, tab_ok ok _, wf.str e me, q⟩) rfl ?_)
      dsimp only [Stt.put, List.set]
      have c2 : EvB (gTv (gNotN (DL.gName 6))) (pS evs T (playF T pre) (some (.val (evI e))) (some (.val (kD k))) (some (.val (intD (findV (tabT T e.en) e.nm k))))) (!isNonD (intD (findV (tabT T e.en) e.nm k))) := .v (.notN (.name rfl) rfl) rfl
      rw [isNon_int, Bool.not_not] at c2
      cases hv : findV (tabT T e.en) e.nm k with
      | none =>
        rw [hv] at c2
        simp only [hv] at hnx
        exact gs_ifF c2 (gs_nil (hnx _ ⟨_, _, _, rfl⟩))
      | some v =>
        rw [hv] at c2
        simp only [hv] at hnx
        refine gs_ifT c2 (gs_seq (gs_putC (k := .inr e.nm) (d := .int v) rfl (.name rfl) rfl (.fld (d := .str e.nm) (.name rfl) rfl rfl) rfl (by rw [List.length_map]; omega) ?_))
        rw [envA_put (k := k) hnew]
        dsimp only [Stt.put, List.set]
        refine gs_app (ds := (playF T pre).map eD) (d := eD (e.nm, k, v)) rfl (.tup (.cons (.fld (d := .str e.nm) (.name rfl) rfl rfl) (.cons (.name rfl) (.one (.name rfl)))) rfl (Nat.le_of_ble_eq_true rfl)) rfl (by rw [List.length_map]; omega) (hnx _ ⟨some (.val (evI e)), some (.val (kD k)), some (.val (.int v)), ?_⟩)
        have : (playF T pre).map eD ++ [eD (e.nm, k, v)] = (playF T pre ++ [(e.nm, k, v)]).map eD := by rw [List.map_append]; rfl
        rw [this]
        rfl
  · rintro s ⟨x4, x5, x6, rfl⟩
    dsimp only
    exact gs_ret (w := .dat (runD (playF T evs))) (.cl (.one (.nameO rfl)) rfl rfl) ⟨_, _, rfl, h⟩
/-! ### the law's own walk -/
theorem accW_app (a b : List WE) : accW (a ++ b) = accW a ++ accW b := by unfold accW; exact List.filterMap_append
theorem accW_step (T : TB) (F : List WE) (e : Evt) : accW (stepW T F e) = stepP T (accW F) e := by
  unfold stepW stepP
  cases keyF (accW F) e.nd with
  | none => rfl
  | some k =>
    rw [accW_app]
    cases h : findV (tabT T e.en) e.nm k with
    | none => simp [accW, h]
    | some v => simp [accW, h]
theorem accW_walk (T : TB) (evs : List Evt) : accW (walkF T evs) = playF T evs := by
  have key : ∀ (post pre : List Evt), accW (walkF T pre) = playF T pre → accW (walkF T (pre ++ post)) = playF T (pre ++ post) := by
    intro post
    induction post with
    | nil => intro pre h; rw [List.append_nil]; exact h
    | cons e post ih =>
      intro pre h
      have := ih (pre ++ [e]) (by rw [walk_snoc, play_snoc, accW_step, h])
      rw [List.append_assoc] at this
      exact this
  exact key evs [] rfl
theorem stepW_len (T : TB) (F : List WE) (e : Evt) : (stepW T F e).length ≤ F.length + 1 := by
  unfold stepW
  split
  · omega
  · rw [List.length_append]; exact Nat.le_refl _
theorem walk_len (T : TB) (evs : List Evt) : (walkF T evs).length ≤ evs.length := by
  have key : ∀ (post pre : List Evt), (walkF T pre).length ≤ pre.length → (walkF T (pre ++ post)).length ≤ (pre ++ post).length := by
    intro post
    induction post with
    | nil => intro pre h; rw [List.append_nil]; exact h
    | cons e post ih =>
      intro pre h
      have := ih (pre ++ [e]) (by
        rw [walk_snoc, List.length_append]
        have := stepW_len T (walkF T pre) e
        show _ ≤ pre.length + 1
        omega)
      rw [List.append_assoc] at this
      exact this
  exact key evs [] (Nat.le_refl _)
abbrev wS (evs : List Evt) (T : TB) (acc : List E) (F : List WE) (x4 x5 x6 x7 x8 x9 : Option En) (x10 : Option En) : Stt := ⟨[some (.val (.lst (evs.map evT))), some (.val (tbD T)), some (.dck (envA acc)), some (.own (F.map wkD)), x4, x5, x6, x7, x8, x9, x10], 0⟩
theorem hl_law_walk : ∀ ds Φ, S_law_walk ds Φ → ds.length = 2 := by rintro ds Φ ⟨_, _, rfl, _⟩; rfl
theorem hB_law_walk : ∀ ds Φ, S_law_walk ds Φ → B_law_walk ⟨startD n_law_walk ds, 0⟩ (retD Φ) := by
  rintro ds Φ ⟨evs, T, rfl, wf, ok, h⟩
  refine gs_seq (gs_dck ?_)
  dsimp only [Stt.put]
  refine gs_seq (gs_own (ds := []) (.lst .nil rfl (by decide)) ?_)
  dsimp only [Stt.put]
  refine gs_seq (gs_forL (L := evs) (dOf := evT) (fun pre s => ∃ x4 x5 x6 x7 x8 x9, s = wS evs T (playF T pre) (walkF T pre) x4 x5 x6 x7 x8 x9 none) (.seq (.name rfl) rfl rfl) rfl ⟨none, none, none, none, none, none, rfl⟩ ?_ ?_)
  · rintro pre e post s De' eL ⟨x4, x5, x6, x7, x8, x9, rfl⟩ _ _ hnx _
    refine ⟨wS evs T (playF T pre) (walkF T pre) (some (.val (.str e.nm))) (some (.val (.int e.en))) (some (.val (.str e.kn))) (some (.val (ndD e))) x8 x9 none, rfl, ?_⟩
    have oke := wf.ok pre e post eL
    have me : e ∈ evs := by rw [eL]; simp
    have hpl : pre.length ≤ 12 := by
      have := wf.len
      rw [eL, List.length_append] at this
      omega
    have hpp := play_len T pre
    have hww := walk_len T pre
    have hnew : e.nm ∉ (playF T pre).map (·.1) := fun z => by
      obtain ⟨r, hr, er⟩ := List.mem_map.mp z
      exact oke.new (er ▸ play_nm r hr)
    have lc1 : Ev (gLc (giSeq (DL.gName 7)) (tgName 10) gYes (gInC false (DL.gName 10) (DL.gName 2)) [10]) (wS evs T (playF T pre) (walkF T pre) (some (.val (.str e.nm))) (some (.val (.int e.en))) (some (.val (.str e.kn))) (some (.val (ndD e))) x8 x9 none) (.new (e.nd.map fun x => D.bl (valF (playF T pre) x).isSome)) := by
      refine .lcA (xs := e.nd) (dOf := D.str) (.seq (.name rfl) rfl (nd_items e)) rfl (by have := oke.len; omega) fun x hx => ?_
      refine ⟨wS evs T (playF T pre) (walkF T pre) (some (.val (.str e.nm))) (some (.val (.int e.en))) (some (.val (.str e.kn))) (some (.val (ndD e))) x8 x9 (some (.val (.str x))), rfl, rfl, .dat (.bl (valF (playF T pre) x).isSome), ?_, rfl⟩
      have := Ev.inC (neg := false) (k := .inr x) (g1 := DL.gName 10) (g2 := DL.gName 2) (s := wS evs T (playF T pre) (walkF T pre) (some (.val (.str e.nm))) (some (.val (.int e.en))) (some (.val (.str e.kn))) (some (.val (ndD e))) x8 x9 (some (.val (.str x)))) (kvs := envA (playF T pre)) (.name rfl) (nmC rfl) rfl rfl
      rw [envA_get, Option.isSome_map] at this
      exact this
    have a1 : fAll [.lst (e.nd.map fun x => D.bl (valF (playF T pre) x).isSome)] = some (.dat (.bl (e.nd.all fun x => (valF (playF T pre) x).isSome))) := all_bl e.nd fun x => (valF (playF T pre) x).isSome
    rw [walk_snoc, play_snoc] at hnx
    unfold stepW stepP at hnx
    rw [accW_walk] at hnx
    cases c : e.nd.all fun x => (valF (playF T pre) x).isSome with
    | false =>
      rw [c] at a1
      have hk : keyF (playF T pre) e.nd = none := by unfold keyF; rw [c]; rfl
      simp only [hk] at hnx
      exact gs_ifF (.v (.cl (.one lc1) rfl a1) rfl) (gs_nil (hnx _ ⟨_, _, _, _, _, _, rfl⟩))
    | true =>
      rw [c] at a1
      have hk : keyF (playF T pre) e.nd = some (e.nd.map fun x => (valF (playF T pre) x).getD 0) := by unfold keyF; rw [c]; rfl
      simp only [hk] at hnx
      generalize hkk : (e.nd.map fun x => (valF (playF T pre) x).getD 0) = k at hnx
      have lc2 : Ev (gLc (giSeq (DL.gName 7)) (tgName 10) gYes (gIxC (DL.gName 2) (DL.gName 10)) [10]) (wS evs T (playF T pre) (walkF T pre) (some (.val (.str e.nm))) (some (.val (.int e.en))) (some (.val (.str e.kn))) (some (.val (ndD e))) x8 x9 none) (.new (e.nd.map fun x => D.int ((valF (playF T pre) x).getD 0))) := by
        refine .lcA (xs := e.nd) (dOf := D.str) (.seq (.name rfl) rfl (nd_items e)) rfl (by have := oke.len; omega) fun x hx => ?_
        have hs := List.all_eq_true.mp c x hx
        have hv : getC (envA (playF T pre)) (.inr x) = some (.int ((valF (playF T pre) x).getD 0)) := by
          rw [envA_get]
          cases q : valF (playF T pre) x with
          | none => rw [q] at hs; cases hs
          | some v => rfl
        exact ⟨wS evs T (playF T pre) (walkF T pre) (some (.val (.str e.nm))) (some (.val (.int e.en))) (some (.val (.str e.kn))) (some (.val (ndD e))) x8 x9 (some (.val (.str x))), rfl, rfl, .dat (.int ((valF (playF T pre) x).getD 0)), .ixC (k := .inr x) (nmC rfl) (.name rfl) rfl rfl hv, rfl⟩
      have e7 : fTuple [.lst (e.nd.map fun x => D.int ((valF (playF T pre) x).getD 0))] = some (.dat (kD k)) := by
        rw [← hkk]
        show some (W.dat (.tup (e.nd.map fun x => D.int ((valF (playF T pre) x).getD 0)))) = _
        unfold kD
        rw [List.map_map]
        rfl
      refine gs_ifT (.v (.cl (.one lc1) rfl a1) rfl) (gs_seq (gs_set (d := kD k) (.cl (.one lc2) rfl e7) rfl ?_))
      dsimp only [Stt.put, List.set]
      have vv : Ev (gIf (gTv (gInC false (DL.gName 5) (DL.gName 1))) (gCall S_law_find [] (gaCons (gIxC (DL.gName 1) (DL.gName 5)) (gaCons (DL.gName 4) (gaCons (DL.gName 8) gaNil)))) (gDat .non)) (wS evs T (playF T pre) (walkF T pre) (some (.val (.str e.nm))) (some (.val (.int e.en))) (some (.val (.str e.kn))) (some (.val (ndD e))) (some (.val (kD k))) x9 none) (.dat (intD (findV (tabT T e.en) e.nm k))) := by
        have ci := Ev.inC (neg := false) (k := .inl e.en) (g1 := DL.gName 5) (g2 := DL.gName 1) (s := wS evs T (playF T pre) (walkF T pre) (some (.val (.str e.nm))) (some (.val (.int e.en))) (some (.val (.str e.kn))) (some (.val (ndD e))) (some (.val (kD k))) x9 none) (kvs := tbL T) (.name rfl) (.name rfl) rfl (congrArg some (tb_zip T))
        rcases tb_cases T e.en with ⟨q1, q2⟩ | q1
        · rw [q1] at ci
          rw [q2]
          exact .ifF (.v ci rfl) .dt
        · rw [q1] at ci
          exact .ifT (.v ci rfl) (.call (.cons (.ixC (k := .inl e.en) (.name rfl) (.name rfl) (congrArg some (tb_zip T)) rfl q1) (.cons (.name rfl) (.one (.name rfl)))) rfl fun Φ q => ⟨tabT T e.en, e.nm, k, rfl, tab_ok ok _, wf.str e me, q⟩)
      refine gs_seq (gs_set (d := intD (findV (tabT T e.en) e.nm k)) vv rfl ?_)
      dsimp only [Stt.put, List.set]
      have c2 : EvB (gTv (gNotN (DL.gName 9))) (wS evs T (playF T pre) (walkF T pre) (some (.val (.str e.nm))) (some (.val (.int e.en))) (some (.val (.str e.kn))) (some (.val (ndD e))) (some (.val (kD k))) (some (.val (intD (findV (tabT T e.en) e.nm k)))) none) (!isNonD (intD (findV (tabT T e.en) e.nm k))) := .v (.notN (.name rfl) rfl) rfl
      rw [isNon_int, Bool.not_not] at c2
      have row : (walkF T pre).map wkD ++ [.tup [.str e.nm, .int e.en, kD k, intD (findV (tabT T e.en) e.nm k)]] = (walkF T pre ++ [(e.nm, e.en, k, findV (tabT T e.en) e.nm k)]).map wkD := by rw [List.map_append]; rfl
      have last : ∀ acc, (∀ y4 y5 y6 y7 y8 y9, De'.nx (wS evs T acc (walkF T pre ++ [(e.nm, e.en, k, findV (tabT T e.en) e.nm k)]) y4 y5 y6 y7 y8 y9 none)) → gsApp 3 (DL.gTup (gaCons (DL.gName 4) (gaCons (DL.gName 5) (gaCons (DL.gName 8) (gaCons (DL.gName 9) gaNil))))) (wS evs T acc (walkF T pre) (some (.val (.str e.nm))) (some (.val (.int e.en))) (some (.val (.str e.kn))) (some (.val (ndD e))) (some (.val (kD k))) (some (.val (intD (findV (tabT T e.en) e.nm k)))) none) De' := fun acc q => by
        refine gs_app (ds := (walkF T pre).map wkD) (d := .tup [.str e.nm, .int e.en, kD k, intD (findV (tabT T e.en) e.nm k)]) rfl (.tup (.cons (.name rfl) (.cons (.name rfl) (.cons (.name rfl) (.one (.name rfl))))) rfl (Nat.le_of_ble_eq_true rfl)) rfl (by rw [List.length_map]; omega) ?_
        rw [row]
        exact q _ _ _ _ _ _
      cases hv : findV (tabT T e.en) e.nm k with
      | none =>
        rw [hv] at c2 last
        simp only [hv] at hnx
        refine gs_seq (gs_ifF c2 (gs_nil ?_))
        exact last _ fun y4 y5 y6 y7 y8 y9 => hnx _ ⟨_, _, _, _, _, _, rfl⟩
      | some v =>
        rw [hv] at c2 last
        simp only [hv] at hnx
        refine gs_seq (gs_ifT c2 (gs_putC (k := .inr e.nm) (d := .int v) rfl (.name rfl) rfl (.name rfl) rfl (by rw [List.length_map]; omega) ?_))
        rw [envA_put (k := k) hnew]
        exact last _ fun y4 y5 y6 y7 y8 y9 => hnx _ ⟨_, _, _, _, _, _, rfl⟩
  · rintro s ⟨x4, x5, x6, x7, x8, x9, rfl⟩
    dsimp only
    exact gs_ret (.nameO rfl) ⟨_, _, rfl, h⟩
theorem due_filter (F : List WE) : (F.filter fun r => r.2.2.2.isSome).map (fun r => D.tup [.str r.1, kD r.2.2.1, intD r.2.2.2]) = (accW F).map eD := by
  induction F with
  | nil => rfl
  | cons r F ih =>
    obtain ⟨n, en, k, v⟩ := r
    cases v with
    | none =>
      rw [List.filter_cons_of_neg (by simp), ih]
      rfl
    | some v =>
      rw [List.filter_cons_of_pos (by rfl), List.map_cons, ih]
      rfl
theorem hl_law_due_play : ∀ ds Φ, S_law_due_play ds Φ → ds.length = 2 := by rintro ds Φ ⟨_, _, rfl, _⟩; rfl
theorem hB_law_due_play : ∀ ds Φ, S_law_due_play ds Φ → B_law_due_play ⟨startD n_law_due_play ds, 0⟩ (retD Φ) := by
  rintro ds Φ ⟨evs, T, rfl, wf, ok, h⟩
  have hl := wf.len
  have hw := walk_len T evs
  have lc : Ev (gLc (giSeq (gCall S_law_walk [] (gaCons (DL.gName 0) (gaCons (DL.gName 1) gaNil)))) (tgTup 4 (tgCons (tgName 2) (tgCons (tgName 3) (tgCons (tgName 4) (tgCons (tgName 5) tgNil))))) (gTv (gNotN (DL.gName 5))) (DL.gTup (gaCons (DL.gName 2) (gaCons (DL.gName 4) (gaCons (DL.gName 5) gaNil)))) [2, 3, 4, 5]) ⟨startD n_law_due_play [.lst (evs.map evT), tbD T], 0⟩ (.new ((accW (walkF T evs)).map eD)) := by
    rw [← due_filter]
    refine .lc (xs := walkF T evs) (dOf := wkD) (g := fun r => D.tup [.str r.1, kD r.2.2.1, intD r.2.2.2]) (.seq (d := .lst ((walkF T evs).map wkD)) (.call (.cons (.name rfl) (.one (.name rfl))) rfl fun Φ q => ⟨evs, T, rfl, wf, ok, q⟩) rfl rfl) rfl (by omega) fun r hr => ?_
    refine ⟨⟨[some (.val (.lst (evs.map evT))), some (.val (tbD T)), some (.val (.str r.1)), some (.val (.int r.2.1)), some (.val (kD r.2.2.1)), some (.val (intD r.2.2.2))], 0⟩, rfl, rfl, .of (.v (.notN (.name rfl) rfl) rfl) (by rw [isNon_int, Bool.not_not]), fun _ => ⟨_, .tup (.cons (.name rfl) (.cons (.name rfl) (.one (.name rfl)))) rfl (Nat.le_of_ble_eq_true rfl), rfl⟩⟩
  rw [accW_walk] at lc
  exact gs_ret (w := .dat (runD (playF T evs))) (.cl (.one lc) rfl rfl) ⟨_, _, rfl, h⟩
end K21
set_option maxHeartbeats 1000000
namespace K21
open PySem PySem.Spec PyProof.Rows L2 Ax DL
abbrev BO_4 : GS := (gsApp 5 (DL.gTup (gaCons (gBin fIx (DL.gName 4) (DL.gName 6)) (gaCons (gBin fAdd (gDat (.int 1)) (gCallB 0 SDraw (gaCons (DL.gName 1) gaNil))) (gaCons (DL.gName 9) (gaCons (gCl fTupZ (gaCons (DL.gName 7) gaNil)) gaNil))))))
abbrev BO_3 : GS := gsSeq (gsSet 9 (gBin fIx (gLst (gaCons (gDat (.str ("query" : Str))) (gaCons (gDat (.str ("action" : Str))) gaNil))) (gCallB 0 SDraw (gaCons (gDat (.int 2)) gaNil)))) BO_4
abbrev BO_2 : GS := gsSeq (gsIf (gTAnd (gTv (gBin (fB fun i j => decide (j < i)) (DL.gName 6) (gDat (.int 1)))) (gTv (gBin fEq (gCallB 0 SDraw (gaCons (gDat (.int 3)) gaNil)) (gDat (.int 0))))) (gsSeq (gsSet 8 (gBin fIx (DL.gName 4) (gCallB 0 SDraw (gaCons (DL.gName 6) gaNil))))
    (gsIf (gTv (gBin fNotIn (DL.gName 8) (DL.gName 7))) (gsApp 7 (DL.gName 8)) gsNil)) gsNil) BO_3
abbrev BO_1 : GS := gsSeq (gsIf (gTAnd (gTv (gBin (fB fun i j => decide (j < i)) (DL.gName 6) (gDat (.int 0)))) (gTv (gBin (fB fun i j => decide (j < i)) (gCallB 0 SDraw (gaCons (gDat (.int 6)) gaNil)) (gDat (.int 0))))) (gsApp 7 (gBin fIx (DL.gName 4) (gBin (fI fun i j => i - j) (gBin (fI fun i j => i - j) (DL.gName 6) (gDat (.int 1))) (gIf (gTv (gBin fEq (gCallB 0 SDraw (gaCons (gDat (.int 3)) gaNil)) (gDat (.int 0)))) (gCallB 0 SDraw (gaCons (DL.gName 6) gaNil)) (gDat (.int 0)))))) gsNil) BO_2
abbrev BO_0 : GS := gsSeq (gsOwn 7 (gLst gaNil)) BO_1
abbrev BV_3 : GS := (gsRet (DL.gName 5))
abbrev BV_2 : GS := gsSeq (gsFor (giRange1 (gaCons (gBin fAdd (DL.gName 2) (gCallB 0 SDraw (gaCons (gBin fAdd (gBin (fI fun i j => i - j) (DL.gName 3) (DL.gName 2)) (gDat (.int 1))) gaNil))) gaNil)) (tgName 6) (gsSeq (gsOwn 7 (gLst gaNil))
    (gsSeq (gsIf (gTAnd (gTv (gBin (fB fun i j => decide (j < i)) (DL.gName 6) (gDat (.int 0)))) (gTv (gBin (fB fun i j => decide (j < i)) (gCallB 0 SDraw (gaCons (gDat (.int 6)) gaNil)) (gDat (.int 0))))) (gsApp 7 (gBin fIx (DL.gName 4) (gBin (fI fun i j => i - j) (gBin (fI fun i j => i - j) (DL.gName 6) (gDat (.int 1))) (gIf (gTv (gBin fEq (gCallB 0 SDraw (gaCons (gDat (.int 3)) gaNil)) (gDat (.int 0)))) (gCallB 0 SDraw (gaCons (DL.gName 6) gaNil)) (gDat (.int 0)))))) gsNil)
    (gsSeq (gsIf (gTAnd (gTv (gBin (fB fun i j => decide (j < i)) (DL.gName 6) (gDat (.int 1)))) (gTv (gBin fEq (gCallB 0 SDraw (gaCons (gDat (.int 3)) gaNil)) (gDat (.int 0))))) (gsSeq (gsSet 8 (gBin fIx (DL.gName 4) (gCallB 0 SDraw (gaCons (DL.gName 6) gaNil))))
    (gsIf (gTv (gBin fNotIn (DL.gName 8) (DL.gName 7))) (gsApp 7 (DL.gName 8)) gsNil)) gsNil)
    (gsSeq (gsSet 9 (gBin fIx (gLst (gaCons (gDat (.str ("query" : Str))) (gaCons (gDat (.str ("action" : Str))) gaNil))) (gCallB 0 SDraw (gaCons (gDat (.int 2)) gaNil))))
    (gsApp 5 (DL.gTup (gaCons (gBin fIx (DL.gName 4) (DL.gName 6)) (gaCons (gBin fAdd (gDat (.int 1)) (gCallB 0 SDraw (gaCons (DL.gName 1) gaNil))) (gaCons (DL.gName 9) (gaCons (gCl fTupZ (gaCons (DL.gName 7) gaNil)) gaNil))))))))))) BV_3
abbrev BV_1 : GS := gsSeq (gsOwn 5 (gLst gaNil)) BV_2
abbrev BV_0 : GS := gsSeq (gsSet 4 (gLst (gaCons (gDat (.str ("m" : Str))) (gaCons (gDat (.str ("b2" : Str))) (gaCons (gDat (.str ("z" : Str))) (gaCons (gDat (.str ("a" : Str))) (gaCons (gDat (.str ("k0" : Str))) (gaCons (gDat (.str ("c" : Str))) (gaCons (gDat (.str ("zz" : Str))) (gaCons (gDat (.str ("d" : Str))) gaNil)))))))))) BV_1
theorem B_law_order_eq : B_law_order = BV_0 := rfl
theorem NL_nd : NL.Nodup := by decide +kernel
theorem NL_nm : ∀ x ∈ NL, nameL x.cps.toList = true := by decide +kernel
theorem NL_len : NL.length = 8 := rfl
theorem NL_str : ∀ x ∈ NL, strK x = true := fun x hx => name_ok (NL_nm x hx)
abbrev oS (ends : Int) (evs : List Evt) (x6 x7 x8 x9 : Option En) (n : Nat) : Stt := ⟨[some .bag, some (.val (.int ends)), some (.val (.int 1)), some (.val (.int 7)), some (.val (.lst (NL.map D.str))), some (.own (evs.map evT)), x6, x7, x8, x9], n⟩
abbrev natV (p : Nat) : Option En := some (.val (.int (p : Nat)))
abbrev ndV (nd : List Str) : Option En := some (.own (nd.map D.str))
/-- an order of p events so far -/
structure Part (evs : List Evt) (p : Nat) : Prop where
  wf : Wf evs
  nm : evs.map Evt.nm = NL.take p
  nz : ∀ e ∈ evs, e.nz = true
  lt : p ≤ 7
structure NdOk (p m : Nat) (nd : List Str) : Prop where
  nod : nd.Nodup
  sub : ∀ x ∈ nd, x ∈ NL.take p
  len : nd.length ≤ m
theorem Part.len {evs : List Evt} {p : Nat} (h : Part evs p) : evs.length = p := by
  have := congrArg List.length h.nm
  rw [List.length_map, List.length_take, NL_len] at this
  have := h.lt
  omega
theorem NL_at {p : Nat} (hp : p < 8) : ∃ x, NL[p]? = some x ∧ x ∈ NL ∧ x ∉ NL.take p := by
  have hl : p < NL.length := hp
  refine ⟨NL[p], List.getElem?_eq_getElem hl, List.getElem_mem hl, fun z => ?_⟩
  have e1 : NL = NL.take p ++ NL[p] :: NL.drop (p + 1) := by rw [← List.drop_eq_getElem_cons hl, List.take_append_drop]
  have := NL_nd
  rw [e1, List.nodup_append] at this
  exact this.2.2 _ z _ List.mem_cons_self rfl
theorem NL_in {j p : Nat} {x : Str} (h : NL[j]? = some x) (hj : j < p) : x ∈ NL.take p := List.mem_of_getElem? (i := j) (by rw [List.getElem?_take_of_lt hj]; exact h)
theorem NL_ix {j : Nat} {x : Str} (h : NL[j]? = some x) : fIx (.lst (NL.map D.str)) (.int (j : Nat)) = some (.dat (.str x)) := ix_lst (by rw [List.getElem?_map, h]; rfl)
section
variable {ends : Int} {evs : List Evt} {p n0 n : Nat} {x7 x8 x9 : Option En} {De : EndsD}
/-- what the turn of a place ends with -/
def NxO (ends : Int) (evs : List Evt) (p n0 : Nat) (De : EndsD) : Prop := ∀ (e : Evt) x7 x8 x9 n', Part (evs ++ [e]) (p + 1) → n' ≤ n0 + 8 → De.nx (oS ends (evs ++ [e]) (natV p) x7 x8 x9 n')
theorem ord_4 (h : Part evs p) (hp : p < 7) (he : 1 ≤ ends ∧ ends ≤ 4) {nd : List Str} (hnd : NdOk p 2 nd) {kn : Str} (hk : kn = "query" ∨ kn = "action") (hn : n + 1 ≤ n0 + 8) (hn0 : n0 < 900000) (hnx : NxO ends evs p n0 De) : BO_4 (oS ends evs (natV p) (ndV nd) x8 (some (.val (.str kn))) n) De := by
  obtain ⟨x, x1, x2, x3⟩ := NL_at (p := p) (by omega)
  refine app_run ⟨_, rfl⟩ (tup_run (gaR (w := .dat (.str x)) (.bin (d := .lst (NL.map D.str)) (.name rfl) (.name (d := .int (p : Nat)) rfl) rfl rfl (NL_ix x1)) (ga_run (binR .dt (drd rfl (.name rfl) he.1 (Nat.lt_of_lt_of_le (show _ < 1000 by omega) (by decide)) (by show n < 1000000; omega) fun v v0 v1 => ⟨_, _, _, rfl, rfl, add_int _ _, ?_⟩)))))
  refine gaR (w := .dat (.str kn)) (.name rfl) (gaR (w := .dat (.tpz (nd.map D.str))) (.cl (.one (.nameO rfl)) rfl rfl) ⟨_, _, rfl, Nat.le_of_ble_eq_true rfl, _, _, _, rfl, rfl, by rw [List.length_map]; have := h.len; omega, ?_⟩)
  let ev : Evt := ⟨x, 1 + v, kn, true, nd⟩
  have ok : EvOk (evs.map Evt.nm) ev := by
    rw [h.nm]
    exact ⟨NL_nm _ x2, x3, ⟨by show 1 ≤ 1 + v; omega, by show 1 + v ≤ 5; omega⟩, hk, hnd.nod, hnd.sub, by show nd.length ≤ 3; have := hnd.len; omega, fun z => by cases z⟩
  have := hnx ev (ndV nd) x8 (some (.val (.str kn))) (n + 1) ⟨wf_snoc h.wf ok (by have := h.len; omega), by
    rw [List.map_append, h.nm, List.take_succ, x1]
    rfl, fun e he => by
      rcases List.mem_append.mp he with q | q
      · exact h.nz e q
      · rw [List.mem_singleton.mp q], by omega⟩ hn
  unfold oS at this
  rw [List.map_append] at this
  exact this
theorem ord_3 (h : Part evs p) (hp : p < 7) (he : 1 ≤ ends ∧ ends ≤ 4) {nd : List Str} (hnd : NdOk p 2 nd) (hn : n + 2 ≤ n0 + 8) (hn0 : n0 < 900000) (hnx : NxO ends evs p n0 De) : BO_3 (oS ends evs (natV p) (ndV nd) x8 x9 n) De := by
  have ls : Ev (gLst (gaCons (gDat (.str ("query" : Str))) (gaCons (gDat (.str ("action" : Str))) gaNil))) (oS ends evs (natV p) (ndV nd) x8 x9 n) (.new [.str ("query" : Str), .str ("action" : Str)]) := .lst (.cons .dt (.one .dt)) rfl (by decide)
  refine gs_seq (set_run (bin_run (ls _ (drd rfl .dt (by decide) (by decide) (by show n < 1000000; omega) fun g g0 g1 => ?_))))
  obtain ⟨xk, mk, ek⟩ := ix_mem (l := [.str ("query" : Str), .str ("action" : Str)]) g0 g1
  obtain ⟨kn, rfl, hkn⟩ : ∃ kn : Str, xk = .str kn ∧ (kn = "query" ∨ kn = "action") := by
    simp only [List.mem_cons, List.not_mem_nil, or_false] at mk
    rcases mk with rfl | rfl
    · exact ⟨_, rfl, .inl rfl⟩
    · exact ⟨_, rfl, .inr rfl⟩
  refine ⟨_, _, _, rfl, rfl, ek, _, _, rfl, ?_⟩
  exact ord_4 h hp he hnd hkn (by omega) hn0 hnx
theorem ord_2 (h : Part evs p) (hp : p < 7) (he : 1 ≤ ends ∧ ends ≤ 4) {nd : List Str} (hnd : NdOk p 1 nd) (hn : n + 4 ≤ n0 + 8) (hn0 : n0 < 900000) (hnx : NxO ends evs p n0 De) : BO_2 (oS ends evs (natV p) (ndV nd) x8 x9 n) De := by
  have up : NdOk p 2 nd := ⟨hnd.nod, hnd.sub, Nat.le_trans hnd.len (by decide)⟩
  have c1 : EvB (gTv (gBin (fB fun i j => decide (j < i)) (DL.gName 6) (gDat (.int 1)))) (oS ends evs (natV p) (ndV nd) x8 x9 n) (decide ((1 : Int) < (p : Nat))) := .v (.bin (.name rfl) .dt rfl rfl rfl) rfl
  refine gs_seq (if_run (tand_run (c1 _ ?_)))
  by_cases z : (1 : Int) < (p : Nat)
  · rw [decide_eq_true z, if_pos rfl]
    refine tv_run (bin_run (drd rfl .dt (by decide) (by decide) (by show n < 1000000; omega) fun y y0 y1 => ⟨_, _, _, rfl, rfl, feq (okD_int _) (okD_int _), _, rfl, ?_⟩))
    rw [eqD_int]
    by_cases zy : y = 0
    · rw [decide_eq_true zy, if_pos rfl]
      refine gs_seq (set_run (binR (w1 := .dat (.lst (NL.map D.str))) (.name rfl) (drd (s := oS ends evs (natV p) (ndV nd) x8 x9 (n + 1)) rfl (.name rfl) (by omega) (Nat.lt_of_lt_of_le (show _ < 1000 by omega) (by decide)) (by show n + 1 < 1000000; omega) fun v v0 v1 => ?_)))
      obtain ⟨j, rfl⟩ : ∃ j : Nat, v = (j : Int) := ⟨v.toNat, by omega⟩
      have hj : j < p := by omega
      obtain ⟨x, x1, x2, _⟩ := NL_at (p := j) (by omega)
      refine ⟨_, _, _, rfl, rfl, NL_ix x1, _, _, rfl, ?_⟩
      have sx := NL_str x x2
      have sn : ∀ y ∈ nd, strK y = true := fun y hy => NL_str y (List.mem_of_mem_take (hnd.sub y hy))
      have c3 : EvB (gTv (gBin fNotIn (DL.gName 8) (DL.gName 7))) (oS ends evs (natV p) (ndV nd) (some (.val (.str x))) x9 (n + 1 + 1)) (!decide (x ∈ nd)) := .v (.bin (.name (d := .str x) rfl) (.nameO rfl) rfl rfl (notIn_str sx sn)) rfl
      dsimp only [Stt.put, List.set]
      by_cases zx : x ∈ nd
      · rw [decide_eq_true zx] at c3
        refine gs_ifF c3 (gs_nil ?_)
        exact ord_3 (n := n + 1 + 1) h hp he up (by omega) hn0 hnx
      · rw [decide_eq_false zx] at c3
        refine gs_ifT c3 (gs_app (ds := nd.map D.str) (d := .str x) rfl (.name rfl) rfl (by rw [List.length_map]; have := hnd.len; omega) ?_)
        have e : nd.map D.str ++ [D.str x] = (nd ++ [x]).map D.str := by rw [List.map_append]; rfl
        rw [e]
        refine ord_3 (n := n + 1 + 1) (nd := nd ++ [x]) h hp he ⟨List.nodup_append.mpr ⟨hnd.nod, by simp, fun a ha b hb => by rw [List.mem_singleton.mp hb]; exact fun q => zx (q ▸ ha)⟩, fun y hy => ?_, by rw [List.length_append]; have := hnd.len; show _ + 1 ≤ 2; omega⟩ (by omega) hn0 hnx
        rcases List.mem_append.mp hy with q | q
        · exact hnd.sub y q
        · rw [List.mem_singleton.mp q]; exact NL_in x1 hj
    · rw [decide_eq_false zy, if_neg Bool.false_ne_true]
      exact gs_nil (ord_3 (n := n + 1) h hp he up (by omega) hn0 hnx)
  · rw [decide_eq_false z, if_neg Bool.false_ne_true, if_neg Bool.false_ne_true]
    exact gs_nil (ord_3 h hp he up (by omega) hn0 hnx)
theorem ord_1 (h : Part evs p) (hp : p < 7) (he : 1 ≤ ends ∧ ends ≤ 4) (hn : n + 7 ≤ n0 + 8) (hn0 : n0 < 900000) (hnx : NxO ends evs p n0 De) : BO_1 (oS ends evs (natV p) (ndV []) x8 x9 n) De := by
  have nil : NdOk p 1 [] := ⟨List.nodup_nil, fun x hx => (by cases hx), by decide⟩
  have c1 : EvB (gTv (gBin (fB fun i j => decide (j < i)) (DL.gName 6) (gDat (.int 0)))) (oS ends evs (natV p) (ndV []) x8 x9 n) (decide ((0 : Int) < (p : Nat))) := .v (.bin (.name rfl) .dt rfl rfl rfl) rfl
  refine gs_seq (if_run (tand_run (c1 _ ?_)))
  by_cases z : (0 : Int) < (p : Nat)
  · rw [decide_eq_true z, if_pos rfl]
    refine tv_run (bin_run (drd rfl .dt (by decide) (by decide) (by show n < 1000000; omega) fun y y0 y1 => ⟨_, _, .dat (.bl (decide ((0 : Int) < y))), rfl, rfl, rfl, _, rfl, ?_⟩))
    by_cases zy : (0 : Int) < y
    · rw [decide_eq_true zy, if_pos rfl]
      have fin : ∀ (v : Int) n', 0 ≤ v → v < (p : Nat) → n' ≤ n + 3 → ∃ d e w, rd (.dat (.int ((p : Nat) - 1))) (oS ends evs (natV p) (ndV []) x8 x9 n') = some d ∧ rd (.dat (.int v)) (oS ends evs (natV p) (ndV []) x8 x9 n') = some e ∧ fI (fun i j => i - j) d e = some w ∧ ∃ d e w', rd (.dat (.lst (NL.map D.str))) (oS ends evs (natV p) (ndV []) x8 x9 n') = some d ∧ rd w (oS ends evs (natV p) (ndV []) x8 x9 n') = some e ∧ fIx d e = some w' ∧ ∃ d s2 ds, frz w' (oS ends evs (natV p) (ndV []) x8 x9 n') = some (d, s2) ∧ s2.r[7]? = some (some (.own ds)) ∧ ds.length < 1000000 ∧ BO_2 (s2.put 7 (.own (ds ++ [d]))) De := fun v n' v0 v1 hn' => by
        obtain ⟨j, ej⟩ : ∃ j : Nat, ((p : Nat) : Int) - 1 - v = (j : Int) := ⟨(((p : Nat) : Int) - 1 - v).toNat, by omega⟩
        have hj : j < p := by omega
        obtain ⟨x, x1, x2, _⟩ := NL_at (p := j) (by omega)
        refine ⟨_, _, _, rfl, rfl, rfl, _, _, .dat (.str x), rfl, rfl, ?_, _, _, _, rfl, rfl, by decide, ?_⟩
        · show fIx (D.lst (List.map D.str NL)) (D.int (((p : Nat) : Int) - 1 - v)) = _
          rw [ej]; exact NL_ix x1
        · exact ord_2 (n := n') (nd := [x]) h hp he ⟨by simp, fun y hy => by rw [List.mem_singleton.mp hy]; exact NL_in x1 hj, by simp⟩ (by omega) hn0 hnx
      refine app_run ⟨_, rfl⟩ (binR (w1 := .dat (.lst (NL.map D.str))) (.name rfl) (binR (w1 := .dat (.int ((p : Nat) - 1))) (.bin (.name (d := .int (p : Nat)) rfl) .dt rfl rfl rfl) (xif_run (tv_run (bin_run (drd (s := oS ends evs (natV p) (ndV []) x8 x9 (n + 1)) rfl .dt (by decide) (by decide) (by show n + 1 < 1000000; omega) fun u u0 u1 => ⟨_, _, _, rfl, rfl, feq (okD_int _) (okD_int _), _, rfl, ?_⟩))))))
      rw [eqD_int]
      by_cases zu : u = 0
      · rw [decide_eq_true zu, if_pos rfl]
        exact drd (s := oS ends evs (natV p) (ndV []) x8 x9 (n + 1 + 1)) rfl (.name rfl) (by omega) (Nat.lt_of_lt_of_le (show _ < 1000 by omega) (by decide)) (by show n + 1 + 1 < 1000000; omega) fun v v0 v1 => fin v (n + 1 + 1 + 1) v0 v1 (by omega)
      · rw [decide_eq_false zu, if_neg Bool.false_ne_true]
        exact fin 0 (n + 1 + 1) (by omega) z (by omega)
    · rw [decide_eq_false zy, if_neg Bool.false_ne_true]
      exact gs_nil (ord_2 (n := n + 1) h hp he nil (by omega) hn0 hnx)
  · rw [decide_eq_false z, if_neg Bool.false_ne_true, if_neg Bool.false_ne_true]
    exact gs_nil (ord_2 h hp he nil (by omega) hn0 hnx)
end
theorem hl_law_order : ∀ ds n Φ, S_law_order ds n Φ → ds.length = 3 := by rintro ds n Φ ⟨_, rfl, _⟩; rfl
theorem hB_law_order : ∀ ds n Φ, S_law_order ds n Φ → B_law_order ⟨startB n_law_order ds, n⟩ (retB Φ) := by
  rintro ds n Φ ⟨ends, rfl, h1, h2, hn, h⟩
  rw [B_law_order_eq]
  show BV_0 ⟨[some .bag, some (.val (.int ends)), some (.val (.int 1)), some (.val (.int 7)), none, none, none, none, none, none], n⟩ (retB Φ)
  refine gs_seq (gs_set (d := .lst (NL.map D.str)) (.lst (.cons .dt (.cons .dt (.cons .dt (.cons .dt (.cons .dt (.cons .dt (.cons .dt (.one .dt)))))))) rfl (by decide)) rfl ?_)
  dsimp only [Stt.put, List.set]
  refine gs_seq (gs_own (ds := []) (.lst .nil rfl (by decide)) ?_)
  show BV_2 (oS ends [] none none none none n) (retB Φ)
  refine gs_seq (for_run (range_run (ga_run (binR (w1 := .dat (.int 1)) (.name rfl) (drd (lim := 7) rfl (.bin (w := .dat (.int 7)) (.bin (w := .dat (.int 6)) (.name (d := .int 7) rfl) (.name (d := .int 1) rfl) rfl rfl rfl) .dt rfl rfl rfl) (by decide) (by decide) (by show n < 1000000; omega) fun m m0 m1 => ⟨_, _, _, rfl, rfl, add_int _ _, _, rfl, ⟨by omega, by omega⟩, ?_⟩)))))
  rw [range_eq]
  have hm : (1 + m).toNat ≤ 7 := by omega
  refine gs_loop (L := List.range (1 + m).toNat) (fun pre s => ∃ (evs : List Evt) (x6 x7 x8 x9 : Option En) (k : Nat), Part evs pre.length ∧ k ≤ n + 1 + 8 * pre.length ∧ s = oS ends evs x6 x7 x8 x9 k) ?_ ?_ (List.range (1 + m).toNat) [] _ rfl ⟨[], none, none, none, none, n + 1, ⟨⟨by decide, fun pre e post h => by simp at h⟩, rfl, fun e he => (by cases he), by decide⟩, by simp, rfl⟩
  · rintro pre q post s De' eL ⟨evs, x6, x7, x8, x9, k, hpart, hk, rfl⟩ _ _ hnx _
    obtain ⟨rfl, hq⟩ := range_pos eL
    refine ⟨oS ends evs (natV pre.length) x7 x8 x9 k, rfl, ?_⟩
    refine gs_seq (gs_own (ds := []) (.lst .nil rfl (by decide)) ?_)
    show BO_1 (oS ends evs (natV pre.length) (ndV []) x8 x9 k) De'
    refine ord_1 (n0 := k) hpart (by omega) ⟨h1, h2⟩ (by omega) (by omega) fun e y7 y8 y9 n' hp' hn' => hnx _ ⟨evs ++ [e], _, y7, y8, y9, n', by rw [List.length_append]; exact hp', by rw [List.length_append]; show n' ≤ n + 1 + 8 * (pre.length + 1); omega, rfl⟩
  · rintro s ⟨evs, x6, x7, x8, x9, k, hpart, hk, rfl⟩
    rw [List.length_range] at hpart hk
    have hl := hpart.len
    dsimp only
    refine gs_ret (.nameO rfl) ⟨_, _, rfl, h evs k ⟨hpart.wf, by omega, by omega, hpart.nz, fun e he => ?_⟩ (by omega)⟩
    have : e.nm ∈ NL.take (1 + m).toNat := by rw [← hpart.nm]; exact List.mem_map.mpr ⟨e, he, rfl⟩
    exact List.mem_of_mem_take this
end K21
set_option maxHeartbeats 1000000
namespace K21
open PySem PySem.Spec PyProof.Rows L2 Ax DL
abbrev BX_2 : GS := (gsApp 4 (DL.gTup (gaCons (DL.gName 5) (gaCons (DL.gName 6) (gaCons (DL.gName 7) (gaCons (DL.gName 8) gaNil))))))
abbrev BX_1 : GS := gsSeq (gsIf (gTAnd (gTv (gBin (fB fun i j => decide (j < i)) (gCl fLen (gaCons (DL.gName 4) gaNil)) (gDat (.int 2)))) (gTv (gBin fEq (gCallB 0 SDraw (gaCons (gDat (.int 5)) gaNil)) (gDat (.int 0))))) (gsSeq (gsOwn 10 (gCl fList (gaCons (DL.gName 8) gaNil)))
    (gsSeq (gsFor (giRange1 (gaCons (gBin (fI fun i j => i - j) (gDat (.int 3)) (gCl fLen (gaCons (DL.gName 8) gaNil))) gaNil)) (tgName 11) (gsApp 10 (gPop 9 (gCallB 0 SDraw (gaCons (gCl fLen (gaCons (DL.gName 9) gaNil)) gaNil)))))
    (gsSet 8 (gCl fTupZ (gaCons (DL.gName 10) gaNil))))) gsNil) BX_2
abbrev BX_0 : GS := gsSeq (gsOwn 9 (gLoanF 4 (gLc (giSeq (DL.gName 4)) (tgName 12) (gTv (gBin fNotInZ (gBin fIx (DL.gName 12) (gDat (.int 0))) (DL.gName 8))) (gBin fIx (DL.gName 12) (gDat (.int 0))) [12]))) BX_1
abbrev BW_2 : GS := (gsRet (DL.gName 4))
abbrev BW_1 : GS := gsSeq (gsFor (giSeq (gCallB 0 S_law_order (gaCons (DL.gName 1) (gaCons (DL.gName 2) (gaCons (DL.gName 3) gaNil))))) (tgTup 4 (tgCons (tgName 5) (tgCons (tgName 6) (tgCons (tgName 7) (tgCons (tgName 8) tgNil))))) (gsSeq (gsOwn 9 (gLoanF 4 (gLc (giSeq (DL.gName 4)) (tgName 12) (gTv (gBin fNotInZ (gBin fIx (DL.gName 12) (gDat (.int 0))) (DL.gName 8))) (gBin fIx (DL.gName 12) (gDat (.int 0))) [12])))
    (gsSeq (gsIf (gTAnd (gTv (gBin (fB fun i j => decide (j < i)) (gCl fLen (gaCons (DL.gName 4) gaNil)) (gDat (.int 2)))) (gTv (gBin fEq (gCallB 0 SDraw (gaCons (gDat (.int 5)) gaNil)) (gDat (.int 0))))) (gsSeq (gsOwn 10 (gCl fList (gaCons (DL.gName 8) gaNil)))
    (gsSeq (gsFor (giRange1 (gaCons (gBin (fI fun i j => i - j) (gDat (.int 3)) (gCl fLen (gaCons (DL.gName 8) gaNil))) gaNil)) (tgName 11) (gsApp 10 (gPop 9 (gCallB 0 SDraw (gaCons (gCl fLen (gaCons (DL.gName 9) gaNil)) gaNil)))))
    (gsSet 8 (gCl fTupZ (gaCons (DL.gName 10) gaNil))))) gsNil)
    (gsApp 4 (DL.gTup (gaCons (DL.gName 5) (gaCons (DL.gName 6) (gaCons (DL.gName 7) (gaCons (DL.gName 8) gaNil))))))))) BW_2
abbrev BW_0 : GS := gsSeq (gsOwn 4 (gLst gaNil)) BW_1
theorem B_law_wide_order_eq : B_law_wide_order = BW_0 := rfl
abbrev wO (ends : Int) (evs : List Evt) (x5 x6 x7 x8 x9 x10 x11 : Option En) (n : Nat) : Stt := ⟨[some .bag, some (.val (.int ends)), some (.val (.int 1)), some (.val (.int 7)), some (.own (evs.map evT)), x5, x6, x7, x8, x9, x10, x11, none], n⟩
abbrev ndZ (nd : List Str) : Option En := some (.val (.tpz (nd.map D.str)))
/-- events beside drawn ones: the names are the same -/
structure Wide (evs pre : List Evt) : Prop where
  wf : Wf evs
  nm : evs.map Evt.nm = pre.map Evt.nm
  nz : ∀ e ∈ evs, e.nz = true
theorem left_perm {nm nd left : List Str} (h1 : nm.Nodup) (h2 : nd.Nodup) (h3 : ∀ x ∈ nd, x ∈ nm) (e : left = nm.filter fun x => !decide (x ∈ nd)) : (nd ++ left).Perm nm := by
  subst e
  refine (List.perm_ext_iff_of_nodup (List.nodup_append.mpr ⟨h2, h1.filter _, fun a ha b hb z => ?_⟩) h1).mpr fun a => ?_
  · have := (List.mem_filter.mp hb).2
    rw [← z, decide_eq_true ha] at this
    cases this
  · rw [List.mem_append, List.mem_filter]
    by_cases c : a ∈ nd
    · exact ⟨fun _ => h3 a c, fun _ => .inl c⟩
    · exact ⟨fun z => (z.resolve_left c).1, fun z => .inr ⟨z, by rw [decide_eq_false c]; rfl⟩⟩
theorem Wf.nodup {evs : List Evt} (wf : Wf evs) : (evs.map Evt.nm).Nodup := by
  have key : ∀ (post pre : List Evt), evs = pre ++ post → (pre.map Evt.nm).Nodup → (evs.map Evt.nm).Nodup := by
    intro post
    induction post with
    | nil =>
      intro pre e h
      rw [List.append_nil] at e
      rw [e]; exact h
    | cons x post ih =>
      intro pre e h
      refine ih (pre ++ [x]) (by rw [e, List.append_assoc]; rfl) ?_
      rw [List.map_append]
      exact List.nodup_append.mpr ⟨h, by simp, fun a ha b hb z => (wf.ok pre x post e).new (by
        have : b = x.nm := List.mem_singleton.mp hb
        rw [← this, ← z]; exact ha)⟩
  exact key evs [] rfl List.nodup_nil
def FlO (x : Option En) : Prop := ∀ e, x = some e → flatE e = true
theorem flO_none : FlO none := fun _ h => by cases h
theorem flO_val {d : D} : FlO (some (.val d)) := fun _ h => by cases h; rfl
theorem flO_strs (l : List Str) : FlO (some (.own (l.map D.str))) := fun _ h => by
  cases h
  show flatTs (l.map D.str) = true
  induction l with
  | nil => rfl
  | cons x l ih => simp [flatTs, flatT, ih]
theorem wO_flat {ends : Int} {evs : List Evt} {a b c d : D} {x9 x10 x11 : Option En} {n : Nat} (h9 : FlO x9) (h10 : FlO x10) (h11 : FlO x11) : ∀ (j : Nat) (e : En), j ≠ 4 → (wO ends evs (some (.val a)) (some (.val b)) (some (.val c)) (some (.val d)) x9 x10 x11 n).r[j]? = some (some e) → flatE e = true := by
  intro j e hj h
  match j, hj, h with
  | 0, _, h => cases h; rfl
  | 1, _, h => cases h; rfl
  | 2, _, h => cases h; rfl
  | 3, _, h => cases h; rfl
  | 4, hj, _ => exact absurd rfl hj
  | 5, _, h => cases h; rfl
  | 6, _, h => cases h; rfl
  | 7, _, h => cases h; rfl
  | 8, _, h => cases h; rfl
  | 9, _, h => exact h9 e (Option.some.inj h)
  | 10, _, h => exact h10 e (Option.some.inj h)
  | 11, _, h => exact h11 e (Option.some.inj h)
  | 12, _, h => cases h
  | j + 13, _, h => cases h
section
variable {ends : Int} {evs pre : List Evt} {e : Evt} {n0 n : Nat} {x9 x10 x11 : Option En} {De : EndsD}
def NxW (ends : Int) (evs pre : List Evt) (e : Evt) (n0 : Nat) (De : EndsD) : Prop := ∀ (e' : Evt) x5 x6 x7 x8 x9 x10 x11 n', FlO x9 → FlO x10 → FlO x11 → Wide (evs ++ [e']) (pre ++ [e]) → n' ≤ n0 + 8 → De.nx (wO ends (evs ++ [e']) x5 x6 x7 x8 x9 x10 x11 n')
theorem wide_2 (h : Wide evs pre) (ok : EvOk (pre.map Evt.nm) e) (hl : evs.length ≤ 7) {nd : List Str} (h1 : nd.Nodup) (h2 : ∀ x ∈ nd, x ∈ evs.map Evt.nm) (h3 : nd.length ≤ 3) (f9 : FlO x9) (f10 : FlO x10) (f11 : FlO x11) (hn : n ≤ n0 + 8) (hnx : NxW ends evs pre e n0 De) : BX_2 (wO ends evs (some (.val (.str e.nm))) (some (.val (.int e.en))) (some (.val (.str e.kn))) (ndZ nd) x9 x10 x11 n) De := by
  let ev : Evt := ⟨e.nm, e.en, e.kn, true, nd⟩
  have ok' : EvOk (evs.map Evt.nm) ev := ⟨ok.nm, by rw [h.nm]; exact ok.new, ok.en, ok.kn, h1, h2, h3, fun z => by cases z⟩
  refine gs_app (ds := evs.map evT) (d := evT ev) rfl (.tup (.cons (.name rfl) (.cons (.name rfl) (.cons (.name rfl) (.one (.name rfl))))) rfl (Nat.le_of_ble_eq_true rfl)) rfl (by rw [List.length_map]; omega) ?_
  have := hnx ev (some (.val (.str e.nm))) (some (.val (.int e.en))) (some (.val (.str e.kn))) (ndZ nd) x9 x10 x11 n f9 f10 f11 ⟨wf_snoc h.wf ok' (by omega), by rw [List.map_append, List.map_append, h.nm]; rfl, fun a ha => by
    rcases List.mem_append.mp ha with q | q
    · exact h.nz a q
    · rw [List.mem_singleton.mp q]⟩ hn
  unfold wO at this
  rw [List.map_append] at this
  exact this
theorem wide_1 (h : Wide evs pre) (ok : EvOk (pre.map Evt.nm) e) (hl : evs.length ≤ 7) {left : List Str} (hp : (e.nd ++ left).Perm (evs.map Evt.nm)) (f10 : FlO x10) (f11 : FlO x11) (hn : n ≤ n0) (hn0 : n0 < 900000) (hnx : NxW ends evs pre e n0 De) : BX_1 (wO ends evs (some (.val (.str e.nm))) (some (.val (.int e.en))) (some (.val (.str e.kn))) (ndZ e.nd) (ndV left) x10 x11 n) De := by
  have sub : ∀ x ∈ e.nd, x ∈ evs.map Evt.nm := fun x hx => by rw [h.nm]; exact ok.sub x hx
  have hlen := hp.length_eq
  rw [List.length_append, List.length_map] at hlen
  have c1 : EvB (gTv (gBin (fB fun i j => decide (j < i)) (gCl fLen (gaCons (DL.gName 4) gaNil)) (gDat (.int 2)))) (wO ends evs (some (.val (.str e.nm))) (some (.val (.int e.en))) (some (.val (.str e.kn))) (ndZ e.nd) (ndV left) x10 x11 n) (decide ((2 : Int) < (evs.length : Nat))) := .v (.bin (.cl (w := .dat (.int (evs.length : Nat))) (.one (.nameO rfl)) rfl (by show some (W.dat (.int ((evs.map evT).length : Nat))) = _; rw [List.length_map])) .dt rfl rfl rfl) rfl
  refine gs_seq (if_run (tand_run (c1 _ ?_)))
  by_cases z : (2 : Int) < (evs.length : Nat)
  · rw [decide_eq_true z, if_pos rfl]
    refine tv_run (bin_run (drd rfl .dt (by decide) (by decide) (by show n < 1000000; omega) fun y y0 y1 => ⟨_, _, _, rfl, rfl, feq (okD_int _) (okD_int _), _, rfl, ?_⟩))
    rw [eqD_int]
    by_cases zy : y = 0
    · rw [decide_eq_true zy, if_pos rfl]
      refine gs_seq (gs_own (ds := e.nd.map D.str) (.cl (w := .new (e.nd.map D.str)) (.one (.name (d := .tpz (e.nd.map D.str)) rfl)) rfl rfl) ?_)
      dsimp only [Stt.put, List.set]
      obtain ⟨j, ej⟩ : ∃ j : Nat, j + e.nd.length = 3 := ⟨3 - e.nd.length, by have := ok.len; omega⟩
      refine gs_seq (gs_forL (L := List.range j) (dOf := fun i : Nat => D.int (i : Nat)) (fun pr s => ∃ (more lf : List Str) (x11 : Option En) (k : Nat), (more ++ lf).Perm (evs.map Evt.nm) ∧ FlO x11 ∧ more.length = e.nd.length + pr.length ∧ k ≤ n + 1 + pr.length ∧ s = wO ends evs (some (.val (.str e.nm))) (some (.val (.int e.en))) (some (.val (.str e.kn))) (ndZ e.nd) (ndV lf) (ndV more) x11 k) (.range1 (j := (j : Nat)) (.one (.bin (w := .dat (.int (j : Nat))) .dt (.cl (w := .dat (.int (e.nd.length : Nat))) (.one (.name (d := .tpz (e.nd.map D.str)) rfl)) rfl (by show some (W.dat (.int ((e.nd.map D.str).length : Nat))) = _; rw [List.length_map])) rfl rfl (by show some (W.dat (.int ((3 : Int) - (e.nd.length : Nat)))) = _; rw [show (3 : Int) - (e.nd.length : Nat) = (j : Nat) by omega]))) rfl ⟨by omega, by omega⟩) (by rw [Int.toNat_natCast]; exact range_eq _) ⟨e.nd, left, x11, n + 1, hp, f11, rfl, Nat.le_refl _, rfl⟩ ?_ ?_)
      · rintro pr q post s De' eL ⟨more, lf, y11, k, hpm, f11, hml, hk, rfl⟩ _ _ hnx2 _
        obtain ⟨rfl, hq⟩ := range_pos eL
        have hll := hpm.length_eq
        rw [List.length_append, List.length_map] at hll
        refine ⟨wO ends evs (some (.val (.str e.nm))) (some (.val (.int e.en))) (some (.val (.str e.kn))) (ndZ e.nd) (ndV lf) (ndV more) (natV pr.length) k, rfl, ?_⟩
        refine app_run ⟨_, rfl⟩ ⟨⟨_, rfl⟩, drd rfl (.cl (.one (.nameO rfl)) rfl (show fLen [.lst (lf.map D.str)] = some (.dat (.int (lf.length : Nat))) from by show some (W.dat (.int ((lf.map D.str).length : Nat))) = _; rw [List.length_map])) (by omega) (Nat.lt_of_lt_of_le (show _ < 1000 by omega) (by decide)) (by show k < 1000000; omega) fun v v0 v1 => ?_⟩
        obtain ⟨i, rfl⟩ : ∃ m : Nat, v = (m : Int) := ⟨v.toNat, by omega⟩
        have hi : i < lf.length := by omega
        refine ⟨i, .str lf[i], lf.map D.str, rfl, rfl, by rw [List.getElem?_map, List.getElem?_eq_getElem hi]; rfl, by omega, _, _, _, rfl, rfl, by rw [List.length_map]; omega, hnx2 _ ⟨more ++ [lf[i]], lf.eraseIdx i, natV pr.length, k + 1, perm_move (List.getElem?_eq_getElem hi) hpm, flO_val, by rw [List.length_append, List.length_append, hml]; rfl, by rw [List.length_append]; show k + 1 ≤ n + 1 + (pr.length + 1); omega, ?_⟩⟩
        simp [Stt.put, erase_map]
      · rintro s ⟨more, lf, y11, k, hpm, f11, hml, hk, rfl⟩
        rw [List.length_range] at hml hk
        dsimp only
        have hpn := hpm.nodup_iff.mpr h.wf.nodup
        refine gs_set (d := .tpz (more.map D.str)) (.cl (w := .dat (.tpz (more.map D.str))) (.one (.nameO rfl)) rfl rfl) rfl ?_
        exact wide_2 (n := k) (nd := more) h ok hl (List.nodup_append.mp hpn).1 (fun x hx => hpm.mem_iff.mp (List.mem_append_left _ hx)) (by omega) (flO_strs _) (flO_strs _) f11 (by omega) hnx
    · rw [decide_eq_false zy, if_neg Bool.false_ne_true]
      exact gs_nil (wide_2 (n := n + 1) h ok hl ok.nod sub ok.len (flO_strs _) f10 f11 (by omega) hnx)
  · rw [decide_eq_false z, if_neg Bool.false_ne_true, if_neg Bool.false_ne_true]
    exact gs_nil (wide_2 h ok hl ok.nod sub ok.len (flO_strs _) f10 f11 (by omega) hnx)
theorem notInZ_str {x : Str} {l : List Str} (h : strK x = true) (hl : ∀ y ∈ l, strK y = true) : fNotInZ (.str x) (.tpz (l.map D.str)) = some (.dat (.bl (!decide (x ∈ l)))) := by
  rw [← inD_str]
  have dk : Dk 1 (.tpz (l.map D.str)) := by
    have := Dk.tup (f := D.str) (n := 0) (l := l) fun x hx => dk_str (hl x hx)
    exact ⟨by have := this.pure; simpa [pureD] using this, by have := this.lay; simpa [toP] using this, by have := this.dep; simpa [toP] using this⟩
  exact if_pos ⟨okD_str h, dk.ok (by decide)⟩
theorem flatTs_strs (l : List Evt) : flatTs (l.map fun a => D.str a.nm) = true := by
  induction l with
  | nil => rfl
  | cons x l ih => simp [flatTs, flatT, ih]
theorem wide_0 (h : Wide evs pre) (ok : EvOk (pre.map Evt.nm) e) (hs : ∀ x ∈ e.nd, strK x = true) (hl : evs.length ≤ 7) (f9 : FlO x9) (f10 : FlO x10) (f11 : FlO x11) (hn : n ≤ n0) (hn0 : n0 < 900000) (hnx : NxW ends evs pre e n0 De) : BX_0 (wO ends evs (some (.val (.str e.nm))) (some (.val (.int e.en))) (some (.val (.str e.kn))) (ndZ e.nd) x9 x10 x11 n) De := by
  have lc : Ev (gLc (giSeq (DL.gName 4)) (tgName 12) (gTv (gBin fNotInZ (gBin fIx (DL.gName 12) (gDat (.int 0))) (DL.gName 8))) (gBin fIx (DL.gName 12) (gDat (.int 0))) [12]) ((wO ends evs (some (.val (.str e.nm))) (some (.val (.int e.en))) (some (.val (.str e.kn))) (ndZ e.nd) x9 x10 x11 n).put 4 (.val (.lst (evs.map evT)))) (.new ((evs.filter fun a => !decide (a.nm ∈ e.nd)).map fun a => D.str a.nm)) := by
    refine .lc (xs := evs) (dOf := evT) (.seq (d := .lst (evs.map evT)) (.name rfl) rfl rfl) rfl (by omega) fun a ha => ?_
    have e0 : Ev (gBin fIx (DL.gName 12) (gDat (.int 0))) ⟨[some .bag, some (.val (.int ends)), some (.val (.int 1)), some (.val (.int 7)), some (.val (.lst (evs.map evT))), some (.val (.str e.nm)), some (.val (.int e.en)), some (.val (.str e.kn)), ndZ e.nd, x9, x10, x11, some (.val (evT a))], n⟩ (.dat (.str a.nm)) := .bin (.name rfl) .dt rfl rfl rfl
    exact ⟨⟨[some .bag, some (.val (.int ends)), some (.val (.int 1)), some (.val (.int 7)), some (.val (.lst (evs.map evT))), some (.val (.str e.nm)), some (.val (.int e.en)), some (.val (.str e.kn)), ndZ e.nd, x9, x10, x11, some (.val (evT a))], n⟩, rfl, rfl, .v (.bin (w := .dat (.bl (!decide (a.nm ∈ e.nd)))) e0 (.name (d := .tpz (e.nd.map D.str)) rfl) rfl rfl (notInZ_str (h.wf.str a ha) hs)) rfl, fun _ => ⟨_, e0, rfl⟩⟩
  refine gs_seq (gs_own (Ev.loanF rfl (wO_flat f9 f10 f11) lc (flatTs_strs _)) ?_)
  have e1 : ((evs.filter fun a => !decide (a.nm ∈ e.nd)).map fun a => D.str a.nm) = ((evs.map Evt.nm).filter fun x => !decide (x ∈ e.nd)).map D.str := by
    rw [List.filter_map, List.map_map]
    rfl
  rw [e1]
  exact wide_1 h ok hl (left_perm h.wf.nodup ok.nod (fun x hx => by rw [h.nm]; exact ok.sub x hx) rfl) f10 f11 hn hn0 hnx
end
theorem hl_law_wide_order : ∀ ds n Φ, S_law_wide_order ds n Φ → ds.length = 3 := by rintro ds n Φ ⟨_, rfl, _⟩; rfl
theorem hB_law_wide_order : ∀ ds n Φ, S_law_wide_order ds n Φ → B_law_wide_order ⟨startB n_law_wide_order ds, n⟩ (retB Φ) := by
  rintro ds n Φ ⟨ends, rfl, h1, h2, hn, h⟩
  rw [B_law_wide_order_eq]
  show BW_0 ⟨[some .bag, some (.val (.int ends)), some (.val (.int 1)), some (.val (.int 7)), none, none, none, none, none, none, none, none, none], n⟩ (retB Φ)
  refine gs_seq (gs_own (ds := []) (.lst .nil rfl (by decide)) ?_)
  show BW_1 (wO ends [] none none none none none none none n) (retB Φ)
  refine gs_seq (for_run (callB rfl (.cons (.name rfl) (.cons (.name rfl) (.one (.name rfl)))) rfl ⟨ends, rfl, h1, h2, by show n < 800000; omega, fun evs0 n1 ok0 hn1 => ⟨_, _, _, rfl, rfl, ?_⟩⟩))
  have hn1' : n1 ≤ n + 100 := hn1
  refine gs_loop (L := evs0) (dOf := evT) (fun pre s => ∃ (evs : List Evt) (x5 x6 x7 x8 x9 x10 x11 : Option En) (k : Nat), Wide evs pre ∧ FlO x9 ∧ FlO x10 ∧ FlO x11 ∧ k ≤ n1 + 8 * pre.length ∧ s = wO ends evs x5 x6 x7 x8 x9 x10 x11 k) ?_ ?_ evs0 [] _ rfl ⟨[], none, none, none, none, none, none, none, n1, ⟨⟨by decide, fun pre e post h => by simp at h⟩, rfl, fun e he => by cases he⟩, flO_none, flO_none, flO_none, by simp, rfl⟩
  · rintro pre e post s De' eL ⟨evs, x5, x6, x7, x8, x9, x10, x11, k, hw, f9, f10, f11, hk, rfl⟩ _ _ hnx _
    have me : e ∈ evs0 := by rw [eL]; simp
    have l7 := ok0.len
    rw [eL, List.length_append, List.length_cons] at l7
    have hel := congrArg List.length hw.nm
    rw [List.length_map, List.length_map] at hel
    refine ⟨wO ends evs (some (.val (.str e.nm))) (some (.val (.int e.en))) (some (.val (.str e.kn))) (some (.val (ndD e))) x9 x10 x11 k, rfl, ?_⟩
    have hnd : ndD e = .tpz (e.nd.map D.str) := by unfold ndD; rw [ok0.nz e me]
    rw [hnd]
    exact wide_0 (n0 := k) hw (ok0.wf.ok pre e post eL) (nd_str ok0.wf me) (by omega) f9 f10 f11 (Nat.le_refl _) (by omega) fun e' y5 y6 y7 y8 y9 y10 y11 n' g9 g10 g11 hw' hn' => hnx _ ⟨evs ++ [e'], y5, y6, y7, y8, y9, y10, y11, n', hw', g9, g10, g11, by rw [List.length_append]; show n' ≤ n1 + 8 * (pre.length + 1); omega, rfl⟩
  · rintro s ⟨evs, x5, x6, x7, x8, x9, x10, x11, k, hw, _, _, _, hk, rfl⟩
    have hel := congrArg List.length hw.nm
    rw [List.length_map, List.length_map] at hel
    have l7 := ok0.len
    have l1 := ok0.pos
    dsimp only
    refine gs_ret (.nameO rfl) ⟨_, _, rfl, h evs k ⟨hw.wf, by omega, by omega, hw.nz, fun e he => ?_⟩ (by omega)⟩
    have : e.nm ∈ evs0.map Evt.nm := by rw [← hw.nm]; exact List.mem_map.mpr ⟨e, he, rfl⟩
    obtain ⟨a, ha, ea⟩ := List.mem_map.mp this
    rw [← ea]
    exact ok0.nl a ha
end K21
set_option maxHeartbeats 1000000
namespace K21
open PySem PySem.Spec PyProof.Rows L2 Ax DL
abbrev BG_4 : GS := (gsRet (DL.gTup (gaCons (DL.gName 5) (gaCons (DL.gTup (gaCons (DL.gName 4) (gaCons (DL.gName 9) (gaCons (gCall S_law_answer [] (gaCons (DL.gName 2) (gaCons (DL.gName 4) (gaCons (DL.gName 9) gaNil)))) gaNil)))) gaNil))))
abbrev BG_3 : GS := gsSeq (gsSet 9 (gCl fTuple (gaCons (gLc (giSeq (DL.gName 7)) (tgName 10) gYes (gCallB 0 SDraw (gaCons (gDat (.int 3)) gaNil)) [10]) gaNil))) BG_4
abbrev BG_2 : GS := gsSeq (gsIf (gTOr (gTv (gBin fEq (DL.gName 6) (gDat (.str ("action" : Str))))) (gTv (gBin (fB fun i j => decide (j < i)) (gCallB 0 SDraw (gaCons (gDat (.int 4)) gaNil)) (gDat (.int 0))))) (gsRet (DL.gTup (gaCons (DL.gName 5) (gaCons (DL.gTup (gaCons (DL.gName 4) (gaCons (gBin fIx (DL.gName 8) (gDat (.int 0))) (gaCons (gBin fIx (DL.gName 8) (gDat (.int 1))) gaNil)))) gaNil)))) gsNil) BG_3
abbrev BG_1 : GS := gsSeq (gsSet 8 (gIxC (gCall S_law_true [] (gaCons (DL.gName 1) (gaCons (DL.gName 2) gaNil))) (DL.gName 4))) BG_2
abbrev BG_0 : GS := gsSeq (gsAsg (tgTup 4 (tgCons (tgName 4) (tgCons (tgName 5) (tgCons (tgName 6) (tgCons (tgName 7) tgNil))))) (gBin fIx (DL.gName 1) (gCallB 0 SDraw (gaCons (gCl fLen (gaCons (DL.gName 1) gaNil)) gaNil)))) BG_1
theorem B_law_grown_eq : B_law_grown = BG_0 := rfl
theorem loop_gen {j c N : Nat} {ge : GX} {P : D → Prop} {Φ : List D → Stt → Prop} (F : Option En → Nat → Stt) (h1 : ∀ x n d, tgName j d ((F x n).wipe [j]) = some (F (some (.val d)) n))
    (hge : ∀ x n (Ψ : W → Stt → Prop), n < N → (∀ v n', P v → n' ≤ n + c → Ψ (.dat v) (F x n')) → ge (F x n) Ψ) : ∀ (ds acc : List D) (x : Option En) (n : Nat), n + c * ds.length < N → (∀ e ∈ acc, P e) →
    (∀ (acc' : List D) (x' : Option En) (n' : Nat), acc'.length = acc.length + ds.length → (∀ e ∈ acc', P e) → n' ≤ n + c * ds.length → Φ acc' (F x' n')) → loopC (tgName j) gYes ge [j] ds acc (F x n) Φ
  | [], acc, x, n, hn, hp, q => q acc x n rfl hp (Nat.le_refl _)
  | d :: ds, acc, x, n, hn, hp, q => by
    rw [List.length_cons, Nat.mul_add, Nat.mul_one] at hn
    refine ⟨_, h1 x n d, EvB.yes _ ?_⟩
    rw [if_pos rfl]
    refine hge _ n _ (by omega) fun v n' hv h => ⟨v, _, rfl, ?_⟩
    exact loop_gen F h1 hge ds (acc ++ [v]) (some (.val d)) n' (by omega) (fun e he => (List.mem_append.mp he).elim (hp e) fun z => by rw [List.mem_singleton.mp z]; exact hv)
      fun acc' x' n2 e1 e2 e3 => q acc' x' n2 (by rw [e1, List.length_append, List.length_cons, List.length_cons, List.length_nil]; omega) e2 (by rw [List.length_cons, Nat.mul_add, Nat.mul_one]; omega)
theorem draws_ex : ∀ {l : List D}, (∀ e ∈ l, ∃ i : Int, e = .int i ∧ 0 ≤ i ∧ i < 3) → ∃ ns : List Int, l = ns.map D.int ∧ ∀ i ∈ ns, i.natAbs < 3
  | [], _ => ⟨[], rfl, fun _ h => by cases h⟩
  | d :: l, h => by
    obtain ⟨i, rfl, h0, h1⟩ := h d List.mem_cons_self
    obtain ⟨ns, e, hn⟩ := draws_ex fun e he => h e (List.mem_cons_of_mem _ he)
    refine ⟨i :: ns, by rw [e]; rfl, fun j hj => ?_⟩
    rcases List.mem_cons.mp hj with q | q
    · rw [q]; omega
    · exact hn j q
abbrev grS (evs : List Evt) (rows : List E) (b f : Int) (d : D) (x4 x5 x6 x7 x8 x9 x10 : Option En) (n : Nat) : Stt := ⟨[some .bag, some (.val (.lst (evs.map evT))), some (.val (wlL rows b f)), some (.val d), x4, x5, x6, x7, x8, x9, x10], n⟩
abbrev evS (evs : List Evt) (rows : List E) (b f : Int) (d : D) (e : Evt) (x8 x9 x10 : Option En) (n : Nat) : Stt := grS evs rows b f d (some (.val (.str e.nm))) (some (.val (.int e.en))) (some (.val (.str e.kn))) (some (.val (ndD e))) x8 x9 x10 n
theorem asg_run {f : D → Stt → Option Stt} {g : GX} {s : Stt} {De : EndsD} (h : g s fun w s1 => ∃ d s2 s3, frz w s1 = some (d, s2) ∧ f d s2 = some s3 ∧ De.nx s3) : gsAsg f g s De := h
theorem hl_law_grown : ∀ ds n Φ, S_law_grown ds n Φ → ds.length = 3 := by rintro ds n Φ ⟨_, _, _, _, _, _, rfl, _⟩; rfl
theorem tru_zip (evs : List Evt) (φ : Str → Int) : ((evs.map fun e => (.inr e.nm : L2.Key)).zip (evs.map fun e => D.tup [kD (e.nd.map φ), .int (φ e.nm)])) = envT evs φ := by
  rw [List.zip_map']
theorem hB_law_grown : ∀ ds n Φ, S_law_grown ds n Φ → B_law_grown ⟨startB n_law_grown ds, n⟩ (retB Φ) := by
  rintro ds n Φ ⟨evs, rows, b, f, φ, d, rfl, wf, pos, hn, hf, sol, hb, h⟩
  have l12 := wf.len
  have ln : Ev (gCl fLen (gaCons (DL.gName 1) gaNil)) (grS evs rows b f d none none none none none none none n) (.dat (.int (evs.length : Nat))) := .cl (w := .dat (.int (evs.length : Nat))) (.one (.name (d := .lst (evs.map evT)) rfl)) rfl (by show some (W.dat (.int ((evs.map evT).length : Nat))) = _; rw [List.length_map])
  have rest : ∀ e ∈ evs, BG_1 (evS evs rows b f d e none none none (n + 1)) (retB Φ) := fun e me => by
    obtain ⟨pre, ok⟩ := wf.at_ me
    refine gs_seq (gs_set (d := truV φ e) (.ixC (k := .inr e.nm) (kvs := envT evs φ) (.call (d := truD evs φ) (.cons (.name rfl) (.one (.name rfl))) rfl fun Φ q => ⟨evs, rows, b, f, φ, rfl, wf, hf, sol, hb, q⟩) (.name rfl) (congrArg some (tru_zip evs φ)) rfl (envT_at wf me)) rfl ?_)
    show BG_2 (evS evs rows b f d e (some (.val (truV φ e))) none none (n + 1)) (retB Φ)
    have c1 : EvB (gTv (gBin fEq (DL.gName 6) (gDat (.str ("action" : Str))))) (evS evs rows b f d e (some (.val (truV φ e))) none none (n + 1)) (decide (e.kn = ("action" : Str))) := .v (.bin (w := .dat (.bl (decide (e.kn = ("action" : Str))))) (.name rfl) .dt rfl rfl (eq_str (strKn ok) str_action)) rfl
    have ret : ∀ n', n' ≤ n + 20 → gsRet (DL.gTup (gaCons (DL.gName 5) (gaCons (DL.gTup (gaCons (DL.gName 4) (gaCons (gBin fIx (DL.gName 8) (gDat (.int 0))) (gaCons (gBin fIx (DL.gName 8) (gDat (.int 1))) gaNil)))) gaNil))) (evS evs rows b f d e (some (.val (truV φ e))) none none n') (retB Φ) := fun n' hn' => by
      refine gs_ret (w := .dat (.tup [.int e.en, eD (e.nm, e.nd.map φ, φ e.nm)])) (.tup (.cons (.name rfl) (.one (.tup (ds := [.str e.nm, kD (e.nd.map φ), .int (φ e.nm)]) (.cons (.name rfl) (.cons (.bin (.name (d := truV φ e) rfl) .dt rfl rfl rfl) (.one (.bin (w := .dat (.int (φ e.nm))) (.name (d := truV φ e) rfl) .dt rfl rfl rfl)))) rfl (Nat.le_of_ble_eq_true rfl)))) rfl (Nat.le_of_ble_eq_true rfl)) ⟨_, _, rfl, ?_⟩
      have := h e (e.nd.map φ) n' me (by rw [List.length_map]) hn'
      rw [← sol e me] at this
      exact this
    refine gs_seq (if_run (tor_run (c1 _ ?_)))
    by_cases z : e.kn = ("action" : Str)
    · rw [decide_eq_true z, if_pos rfl]
      exact ret (n + 1) (by omega)
    · rw [decide_eq_false z, if_neg Bool.false_ne_true]
      refine tv_run (bin_run (drd (s := evS evs rows b f d e (some (.val (truV φ e))) none none (n + 1)) rfl .dt (by decide) (by decide) (by show n + 1 < 1000000; omega) fun y y0 y1 => ⟨_, _, .dat (.bl (decide ((0 : Int) < y))), rfl, rfl, rfl, _, rfl, ?_⟩))
      by_cases zy : (0 : Int) < y
      · rw [decide_eq_true zy, if_pos rfl]
        exact ret (n + 2) (by omega)
      · rw [decide_eq_false zy, if_neg Bool.false_ne_true]
        refine gs_nil ?_
        show BG_3 (evS evs rows b f d e (some (.val (truV φ e))) none none (n + 2)) (retB Φ)
        refine gs_seq (set_run (cl_run (ga_run (lcR (s := evS evs rows b f d e (some (.val (truV φ e))) none none (n + 2)) (EvI.seq (d := ndD e) (.name rfl) rfl (nd_items e)) (by rw [List.length_map]; have := ok.len; omega) ?_))))
        refine loop_gen (N := 950000) (c := 1) (P := fun d => ∃ i : Int, d = .int i ∧ 0 ≤ i ∧ i < 3) (fun x n => evS evs rows b f d e (some (.val (truV φ e))) none x n) (fun x n d => rfl) (fun x m Ψ hm q => drd (s := evS evs rows b f d e (some (.val (truV φ e))) none x m) rfl .dt (by decide) (by decide) (by show m < 1000000; omega) fun v v0 v1 => q (.int v) (m + 1) ⟨v, rfl, v0, v1⟩ (Nat.le_refl _)) (e.nd.map D.str) [] none (n + 2) (by rw [List.length_map]; have := ok.len; omega) (fun _ h => by cases h) fun acc' x' n' e1 e2 e3 => ?_
        obtain ⟨ks, rfl, hks⟩ := draws_ex e2
        rw [List.length_map, List.length_nil, List.length_map, Nat.zero_add] at e1
        rw [List.length_map] at e3
        have l3 := ok.len
        refine ⟨_, .dat (kD ks), rfl, rfl, _, _, rfl, ?_⟩
        show BG_4 (evS evs rows b f d e (some (.val (truV φ e))) (some (.val (kD ks))) none n') (retB Φ)
        refine gs_ret (w := .dat (.tup [.int e.en, eD (e.nm, ks, ansR rows b f e.nm ks)])) (.tup (.cons (.name rfl) (.one (.tup (ds := [.str e.nm, kD ks, .int (ansR rows b f e.nm ks)]) (.cons (.name rfl) (.cons (.name rfl) (.one (.call (d := .int (ansR rows b f e.nm ks)) (.cons (.name rfl) (.cons (.name rfl) (.one (.name rfl)))) rfl fun Φ q => ⟨rows, b, f, e.nm, ks, rfl, ⟨by omega, fun x hx => small_lt (by have := hks x hx; omega) (by decide)⟩, hf, q⟩)))) rfl (Nat.le_of_ble_eq_true rfl)))) rfl (Nat.le_of_ble_eq_true rfl)) ⟨_, _, rfl, ?_⟩
        exact h e ks n' me e1 (by omega)
  rw [B_law_grown_eq]
  show BG_0 (grS evs rows b f d none none none none none none none n) (retB Φ)
  refine gs_seq (asg_run ?_)
  refine binR (w1 := .dat (.lst (evs.map evT))) (.name rfl) (drd rfl ln (by omega) (Nat.lt_of_lt_of_le (show _ < 1000 by omega) (by decide)) (by show n < 1000000; omega) fun v v0 v1 => ?_)
  obtain ⟨j, rfl⟩ : ∃ j : Nat, v = (j : Int) := ⟨v.toNat, by omega⟩
  have hj : j < evs.length := by omega
  exact ⟨_, _, _, rfl, rfl, ix_lst (d := evT evs[j]) (by rw [List.getElem?_map, List.getElem?_eq_getElem hj]; rfl), _, _, _, rfl, rfl, rest evs[j] (List.getElem_mem hj)⟩
end K21
set_option maxHeartbeats 1000000
namespace K21
open PySem PySem.Spec PyProof.Rows L2 Ax DL
/-! ### tables of true answers -/
def EntOk (evs : List Evt) (ans : Str → List Int → Int) (r : E) : Prop := ∃ e ∈ evs, r.1 = e.nm ∧ r.2.1.length = e.nd.length ∧ r.2.2 = ans r.1 r.2.1
def Good (evs : List Evt) (ans : Str → List Int → Int) (T : TB) : Prop := ∀ p ∈ T, ∀ r ∈ p.2, EntOk evs ans r
section
variable {evs : List Evt} {ans : Str → List Int → Int} {T T' : TB} {t : List E} {φ : Str → Int}
theorem Good.tab (h : Good evs ans T) (en : Int) : ∀ r ∈ tabT T en, EntOk evs ans r := by
  unfold tabT
  split
  · rename_i p e
    exact h p (List.mem_of_find?_eq_some e)
  · intro r hr; cases hr
theorem findV_some {n : Str} {k : List Int} (h : (findV t n k).isSome = true) : ∃ r ∈ t, hd r = (n, k) := by
  unfold findV at h
  rw [Option.isSome_map] at h
  obtain ⟨r, hr⟩ := Option.isSome_iff_exists.mp h
  exact ⟨r, List.mem_of_find?_eq_some hr, by simpa using List.find?_some hr⟩
theorem findV_ex {r : E} (h : r ∈ t) : (findV t r.1 r.2.1).isSome = true := by
  unfold findV
  rw [Option.isSome_map, List.find?_isSome]
  exact ⟨r, h, by simp⟩
theorem findV_val {n : Str} {k : List Int} {v : Int} (h : ∀ r ∈ t, EntOk evs ans r) (hv : findV t n k = some v) : v = ans n k := by
  unfold findV at hv
  obtain ⟨r, hr, e⟩ := Option.map_eq_some_iff.mp hv
  have h1 : hd r = (n, k) := by simpa using List.find?_some hr
  obtain ⟨_, _, _, _, h2⟩ := h r (List.mem_of_find?_eq_some hr)
  have e1 : r.1 = n := congrArg (·.1) h1
  have e2 : r.2.1 = k := congrArg (·.2) h1
  rw [← e, h2, e1, e2]
theorem with_mem {e r : E} : r ∈ withF t e → r ∈ t ∨ r = e := by
  intro h
  unfold withF at h
  split at h
  · exact .inl h
  · rcases List.mem_append.mp (mem_sortE.mp h) with q | q
    · exact .inl q
    · exact .inr (List.mem_singleton.mp q)
theorem with_sub {e r : E} (h : r ∈ t) : r ∈ withF t e := by
  unfold withF
  split
  · exact h
  · exact mem_sortE.mpr (List.mem_append_left _ h)
theorem with_len {e : E} : (withF t e).length ≤ t.length + 1 := by
  unfold withF
  split
  · omega
  · rw [sortE_len, List.length_append]; exact Nat.le_refl _
theorem with_has {e : E} : (findV (withF t e) e.1 e.2.1).isSome = true := by
  unfold withF
  split
  · assumption
  · exact findV_ex (mem_sortE.mpr (List.mem_append_right _ (List.mem_singleton.mpr rfl)))
theorem with_pos {e : E} : 1 ≤ (withF t e).length := by
  obtain ⟨r, hr, _⟩ := findV_some (with_has (t := t) (e := e))
  exact List.length_pos_of_mem hr
theorem with_ok {e : E} (h : ∀ r ∈ t, EntOk evs ans r) (he : EntOk evs ans e) : ∀ r ∈ withF t e, EntOk evs ans r := fun r hr => (with_mem hr).elim (h r) fun q => q ▸ he
theorem with_val {e : E} (h : ∀ r ∈ t, EntOk evs ans r) (he : EntOk evs ans e) : findV (withF t e) e.1 e.2.1 = some e.2.2 := by
  obtain ⟨v, hv⟩ := Option.isSome_iff_exists.mp (with_has (t := t) (e := e))
  rw [hv, findV_val (with_ok h he) hv]
  obtain ⟨_, _, _, _, h2⟩ := he
  rw [← h2]
theorem longer {e : E} (wf : Wf evs) (h : ∀ r ∈ t, EntOk evs ans r) (he : EntOk evs ans e) : findV t e.1 (e.2.1 ++ [0]) = none := by
  refine findV_none fun r hr z => ?_
  obtain ⟨a, ha, a1, a2, _⟩ := h r hr
  obtain ⟨c, hc, c1, c2, _⟩ := he
  have z1 : r.1 = e.1 := congrArg (·.1) z
  have z2 : r.2.1 = e.2.1 ++ [0] := congrArg (·.2) z
  have : a = c := by
    obtain ⟨i, hi⟩ := List.mem_iff_getElem?.mp ha
    obtain ⟨j, hj⟩ := List.mem_iff_getElem?.mp hc
    have := wf.inj hi hj (by rw [← a1, ← c1, z1])
    rw [this, hj] at hi
    exact (Option.some.inj hi).symm
  rw [z2, List.length_append, c2, this] at a2
  simp at a2
/-! ### what comes out of a play -/
theorem val_true {acc : List E} (h : ∀ r ∈ acc, ∃ e ∈ evs, r = rowE φ e) {x : Str} {v : Int} (hv : valF acc x = some v) : v = φ x := by
  unfold valF at hv
  obtain ⟨r, hr, e⟩ := Option.map_eq_some_iff.mp hv
  have h1 : r.1 = x := by simpa using List.find?_some hr
  obtain ⟨a, _, ea⟩ := h r (List.mem_of_find?_eq_some hr)
  rw [← e, ← h1, ea]
theorem val_some {acc : List E} {x : Str} : (valF acc x).isSome = true ↔ x ∈ acc.map (·.1) := by
  unfold valF
  rw [Option.isSome_map, List.find?_isSome, List.mem_map]
  exact ⟨fun ⟨r, hr, e⟩ => ⟨r, hr, of_decide_eq_true e⟩, fun ⟨r, hr, e⟩ => ⟨r, hr, decide_eq_true e⟩⟩
theorem key_true {acc : List E} (h : ∀ r ∈ acc, ∃ e ∈ evs, r = rowE φ e) {nd : List Str} {k : List Int} (hk : keyF acc nd = some k) : k = nd.map φ ∧ ∀ x ∈ nd, x ∈ acc.map (·.1) := by
  unfold keyF at hk
  split at hk
  · rename_i c
    have c' := List.all_eq_true.mp c
    refine ⟨?_, fun x hx => val_some.mp (c' x hx)⟩
    rw [← Option.some.inj hk]
    refine List.map_congr_left fun x hx => ?_
    obtain ⟨v, hv⟩ := Option.isSome_iff_exists.mp (c' x hx)
    rw [hv]
    exact val_true h hv
  · cases hk
theorem key_of_mem {acc : List E} (h : ∀ r ∈ acc, ∃ e ∈ evs, r = rowE φ e) {nd : List Str} (hx : ∀ x ∈ nd, x ∈ acc.map (·.1)) : keyF acc nd = some (nd.map φ) := by
  unfold keyF
  rw [if_pos (List.all_eq_true.mpr fun x hm => val_some.mpr (hx x hm))]
  refine congrArg some (List.map_congr_left fun x hm => ?_)
  obtain ⟨v, hv⟩ := Option.isSome_iff_exists.mp (val_some.mpr (hx x hm))
  rw [hv]
  exact val_true h hv
theorem step_true (sol : Sol evs ans φ) (g : Good evs ans T) {acc : List E} (h : ∀ r ∈ acc, ∃ e ∈ evs, r = rowE φ e) {e : Evt} (he : e ∈ evs) : ∀ r ∈ stepP T acc e, ∃ e ∈ evs, r = rowE φ e := by
  intro r hr
  unfold stepP at hr
  split at hr
  · exact h r hr
  · rename_i k hk
    split at hr
    · exact h r hr
    · rename_i v hv
      rcases List.mem_append.mp hr with q | q
      · exact h r q
      · refine ⟨e, he, ?_⟩
        have hk' := (key_true h hk).1
        have := findV_val (g.tab e.en) hv
        rw [List.mem_singleton.mp q]
        show (e.nm, k, v) = (e.nm, e.nd.map φ, φ e.nm)
        rw [this, hk', ← sol e he]
theorem fold_inv {α β : Type} (f : α → β → α) (P : α → Prop) : ∀ (l : List β) (a : α), P a → (∀ a, P a → ∀ b ∈ l, P (f a b)) → P (l.foldl f a)
  | [], a, h, _ => h
  | b :: l, a, h, hs => fold_inv f P l (f a b) (hs a h b List.mem_cons_self) fun a h c hc => hs a h c (List.mem_cons_of_mem _ hc)
theorem play_true (sol : Sol evs ans φ) (g : Good evs ans T) : ∀ r ∈ playF T evs, ∃ e ∈ evs, r = rowE φ e :=
  fold_inv (stepP T) (fun acc => ∀ r ∈ acc, ∃ e ∈ evs, r = rowE φ e) evs [] (fun _ h => by cases h) fun acc h e he => step_true sol g h he
/-- T' tells all that T tells -/
def Below (T T' : TB) : Prop := ∀ en n k, (findV (tabT T en) n k).isSome = true → (findV (tabT T' en) n k).isSome = true
theorem play_below (sol : Sol evs ans φ) (g : Good evs ans T) (g' : Good evs ans T') (b : Below T T') : ∀ r ∈ playF T evs, r ∈ playF T' evs := by
  have key : ∀ (l : List Evt) (acc acc' : List E), (∀ e ∈ l, e ∈ evs) → (∀ r ∈ acc, ∃ e ∈ evs, r = rowE φ e) → (∀ r ∈ acc', ∃ e ∈ evs, r = rowE φ e) → (∀ r ∈ acc, r ∈ acc') → ∀ r ∈ l.foldl (stepP T) acc, r ∈ l.foldl (stepP T') acc' := by
    intro l
    induction l with
    | nil => intro acc acc' _ _ _ h; exact h
    | cons e l ih =>
      intro acc acc' hl h h' hs
      have he := hl e List.mem_cons_self
      refine ih (stepP T acc e) (stepP T' acc' e) (fun x hx => hl x (List.mem_cons_of_mem _ hx)) (step_true sol g h he) (step_true sol g' h' he) fun r hr => ?_
      have old : ∀ r ∈ acc', r ∈ stepP T' acc' e := fun r hr => by
        unfold stepP
        split
        · exact hr
        · split
          · exact hr
          · exact List.mem_append_left _ hr
      have hr0 := hr
      unfold stepP at hr
      split at hr
      · exact old r (hs r hr)
      · rename_i k hk
        split at hr
        · exact old r (hs r hr)
        · rename_i v hv
          rcases List.mem_append.mp hr with q | q
          · exact old r (hs r q)
          · obtain ⟨k1, k2⟩ := key_true h hk
            have k3 : keyF acc' e.nd = some (e.nd.map φ) := key_of_mem h' fun x hx => by
              obtain ⟨r2, m, e2⟩ := List.mem_map.mp (k2 x hx)
              exact List.mem_map.mpr ⟨r2, hs r2 m, e2⟩
            have v2 := b e.en e.nm k (by rw [hv]; rfl)
            obtain ⟨v', hv'⟩ := Option.isSome_iff_exists.mp v2
            have a1 := findV_val (g.tab e.en) hv
            have a2 := findV_val (g'.tab e.en) hv'
            rw [List.mem_singleton.mp q]
            unfold stepP
            rw [k3]
            simp only [← k1, hv', a1, a2]
            exact List.mem_append_right _ (List.mem_singleton.mpr rfl)
  exact key evs [] [] (fun _ h => h) (fun _ h => by cases h) (fun _ h => by cases h) fun _ h => by cases h
theorem play_same (h : ∀ en, tabT T en = tabT T' en) : playF T evs = playF T' evs := by
  have : stepP T = stepP T' := by
    funext acc e
    unfold stepP
    rw [h]
  unfold playF
  rw [this]
theorem play_nil : playF [] evs = [] := by
  refine fold_inv (stepP []) (fun acc => acc = []) evs [] rfl fun acc h e _ => ?_
  subst h
  unfold stepP
  split
  · rfl
  · rfl
/-! ### tables put -/
def putT (T : TB) (en : Int) (t : List E) : TB := if (T.any fun p => decide (p.1 = en)) = true then T.map (fun p => if p.1 = en then (p.1, t) else p) else T ++ [(en, t)]
theorem putT_tb (T : TB) (en : Int) (t : List E) : putC (tbL T) (.inl en) (.tup (t.map eD)) = tbL (putT T en t) := by
  unfold putC putT
  have e : ((tbL T).any fun p => decide (p.1 = (.inl en : L2.Key))) = T.any fun p => decide (p.1 = en) := by
    rw [List.any_map]
    refine congrArg (fun f => T.any f) (funext fun p => ?_)
    exact decide_eq_decide.mpr ⟨fun z => Sum.inl.inj z, fun z => congrArg Sum.inl z⟩
  rw [e]
  split
  · show (List.map _ (List.map _ T)) = List.map _ (List.map _ T)
    rw [List.map_map, List.map_map]
    refine List.map_congr_left fun p _ => ?_
    show (if (Sum.inl p.1 : L2.Key) = .inl en then _ else _) = _
    by_cases c : p.1 = en
    · rw [if_pos (by rw [c])]
      show _ = (fun p : Int × List E => ((Sum.inl p.1 : L2.Key), D.tup (p.2.map eD))) (if p.1 = en then (p.1, t) else p)
      rw [if_pos c]
    · rw [if_neg fun z => c (Sum.inl.inj z)]
      show _ = (fun p : Int × List E => ((Sum.inl p.1 : L2.Key), D.tup (p.2.map eD))) (if p.1 = en then (p.1, t) else p)
      rw [if_neg c]
  · show _ = List.map _ (T ++ [(en, t)])
    rw [List.map_append]
    rfl
theorem tabT_cons (p : Int × List E) (T : TB) (x : Int) : tabT (p :: T) x = if p.1 = x then p.2 else tabT T x := by
  unfold tabT
  by_cases c : p.1 = x
  · rw [if_pos c, List.find?_cons_of_pos (by exact decide_eq_true c)]
  · rw [if_neg c, List.find?_cons_of_neg (by exact fun z => c (of_decide_eq_true z))]
theorem tabT_map (en : Int) (t : List E) (x : Int) : ∀ T : TB, (∃ p ∈ T, p.1 = en) → tabT (T.map fun p => if p.1 = en then (p.1, t) else p) x = if x = en then t else tabT T x
  | [], h => by obtain ⟨_, h, _⟩ := h; cases h
  | p :: T, h => by
    rw [List.map_cons, tabT_cons, tabT_cons]
    by_cases c : p.1 = en
    · rw [if_pos c]
      by_cases cx : x = en
      · rw [if_pos cx, if_pos (c.trans cx.symm)]
      · rw [if_neg cx, if_neg fun z => cx (z.symm.trans c), if_neg fun z => cx (z.symm.trans c)]
        by_cases h2 : ∃ p ∈ T, p.1 = en
        · rw [tabT_map en t x T h2, if_neg cx]
        · have : T.map (fun p => if p.1 = en then (p.1, t) else p) = T := (List.map_congr_left fun q hq => if_neg fun z => h2 ⟨q, hq, z⟩).trans (List.map_id' T)
          rw [this]
    · rw [if_neg c]
      have h2 : ∃ p ∈ T, p.1 = en := by
        obtain ⟨q, hq, e⟩ := h
        rcases List.mem_cons.mp hq with z | z
        · exact absurd (z ▸ e) c
        · exact ⟨q, z, e⟩
      rw [tabT_map en t x T h2]
      by_cases cx : p.1 = x
      · rw [if_pos cx, if_neg fun z => c (cx.trans z), if_pos cx]
      · rw [if_neg cx, if_neg cx]
theorem tabT_app (en : Int) (t : List E) (x : Int) : ∀ T : TB, (¬ ∃ p ∈ T, p.1 = en) → tabT (T ++ [(en, t)]) x = if x = en then t else tabT T x
  | [], h => by
    rw [List.nil_append, tabT_cons]
    by_cases cx : x = en
    · rw [if_pos cx, if_pos cx.symm]
    · rw [if_neg cx, if_neg fun z => cx z.symm]
  | p :: T, h => by
    rw [List.cons_append, tabT_cons, tabT_cons, tabT_app en t x T fun ⟨q, hq, e⟩ => h ⟨q, List.mem_cons_of_mem _ hq, e⟩]
    have c : p.1 ≠ en := fun z => h ⟨p, List.mem_cons_self, z⟩
    by_cases cx : p.1 = x
    · rw [if_pos cx, if_neg fun z => c (cx.trans z), if_pos cx]
    · rw [if_neg cx, if_neg cx]
theorem tabT_put (T : TB) (en : Int) (t : List E) (x : Int) : tabT (putT T en t) x = if x = en then t else tabT T x := by
  unfold putT
  by_cases h : (T.any fun p => decide (p.1 = en)) = true
  · rw [if_pos h]
    refine tabT_map en t x T ?_
    obtain ⟨p, hp, e⟩ := List.any_eq_true.mp h
    exact ⟨p, hp, of_decide_eq_true e⟩
  · rw [if_neg h]
    exact tabT_app en t x T fun ⟨p, hp, e⟩ => h (List.any_eq_true.mpr ⟨p, hp, decide_eq_true e⟩)
theorem putT_keys (T : TB) (en : Int) (t : List E) : (putT T en t).map (·.1) = if en ∈ T.map (·.1) then T.map (·.1) else T.map (·.1) ++ [en] := by
  unfold putT
  have e : (T.any fun p => decide (p.1 = en)) = decide (en ∈ T.map (·.1)) := by
    rw [Bool.eq_iff_iff, List.any_eq_true, decide_eq_true_iff, List.mem_map]
    exact ⟨fun ⟨p, hp, z⟩ => ⟨p, hp, of_decide_eq_true z⟩, fun ⟨p, hp, z⟩ => ⟨p, hp, decide_eq_true z⟩⟩
  rw [e]
  by_cases c : en ∈ T.map (·.1)
  · rw [if_pos (decide_eq_true c), if_pos c, List.map_map]
    refine List.map_congr_left fun p _ => ?_
    show (if p.1 = en then (p.1, t) else p).1 = p.1
    split <;> rfl
  · rw [if_neg (by rw [decide_eq_false c]; decide), if_neg c, List.map_append]
    rfl
theorem putT_nod {T : TB} {en : Int} {t : List E} (h : (T.map (·.1)).Nodup) : ((putT T en t).map (·.1)).Nodup := by
  rw [putT_keys]
  split
  · exact h
  · rename_i c
    exact List.nodup_append.mpr ⟨h, by simp, fun a ha b hb z => c (by rw [← List.mem_singleton.mp hb, ← z]; exact ha)⟩
theorem putT_len {T : TB} {en : Int} {t : List E} : (putT T en t).length ≤ T.length + 1 := by
  unfold putT
  split
  · rw [List.length_map]; omega
  · rw [List.length_append]; exact Nat.le_refl _
theorem putT_mem {T : TB} {en : Int} {t : List E} {p : Int × List E} (h : p ∈ putT T en t) : p ∈ T ∨ p.2 = t := by
  unfold putT at h
  split at h
  · obtain ⟨q, hq, e⟩ := List.mem_map.mp h
    split at e
    · right; rw [← e]
    · left; rw [← e]; exact hq
  · rcases List.mem_append.mp h with q | q
    · exact .inl q
    · right; rw [List.mem_singleton.mp q]
theorem putT_has (T : TB) (en : Int) (t : List E) : getC (tbL (putT T en t)) (.inl en) = some (.tup (t.map eD)) := by
  rcases tb_cases (putT T en t) en with ⟨h1, _⟩ | h1
  · rw [← putT_tb] at h1
    have h2 := putT_keys T en t
    exfalso
    have : en ∈ (putT T en t).map (·.1) := by
      rw [h2]
      split
      · assumption
      · exact List.mem_append_right _ (List.mem_singleton.mpr rfl)
    obtain ⟨p, hp, ep⟩ := List.mem_map.mp this
    rw [putT_tb] at h1
    unfold getC at h1
    have h3 := List.find?_eq_none.mp (Option.map_eq_none_iff.mp h1) (.inl p.1, .tup (p.2.map eD)) (List.mem_map.mpr ⟨p, hp, rfl⟩)
    rw [ep] at h3
    simp at h3
  · rw [h1, tabT_put, if_pos rfl]
end
end K21
set_option maxHeartbeats 1000000
namespace K21
open PySem PySem.Spec PyProof.Rows L2 Ax DL
abbrev BQ_11 : GS := (gsSet 9 (DL.gName 15))
abbrev BQ_10 : GS := gsSeq (gsIf (gTv (gBin (fB fun i j => decide (j < i)) (gCl fLen (gaCons (gLc (giSeq (DL.gName 9)) (tgName 11) (gTv (gBin fNotInT (DL.gName 11) (DL.gName 15))) (DL.gName 11) [11]) gaNil)) (gDat (.int 0)))) (gsRet (gDat (.bl false))) gsNil) BQ_11
abbrev BQ_9 : GS := gsSeq (gsFor (giSeq (DL.gName 15)) (tgName 11) (gsIf (gTv (gBin fNe (DL.gTup (gaCons (gBin fIx (DL.gName 11) (gDat (.int 1))) (gaCons (gBin fIx (DL.gName 11) (gDat (.int 2))) gaNil))) (gIxC (DL.gName 6) (gBin fIx (DL.gName 11) (gDat (.int 0)))))) (gsRet (gDat (.bl false))) gsNil)) BQ_10
abbrev BQ_8 : GS := gsSeq (gsIf (gTOr (gTNot (gTv (gCall S_law_are_entries [] (gaCons (DL.gName 15) gaNil)))) (gTOr (gTv (gNeC (DL.gName 14) (DL.gName 7))) (gTv (gBin fNe (DL.gName 15) (gCallP S_law_due_play [] (gaCons (DL.gName 3) (gaCons (DL.gName 7) gaNil))))))) (gsRet (gDat (.bl false))) gsNil) BQ_9
abbrev BQ_7 : GS := gsSeq (gsSet 15 (gCall S_play [] (gaCons (DL.gName 5) (gaCons (DL.gName 14) gaNil)))) BQ_8
abbrev BQ_6 : GS := gsSeq (gsCpy 14 (DL.gName 7)) BQ_7
abbrev BQ_5 : GS := gsSeq (gsPutC 7 (DL.gName 13) (DL.gName 8)) BQ_6
abbrev BQ_4 : GS := gsSeq (gsIf (gTOr (gTv (gBin fNe (gCall S_entry_value [] (gaCons (DL.gName 13) (gaCons (gBin fIx (DL.gName 11) (gDat (.int 0))) (gaCons (gBin fIx (DL.gName 11) (gDat (.int 1))) gaNil)))) (gBin fIx (DL.gName 11) (gDat (.int 2))))) (gTv (gNotN (gCall S_entry_value [] (gaCons (DL.gName 13) (gaCons (gBin fIx (DL.gName 11) (gDat (.int 0))) (gaCons (gBin fAdd (gBin fIx (DL.gName 11) (gDat (.int 1))) (DL.gTup (gaCons (gDat (.int 0)) gaNil))) gaNil))))))) (gsRet (gDat (.bl false))) gsNil) BQ_5
abbrev BQ_3 : GS := gsSeq (gsIf (gTOr (gTv (gBin fNe (DL.gName 13) (gCall S_law_put [] (gaCons (DL.gName 12) (gaCons (DL.gName 11) gaNil))))) (gTNot (gTv (gCall S_law_are_entries [] (gaCons (DL.gName 13) gaNil))))) (gsRet (gDat (.bl false))) gsNil) BQ_4
abbrev BQ_2 : GS := gsSeq (gsSet 13 (gCall S_with_answer [] (gaCons (DL.gName 12) (gaCons (gBin fIx (DL.gName 11) (gDat (.int 0))) (gaCons (gBin fIx (DL.gName 11) (gDat (.int 1))) (gaCons (gBin fIx (DL.gName 11) (gDat (.int 2))) gaNil)))))) BQ_3
abbrev BQ_1 : GS := gsSeq (gsSet 12 (gIf (gTv (gInC false (DL.gName 8) (DL.gName 7))) (gIxC (DL.gName 7) (DL.gName 8)) (DL.gTup gaNil))) BQ_2
abbrev BQ_0 : GS := gsSeq (gsAsg (tgTup 2 (tgCons (tgName 8) (tgCons (tgName 11) tgNil))) (gCallBP 1 S_law_grown (gaCons (DL.gName 3) (gaCons (DL.gName 4) (gaCons (DL.gName 7) gaNil))))) BQ_1
abbrev BE_0 : GS := (gsIf (gTv (gBin fEq (gCallB 1 SDraw (gaCons (gDat (.int 2)) gaNil)) (gDat (.int 0)))) (gsPutC 7 (DL.gTup gaNil) (DL.gName 8)) gsNil)
abbrev BT_0 : GS := (gsPutC 19 (gIxC (DL.gName 7) (DL.gName 20)) (DL.gName 20))
abbrev BL_18 : GS := (gsRet (gAnd (gBin fEq (gCall S_play [] (gaCons (DL.gName 5) (gaCons (DL.gName 19) gaNil))) (gCallP S_law_due_play [] (gaCons (DL.gName 3) (gaCons (DL.gName 7) gaNil)))) (gBin fEq (gCall S_play [] (gaCons (DL.gName 5) (gaCons gDic0 gaNil))) (DL.gTup gaNil))))
abbrev BL_17 : GS := gsSeq (gsFor (giSeq (gSrtR (DL.gName 7))) (tgName 20) (gsPutC 19 (gIxC (DL.gName 7) (DL.gName 20)) (DL.gName 20))) BL_18
abbrev BL_16 : GS := gsSeq (gsDck 19) BL_17
abbrev BL_15 : GS := gsSeq (gsPutC 7 (gCl fTuple (gaCons (DL.gName 17) gaNil)) (DL.gName 8)) BL_16
abbrev BL_14 : GS := gsSeq (gsIf (gTv (gBin fNe (gCall S_with_answer [] (gaCons (gCl fTuple (gaCons (DL.gName 17) gaNil)) (gaCons (gBin fIx (DL.gName 18) (gDat (.int 0))) (gaCons (gBin fIx (DL.gName 18) (gDat (.int 1))) (gaCons (gBin (fI fun i j => i - j) (gBin fIx (DL.gName 18) (gDat (.int 2))) (gDat (.int 1))) gaNil))))) (gCl fTuple (gaCons (DL.gName 17) gaNil)))) (gsRet (gDat (.bl false))) gsNil) BL_15
abbrev BL_13 : GS := gsSeq (gsSet 18 (gBin fIx (DL.gName 17) (DL.gName 16))) BL_14
abbrev BL_12 : GS := gsSeq (gsPutI 17 (DL.gTup (gaCons (gBin fIx (gBin fIx (DL.gName 17) (DL.gName 16)) (gDat (.int 0))) (gaCons (gBin fIx (gBin fIx (DL.gName 17) (DL.gName 16)) (gDat (.int 1))) (gaCons (gBin fAdd (gBin fAdd (gBin fIx (gBin fIx (DL.gName 17) (DL.gName 16)) (gDat (.int 2))) (gDat (.int 1))) (gCallB 1 SDraw (gaCons (gDat (.int 3)) gaNil))) gaNil)))) (DL.gName 16)) BL_13
abbrev BL_11 : GS := gsSeq (gsOwn 17 (gCl fList (gaCons (gIxC (DL.gName 7) (DL.gName 8)) gaNil))) BL_12
abbrev BL_10 : GS := gsSeq (gsSet 16 (gCallB 1 SDraw (gaCons (gCl fLen (gaCons (gIxC (DL.gName 7) (DL.gName 8)) gaNil)) gaNil))) BL_11
abbrev BL_9 : GS := gsSeq (gsIf (gTv (gBin fNe (gCall S_with_answer [] (gaCons (gIxC (DL.gName 7) (DL.gName 8)) (gaCons (gDat (.str ("q1" : Str))) (gaCons (DL.gTup gaNil) (gaCons (gDat (.int 5)) gaNil))))) (gCl fTuple (gaCons (gSorted (gaCons (gBin fAdd (gCl fList (gaCons (gIxC (DL.gName 7) (DL.gName 8)) gaNil)) (gLst (gaCons (DL.gTup (gaCons (gDat (.str ("q1" : Str))) (gaCons (DL.gTup gaNil) (gaCons (gDat (.int 5)) gaNil)))) gaNil))) gaNil)) gaNil)))) (gsRet (gDat (.bl false))) gsNil) BL_10
abbrev BL_8 : GS := gsSeq (gsFor (giRange1 (gaCons (gBin fAdd (gDat (.int 4)) (gCallB 1 SDraw (gaCons (gDat (.int 9)) gaNil))) gaNil)) (tgName 10) (gsSeq (gsAsg (tgTup 2 (tgCons (tgName 8) (tgCons (tgName 11) tgNil))) (gCallBP 1 S_law_grown (gaCons (DL.gName 3) (gaCons (DL.gName 4) (gaCons (DL.gName 7) gaNil)))))
    (gsSeq (gsSet 12 (gIf (gTv (gInC false (DL.gName 8) (DL.gName 7))) (gIxC (DL.gName 7) (DL.gName 8)) (DL.gTup gaNil)))
    (gsSeq (gsSet 13 (gCall S_with_answer [] (gaCons (DL.gName 12) (gaCons (gBin fIx (DL.gName 11) (gDat (.int 0))) (gaCons (gBin fIx (DL.gName 11) (gDat (.int 1))) (gaCons (gBin fIx (DL.gName 11) (gDat (.int 2))) gaNil))))))
    (gsSeq (gsIf (gTOr (gTv (gBin fNe (DL.gName 13) (gCall S_law_put [] (gaCons (DL.gName 12) (gaCons (DL.gName 11) gaNil))))) (gTNot (gTv (gCall S_law_are_entries [] (gaCons (DL.gName 13) gaNil))))) (gsRet (gDat (.bl false))) gsNil)
    (gsSeq (gsIf (gTOr (gTv (gBin fNe (gCall S_entry_value [] (gaCons (DL.gName 13) (gaCons (gBin fIx (DL.gName 11) (gDat (.int 0))) (gaCons (gBin fIx (DL.gName 11) (gDat (.int 1))) gaNil)))) (gBin fIx (DL.gName 11) (gDat (.int 2))))) (gTv (gNotN (gCall S_entry_value [] (gaCons (DL.gName 13) (gaCons (gBin fIx (DL.gName 11) (gDat (.int 0))) (gaCons (gBin fAdd (gBin fIx (DL.gName 11) (gDat (.int 1))) (DL.gTup (gaCons (gDat (.int 0)) gaNil))) gaNil))))))) (gsRet (gDat (.bl false))) gsNil)
    (gsSeq (gsPutC 7 (DL.gName 13) (DL.gName 8))
    (gsSeq (gsCpy 14 (DL.gName 7))
    (gsSeq (gsSet 15 (gCall S_play [] (gaCons (DL.gName 5) (gaCons (DL.gName 14) gaNil))))
    (gsSeq (gsIf (gTOr (gTNot (gTv (gCall S_law_are_entries [] (gaCons (DL.gName 15) gaNil)))) (gTOr (gTv (gNeC (DL.gName 14) (DL.gName 7))) (gTv (gBin fNe (DL.gName 15) (gCallP S_law_due_play [] (gaCons (DL.gName 3) (gaCons (DL.gName 7) gaNil))))))) (gsRet (gDat (.bl false))) gsNil)
    (gsSeq (gsFor (giSeq (DL.gName 15)) (tgName 11) (gsIf (gTv (gBin fNe (DL.gTup (gaCons (gBin fIx (DL.gName 11) (gDat (.int 1))) (gaCons (gBin fIx (DL.gName 11) (gDat (.int 2))) gaNil))) (gIxC (DL.gName 6) (gBin fIx (DL.gName 11) (gDat (.int 0)))))) (gsRet (gDat (.bl false))) gsNil))
    (gsSeq (gsIf (gTv (gBin (fB fun i j => decide (j < i)) (gCl fLen (gaCons (gLc (giSeq (DL.gName 9)) (tgName 11) (gTv (gBin fNotInT (DL.gName 11) (DL.gName 15))) (DL.gName 11) [11]) gaNil)) (gDat (.int 0)))) (gsRet (gDat (.bl false))) gsNil)
    (gsSet 9 (DL.gName 15)))))))))))))) BL_9
abbrev BL_7 : GS := gsSeq (gsSet 9 (DL.gTup gaNil)) BL_8
abbrev BL_6 : GS := gsSeq (gsFor (giRange2 (gaCons (gDat (.int 1)) (gaCons (gBin fAdd (DL.gName 2) (gDat (.int 1))) gaNil))) (tgName 8) (gsIf (gTv (gBin fEq (gCallB 1 SDraw (gaCons (gDat (.int 2)) gaNil)) (gDat (.int 0)))) (gsPutC 7 (DL.gTup gaNil) (DL.gName 8)) gsNil)) BL_7
abbrev BL_5 : GS := gsSeq (gsDck 7) BL_6
abbrev BL_4 : GS := gsSeq (gsSet 6 (gCall S_law_true [] (gaCons (DL.gName 3) (gaCons (DL.gName 4) gaNil)))) BL_5
abbrev BL_3 : GS := gsSeq (gsSet 5 (gCall S_law_order_of [] (gaCons (DL.gName 3) gaNil))) BL_4
abbrev BL_2 : GS := gsSeq (gsSet 4 (gCallB 1 S_law_made_world (gaCons (DL.gName 3) gaNil))) BL_3
abbrev BL_1 : GS := gsSeq (gsSet 3 (gCallB 1 S_law_wide_order (gaCons (DL.gName 2) (gaCons (gDat (.int 1)) (gaCons (gDat (.int 7)) gaNil))))) BL_2
abbrev BL_0 : GS := gsSeq (gsSet 2 (gBin fAdd (gDat (.int 1)) (gCallB 1 SDraw (gaCons (gDat (.int 4)) gaNil)))) BL_1
theorem B_law_eq : B_law = BL_0 := rfl
theorem ne_self {d : D} {n : Nat} (h : Dk n d) (hn : n ≤ 60) : fNe d d = some (.dat (.bl false)) := by
  rw [fne (h.ok hn) (h.ok hn)]
  have : eqD d d = true := PySem.SeqAt.eqv_refl _ h.lay
  rw [this]
  rfl
theorem eq_self {d : D} {n : Nat} (h : Dk n d) (hn : n ≤ 60) : fEq d d = some (.dat (.bl true)) := by
  rw [feq (h.ok hn) (h.ok hn)]
  have : eqD d d = true := PySem.SeqAt.eqv_refl _ h.lay
  rw [this]
theorem dk_int (i : Int) : Dk 0 (.int i) := ⟨rfl, rfl, Nat.le_of_ble_eq_true rfl⟩
theorem dk_kv (k : List Int) (v : Int) : Dk 2 (.tup [kD k, .int v]) := by
  have t : toP (.tup [kD k, .int v]) = .tuple [.tuple (k.map PyData.int), .int v] := by simp [kD, toP, toPs, toPs_ints]
  refine ⟨by simp [kD, pureD, pureA, pureA_ints], ?_, ?_⟩
  · rw [t]
    simp [PyData.canLay0, PyData.canLayAll0, canLay_ints]
  · rw [t]
    simp only [PyData.depth, PyData.depthAll, PySem.W.depth_ints]
    decide
theorem dk_truV (φ : Str → Int) (e : Evt) : Dk 2 (truV φ e) := dk_kv _ _
theorem dk_rows {l : List E} (h : ∀ r ∈ l, strK r.1 = true) : Dk 3 (.tup (l.map eD)) := .tup fun x hx => dk_e (h x hx)
theorem flat_eD (r : E) : flatT (eD r) = true := by simp [eD, flatT, flatTs, flat_kD]
theorem flat_run (l : List E) : flatT (runD l) = true := by
  have : ∀ l : List E, flatTs (l.map eD) = true := fun l => by
    induction l with
    | nil => rfl
    | cons x l ih => simp [flatTs, flat_eD, ih]
  simp [runD, flatT, this l]
theorem tb_frz (T : TB) : D.dic ((tbL T).map (·.1)) ((tbL T).map (·.2)) = tbD T := by
  simp [tbL, tbD]
theorem notInT_e {r : E} {l : List E} (h : strK r.1 = true) (hl : ∀ x ∈ l, strK x.1 = true) : fNotInT (eD r) (.tup (l.map eD)) = some (.dat (.bl (!decide (r ∈ l)))) := by
  rw [← inD_e]
  exact if_pos ⟨okD_e h, okD_rows hl⟩
structure LawOk (evs : List Evt) (rows : List E) (b f : Int) (φ : Str → Int) : Prop where
  dr : DrOk evs
  ok : WlOk rows b f
  sol : Sol evs (ansR rows b f) φ
theorem LawOk.wf {evs : List Evt} {rows : List E} {b f : Int} {φ : Str → Int} (h : LawOk evs rows b f φ) : Wf evs := h.dr.wf
theorem LawOk.bφ {evs : List Evt} {rows : List E} {b f : Int} {φ : Str → Int} (h : LawOk evs rows b f φ) : bndF evs φ := sol_bnd h.wf (wl_small h.ok) (by decide) h.sol
/-- tables of true answers, m of them put -/
structure TOk (evs : List Evt) (rows : List E) (b f : Int) (m : Nat) (T : TB) : Prop where
  good : Good evs (ansR rows b f) T
  nod : (T.map (·.1)).Nodup
  len : T.length ≤ 4 + m
  sz : ∀ p ∈ T, p.2.length ≤ m
theorem tab_sz {T : TB} {m : Nat} (h : ∀ p ∈ T, p.2.length ≤ m) (en : Int) : (tabT T en).length ≤ m := by
  unfold tabT
  split
  · rename_i p e
    exact h p (List.mem_of_find?_eq_some e)
  · exact Nat.zero_le _
section
variable {evs : List Evt} {rows : List E} {b f : Int} {φ : Str → Int} {T : TB} {m : Nat}
theorem ent_str (wf : Wf evs) {ans : Str → List Int → Int} {r : E} (h : EntOk evs ans r) : strK r.1 = true := by
  obtain ⟨e, he, e1, _⟩ := h
  rw [e1]
  exact wf.str e he
theorem ent_key (wf : Wf evs) {ans : Str → List Int → Int} {r : E} (h : EntOk evs ans r) : r.2.1.length ≤ 3 := by
  obtain ⟨e, he, _, e2, _⟩ := h
  obtain ⟨_, ok⟩ := wf.at_ he
  rw [e2]
  exact ok.len
theorem TOk.tb (h : TOk evs rows b f m T) (wf : Wf evs) (hm : m ≤ 100) : TbOk T := fun p hp => ⟨by have := h.sz p hp; omega, fun r hr => ent_str wf (h.good p hp r hr)⟩
theorem TOk.put (h : TOk evs rows b f m T) {e : E} (he : EntOk evs (ansR rows b f) e) (en : Int) : TOk evs rows b f (m + 1) (putT T en (withF (tabT T en) e)) := by
  refine ⟨fun p hp => ?_, putT_nod h.nod, ?_, fun p hp => ?_⟩
  · rcases putT_mem hp with q | q
    · exact h.good p q
    · rw [q]; exact with_ok (h.good.tab en) he
  · have := putT_len (T := T) (en := en) (t := withF (tabT T en) e)
    have := h.len
    omega
  · rcases putT_mem hp with q | q
    · have := h.sz p q
      omega
    · rw [q]
      have := with_len (t := tabT T en) (e := e)
      have := tab_sz h.sz en
      omega
theorem put_below (T : TB) (en : Int) (e : E) : Below T (putT T en (withF (tabT T en) e)) := by
  intro x n k h
  rw [tabT_put]
  split
  · rename_i c
    obtain ⟨r, hr, er⟩ := findV_some h
    have := findV_ex (with_sub (e := e) (c ▸ hr))
    have e1 : r.1 = n := congrArg (·.1) er
    have e2 : r.2.1 = k := congrArg (·.2) er
    rw [← e1, ← e2]
    exact this
  · exact h
theorem nod_keys {T : TB} (h : (T.map (·.1)).Nodup) : ((tbL T).map (·.1)).Nodup := by
  have : (tbL T).map (·.1) = (T.map (·.1)).map (Sum.inl : Int → L2.Key) := by simp [tbL]
  rw [this]
  rw [List.nodup_iff_pairwise_ne, List.pairwise_map]
  exact (List.nodup_iff_pairwise_ne.mp h).imp fun hne z => hne (Sum.inl.inj z)
end
abbrev lS (ends : Int) (evs : List Evt) (rows : List E) (b f : Int) (φ : Str → Int) (T : TB) (x8 x9 x10 x11 x12 x13 x14 x15 x16 x17 x18 x19 x20 : Option En) (n : Nat) : Stt := ⟨[none, some .bag, some (.val (.int ends)), some (.val (.lst (evs.map evT))), some (.val (wlL rows b f)), some (.val (orD evs)), some (.val (truD evs φ)), some (.dck (tbL T)), x8, x9, x10, x11, x12, x13, x14, x15, x16, x17, x18, x19, x20], n⟩
abbrev rowsV (l : List E) : Option En := some (.val (.tup (l.map eD)))
abbrev intV (i : Int) : Option En := some (.val (.int i))
section
variable {ends : Int} {evs : List Evt} {rows : List E} {b f : Int} {φ : Str → Int} {T : TB} {m n : Nat} {De : EndsD} {x8 x9 x10 x11 x12 x13 x14 x15 x16 x17 x18 x19 x20 : Option En}
theorem ent_ix {s : Stt} {r : E} {i : Int} {d : D} (h : s.r[11]? = some (some (.val (eD r)))) (e : fIx (eD r) (.int i) = some (.dat d)) : Ev (gBin fIx (DL.gName 11) (gDat (.int i))) s (.dat d) := .bin (.name h) .dt rfl rfl e
/-- the end of a turn: what came out is true, and nothing was lost -/
theorem turn_9 (L : LawOk evs rows b f φ) (hT : TOk evs rows b f m T) {last : List E} (hl : ∀ r ∈ last, r ∈ playF T evs) (hls : last.length ≤ 100) (hnx : ∀ y11, De.nx (lS ends evs rows b f φ T x8 (rowsV (playF T evs)) x10 y11 x12 x13 x14 (rowsV (playF T evs)) x16 x17 x18 x19 x20 n)) : BQ_9 (lS ends evs rows b f φ T x8 (rowsV last) x10 x11 x12 x13 x14 (rowsV (playF T evs)) x16 x17 x18 x19 x20 n) De := by
  have wf := L.wf
  have tr := play_true L.sol hT.good
  have st : ∀ r ∈ playF T evs, strK r.1 = true := fun r hr => by
    obtain ⟨e, he, er⟩ := tr r hr
    rw [er]
    exact wf.str e he
  refine gs_seq (gs_forL (L := playF T evs) (dOf := eD) (fun pre s => ∃ y11, s = lS ends evs rows b f φ T x8 (rowsV last) x10 y11 x12 x13 x14 (rowsV (playF T evs)) x16 x17 x18 x19 x20 n) (.seq (.name rfl) rfl rfl) rfl ⟨_, rfl⟩ ?_ ?_)
  · rintro pre r post s De' eL ⟨y11, rfl⟩ _ _ hnx2 _
    refine ⟨lS ends evs rows b f φ T x8 (rowsV last) x10 (some (.val (eD r))) x12 x13 x14 (rowsV (playF T evs)) x16 x17 x18 x19 x20 n, rfl, ?_⟩
    obtain ⟨a, ha, ea⟩ := tr r (by rw [eL]; simp)
    refine gs_ifF (.v (.bin (w := .dat (.bl false)) (.tup (ds := [kD r.2.1, .int r.2.2]) (.cons (ent_ix rfl rfl) (.one (ent_ix rfl rfl))) rfl (Nat.le_of_ble_eq_true rfl)) (.ixC (k := .inr a.nm) (kvs := envT evs φ) (d := truV φ a) (.name rfl) (ent_ix (d := .str r.1) rfl rfl) (congrArg some (tru_zip evs φ)) (by rw [ea]; rfl) (envT_at wf ha)) rfl rfl ?_) rfl) (gs_nil (hnx2 _ ⟨_, rfl⟩))
    have : D.tup [kD r.2.1, .int r.2.2] = truV φ a := by rw [ea]
    rw [this]
    exact ne_self (dk_truV φ a) (by decide)
  · rintro s ⟨y11, rfl⟩
    dsimp only
    have lc : Ev (gLc (giSeq (DL.gName 9)) (tgName 11) (gTv (gBin fNotInT (DL.gName 11) (DL.gName 15))) (DL.gName 11) [11]) (lS ends evs rows b f φ T x8 (rowsV last) x10 y11 x12 x13 x14 (rowsV (playF T evs)) x16 x17 x18 x19 x20 n) (.new ((last.filter fun r => !decide (r ∈ playF T evs)).map eD)) := by
      refine .lc (xs := last) (dOf := eD) (.seq (.name rfl) rfl rfl) rfl (by omega) fun r hr => ?_
      exact ⟨lS ends evs rows b f φ T x8 (rowsV last) x10 (some (.val (eD r))) x12 x13 x14 (rowsV (playF T evs)) x16 x17 x18 x19 x20 n, rfl, rfl, .v (.bin (w := .dat (.bl (!decide (r ∈ playF T evs)))) (.name (d := eD r) rfl) (.name (d := runD (playF T evs)) rfl) rfl rfl (notInT_e (st r (hl r hr)) st)) rfl, fun _ => ⟨_, .name rfl, rfl⟩⟩
    have e0 : (last.filter fun r => !decide (r ∈ playF T evs)) = [] := List.filter_eq_nil_iff.mpr fun r hr => by rw [decide_eq_true (hl r hr)]; decide
    rw [e0] at lc
    refine gs_seq (gs_ifF (.v (.bin (w := .dat (.bl false)) (.cl (w := .dat (.int 0)) (.one lc) rfl rfl) .dt rfl rfl rfl) rfl) (gs_nil ?_))
    dsimp only
    exact gs_set (.name rfl) rfl (hnx _)
/-- what is played from the copy -/
theorem turn_5 (L : LawOk evs rows b f φ) {en : Int} {g : List E} (hT : TOk evs rows b f m (putT T en g)) (h0 : T.length ≤ 100) (hm : m ≤ 100) {last : List E} (hl : ∀ r ∈ last, r ∈ playF (putT T en g) evs) (hls : last.length ≤ 100) (hnx : ∀ y11 y14, De.nx (lS ends evs rows b f φ (putT T en g) (intV en) (rowsV (playF (putT T en g) evs)) x10 y11 x12 (rowsV g) y14 (rowsV (playF (putT T en g) evs)) x16 x17 x18 x19 x20 n)) : BQ_5 (lS ends evs rows b f φ T (intV en) (rowsV last) x10 x11 x12 (rowsV g) x14 x15 x16 x17 x18 x19 x20 n) De := by
  have wf := L.wf
  have tb := hT.tb wf hm
  have tr := play_true L.sol hT.good
  have st : ∀ r ∈ playF (putT T en g) evs, strK r.1 = true := fun r hr => by
    obtain ⟨e, he, er⟩ := tr r hr
    rw [er]
    exact wf.str e he
  refine gs_seq (gs_putC (k := .inl en) (d := .tup (g.map eD)) rfl (.name rfl) rfl (.name rfl) rfl (by rw [List.length_map]; omega) ?_)
  rw [putT_tb]
  show BQ_6 (lS ends evs rows b f φ (putT T en g) (intV en) (rowsV last) x10 x11 x12 (rowsV g) x14 x15 x16 x17 x18 x19 x20 n) De
  refine gs_seq (gs_cpy (nmC rfl) rfl ?_)
  show BQ_7 (lS ends evs rows b f φ (putT T en g) (intV en) (rowsV last) x10 x11 x12 (rowsV g) (some (.dck (tbL (putT T en g)))) x15 x16 x17 x18 x19 x20 n) De
  refine gs_seq (set_run (call_run ((EvA.cons (Ev.name rfl) (.one (nmC rfl))) _ ⟨_, _, rfl, evs, putT T en g, by rw [← tb_frz]; rfl, wf, tb, _, _, rfl, ?_⟩)))
  show BQ_8 (lS ends evs rows b f φ (putT T en g) (intV en) (rowsV last) x10 x11 x12 (rowsV g) (some (.val (.dic ((tbL (putT T en g)).map (·.1)) ((tbL (putT T en g)).map (·.2))))) (rowsV (playF (putT T en g) evs)) x16 x17 x18 x19 x20 n) De
  rw [tb_frz]
  refine gs_seq (gs_ifF (.or (b1 := false) (b2 := false) (.of (.not (.v (.call (d := .bl true) (.one (.name rfl)) rfl fun Φ q => ⟨playF (putT T en g) evs, rfl, by have := play_len (putT T en g) evs; have := L.dr.len; omega, fun r hr => ?_, q⟩) rfl)) rfl) fun _ => .or (b1 := false) (b2 := false) (.v (.neC (kvs := tbL (putT T en g)) (.name rfl) (nmC rfl) (congrArg some (tb_zip _)) rfl (nod_keys hT.nod) fun p hp => ?_) rfl) fun _ => .v (.bin (w := .dat (.bl false)) (.name rfl) (.callP (d := runD (playF (putT T en g) evs)) (.cons (.name rfl) (.one (nmC rfl))) rfl (fun Φ q => ⟨evs, putT T en g, by rw [← tb_frz]; rfl, wf, tb, q⟩) (flat_run _)) rfl rfl (ne_self (dk_rows st) (by decide))) rfl) (gs_nil ?_))
  · obtain ⟨e, he, er⟩ := tr r hr
    obtain ⟨_, ok⟩ := wf.at_ he
    rw [er]
    show (e.nd.map φ).length ≤ 100
    rw [List.length_map]
    have := ok.len
    omega
  · obtain ⟨p', hp', rfl⟩ := List.mem_map.mp hp
    have dk := dk_rows (l := p'.2) (tb p' hp').str
    exact ⟨dk.ok (by decide), PySem.SeqAt.eqv_refl _ dk.lay⟩
  · show BQ_9 (lS ends evs rows b f φ (putT T en g) (intV en) (rowsV last) x10 x11 x12 (rowsV g) (some (.val (tbD (putT T en g)))) (rowsV (playF (putT T en g) evs)) x16 x17 x18 x19 x20 n) De
    exact turn_9 L hT hl hls fun y11 => hnx y11 _
theorem turn (L : LawOk evs rows b f φ) (hT : TOk evs rows b f m T) (hm : m ≤ 50) {last : List E} (hl : ∀ r ∈ last, r ∈ playF T evs) (hls : last.length ≤ 100) (hn : n < 800000) (hnx : ∀ (T' : TB) (en : Int) y11 y12 y13 y14 y15 n', TOk evs rows b f (m + 1) T' → getC (tbL T') (.inl en) = some (.tup ((tabT T' en).map eD)) → 1 ≤ (tabT T' en).length → n' ≤ n + 20 → De.nx (lS ends evs rows b f φ T' (intV en) (rowsV (playF T' evs)) x10 y11 y12 y13 y14 y15 x16 x17 x18 x19 x20 n')) : BQ_0 (lS ends evs rows b f φ T x8 (rowsV last) x10 x11 x12 x13 x14 x15 x16 x17 x18 x19 x20 n) De := by
  have wf := L.wf
  refine gs_seq (asg_run (callBP rfl (.cons (.name rfl) (.cons (.name rfl) (.one (nmC rfl)))) rfl ⟨evs, rows, b, f, φ, _, rfl, wf, L.dr.pos, by show n < 900000; omega, L.ok.f, L.sol, L.bφ, fun e k n' me hk hn' => ⟨by simp [flatT, flatTs, flat_eD], _, _, _, rfl, rfl, ?_⟩⟩))
  have hn2 : n' ≤ n + 20 := hn'
  let r : E := (e.nm, k, ansR rows b f e.nm k)
  have er : EntOk evs (ansR rows b f) r := ⟨e, me, rfl, hk, rfl⟩
  have sr := ent_str wf er
  show BQ_1 (lS ends evs rows b f φ T (intV e.en) (rowsV last) x10 (some (.val (eD r))) x12 x13 x14 x15 x16 x17 x18 x19 x20 n') De
  have tb := hT.tb wf (by omega)
  have tok := tab_ok tb e.en
  have t12 : Ev (gIf (gTv (gInC false (DL.gName 8) (DL.gName 7))) (gIxC (DL.gName 7) (DL.gName 8)) (DL.gTup gaNil)) (lS ends evs rows b f φ T (intV e.en) (rowsV last) x10 (some (.val (eD r))) x12 x13 x14 x15 x16 x17 x18 x19 x20 n') (.dat (.tup ((tabT T e.en).map eD))) := by
    have ci := Ev.inC (neg := false) (k := .inl e.en) (g1 := DL.gName 8) (g2 := DL.gName 7) (s := lS ends evs rows b f φ T (intV e.en) (rowsV last) x10 (some (.val (eD r))) x12 x13 x14 x15 x16 x17 x18 x19 x20 n') (kvs := tbL T) (.name rfl) (nmC rfl) rfl rfl
    rcases tb_cases T e.en with ⟨q1, q2⟩ | q1
    · rw [q1] at ci
      rw [q2]
      exact .ifF (.v ci rfl) (.tup .nil rfl (by decide))
    · rw [q1] at ci
      exact .ifT (.v ci rfl) (.ixC (k := .inl e.en) (nmC rfl) (.name rfl) rfl rfl q1)
  refine gs_seq (gs_set t12 rfl ?_)
  show BQ_2 (lS ends evs rows b f φ T (intV e.en) (rowsV last) x10 (some (.val (eD r))) (rowsV (tabT T e.en)) x13 x14 x15 x16 x17 x18 x19 x20 n') De
  refine gs_seq (gs_set (d := .tup ((withF (tabT T e.en) r).map eD)) (.call (.cons (.name rfl) (.cons (ent_ix (r := r) (d := .str r.1) rfl rfl) (.cons (ent_ix (r := r) (d := kD r.2.1) rfl rfl) (.one (ent_ix (r := r) (d := .int r.2.2) rfl rfl))))) rfl fun Φ q => ⟨tabT T e.en, r, rfl, tok, sr, q⟩) rfl ?_)
  generalize hg : withF (tabT T e.en) r = g
  have gok : ∀ x ∈ g, EntOk evs (ansR rows b f) x := by rw [← hg]; exact with_ok (hT.good.tab e.en) er
  have gst : ∀ x ∈ g, strK x.1 = true := fun x hx => ent_str wf (gok x hx)
  have gln : g.length ≤ m + 1 := by
    rw [← hg]
    have := with_len (t := tabT T e.en) (e := r)
    have := tab_sz hT.sz e.en
    omega
  have gtok : TabOk g := ⟨by omega, gst⟩
  have gval : findV g r.1 r.2.1 = some r.2.2 := by rw [← hg]; exact with_val (hT.good.tab e.en) er
  have gpos : 1 ≤ g.length := by rw [← hg]; exact with_pos
  have hT' : TOk evs rows b f (m + 1) (putT T e.en g) := by rw [← hg]; exact hT.put er e.en
  have bel : Below T (putT T e.en g) := by rw [← hg]; exact put_below T e.en r
  show BQ_3 (lS ends evs rows b f φ T (intV e.en) (rowsV last) x10 (some (.val (eD r))) (rowsV (tabT T e.en)) (rowsV g) x14 x15 x16 x17 x18 x19 x20 n') De
  refine gs_seq (gs_ifF (.or (b1 := false) (b2 := false) (.v (.bin (w := .dat (.bl false)) (.name rfl) (.call (d := .tup (g.map eD)) (.cons (.name rfl) (.one (.name rfl))) rfl fun Φ q => ⟨tabT T e.en, r, rfl, tok, sr, by rw [hg]; exact q⟩) rfl rfl (ne_self (dk_rows gst) (by decide))) rfl) fun _ => .of (.not (.v (.call (d := .bl true) (.one (.name rfl)) rfl fun Φ q => ⟨g, rfl, by omega, fun x hx => by have := ent_key wf (gok x hx); omega, q⟩) rfl)) rfl) (gs_nil ?_))
  show BQ_4 (lS ends evs rows b f φ T (intV e.en) (rowsV last) x10 (some (.val (eD r))) (rowsV (tabT T e.en)) (rowsV g) x14 x15 x16 x17 x18 x19 x20 n') De
  have ea : fAdd (kD r.2.1) (.tup [.int 0]) = some (.dat (kD (r.2.1 ++ [0]))) := by
    unfold kD
    rw [List.map_append]
    exact add_tup (by rw [List.length_map]; have := ent_key wf er; show _ + 1 ≤ _; omega)
  refine gs_seq (gs_ifF (.or (b1 := false) (b2 := false) (.v (.bin (w := .dat (.bl false)) (.call (d := .int r.2.2) (.cons (.name rfl) (.cons (ent_ix (r := r) (d := .str r.1) rfl rfl) (.one (ent_ix (r := r) (d := kD r.2.1) rfl rfl)))) rfl fun Φ q => ⟨g, r.1, r.2.1, rfl, gtok, sr, by rw [gval]; exact q⟩) (ent_ix (r := r) (d := .int r.2.2) rfl rfl) rfl rfl (ne_self (dk_int _) (by decide))) rfl) fun _ => .v (.notN (d := .non) (.call (d := .non) (.cons (.name rfl) (.cons (ent_ix (r := r) (d := .str r.1) rfl rfl) (.one (.bin (ent_ix (r := r) (d := kD r.2.1) rfl rfl) (.tup (ds := [.int 0]) (.one .dt) rfl (by decide)) rfl rfl ea)))) rfl fun Φ q => ⟨g, r.1, r.2.1 ++ [0], rfl, gtok, sr, by rw [longer wf gok er]; exact q⟩) rfl) rfl) (gs_nil ?_))
  show BQ_5 (lS ends evs rows b f φ T (intV e.en) (rowsV last) x10 (some (.val (eD r))) (rowsV (tabT T e.en)) (rowsV g) x14 x15 x16 x17 x18 x19 x20 n') De
  have et : tabT (putT T e.en g) e.en = g := by rw [tabT_put, if_pos rfl]
  exact turn_5 L hT' (by have := hT.len; omega) (by omega) (fun x hx => play_below L.sol hT.good hT'.good bel x (hl x hx)) hls fun y11 y14 => hnx (putT T e.en g) e.en _ _ _ _ _ n' hT' (by rw [et]; exact putT_has T e.en g) (by rw [et]; exact gpos) hn2
end
end K21
set_option maxHeartbeats 1000000
namespace K21
open PySem PySem.Spec PyProof.Rows L2 Ax DL
theorem tb_in {T : TB} {y : Int} (h : y ∈ T.map (·.1)) : getC (tbL T) (.inl y) = some (.tup ((tabT T y).map eD)) := by
  rcases tb_cases T y with ⟨h1, _⟩ | h1
  · exfalso
    obtain ⟨p, hp, ep⟩ := List.mem_map.mp h
    unfold getC at h1
    have h3 := List.find?_eq_none.mp (Option.map_eq_none_iff.mp h1) (.inl p.1, .tup (p.2.map eD)) (List.mem_map.mpr ⟨p, hp, rfl⟩)
    rw [ep] at h3
    simp at h3
  · exact h1
theorem tb_out {T : TB} {y : Int} (h : y ∉ T.map (·.1)) : tabT T y = [] := by
  unfold tabT
  rw [List.find?_eq_none.mpr fun p hp z => h (List.mem_map.mpr ⟨p, hp, of_decide_eq_true z⟩)]
theorem tab_keys (g : Int → List E) : ∀ (ys : List Int) (x : Int), tabT (ys.map fun y => (y, g y)) x = if x ∈ ys then g x else []
  | [], x => rfl
  | y :: ys, x => by
    rw [List.map_cons, tabT_cons]
    by_cases c : y = x
    · rw [if_pos c, if_pos (by rw [c]; exact List.mem_cons_self), c]
    · rw [if_neg c, tab_keys g ys x]
      by_cases h : x ∈ ys
      · rw [if_pos h, if_pos (List.mem_cons_of_mem _ h)]
      · rw [if_neg h, if_neg fun z => (List.mem_cons.mp z).elim (fun q => c q.symm) h]
abbrev okT : EndsD := retD fun d => d = .bl true
section
variable {ends : Int} {evs : List Evt} {rows : List E} {b f : Int} {φ : Str → Int} {T : TB} {m n : Nat} {x8 x9 x10 x11 x12 x13 x14 x15 x16 x17 x18 x19 x20 : Option En}
theorem law_18 (L : LawOk evs rows b f φ) (tb : TbOk T) {T2 : TB} (tb2 : TbOk T2) (hs : ∀ en, tabT T2 en = tabT T en) : BL_18 (lS ends evs rows b f φ T x8 x9 x10 x11 x12 x13 x14 x15 x16 x17 x18 (some (.dck (tbL T2))) x20 n) okT := by
  have wf := L.wf
  have st : ∀ r ∈ playF T evs, strK r.1 = true := fun r hr => by
    obtain ⟨a, ha, ea⟩ := List.mem_map.mp (play_nm r hr)
    rw [← ea]
    exact wf.str a ha
  have e2 : playF T2 evs = playF T evs := play_same hs
  refine ret_run (and_run (bin_run (call_run ((EvA.cons (Ev.name rfl) (.one (nmC rfl))) _ ⟨_, _, rfl, evs, T2, by rw [← tb_frz]; rfl, wf, tb2, ?_⟩))))
  rw [e2]
  refine Ev.callP (d := runD (playF T evs)) (.cons (.name rfl) (.one (nmC rfl))) rfl (fun Φ q => ⟨evs, T, by rw [← tb_frz]; rfl, wf, tb, q⟩) (flat_run _) _ ⟨_, _, .dat (.bl true), rfl, rfl, eq_self (dk_rows st) (by decide), true, rfl, ?_⟩
  rw [if_pos rfl]
  refine Ev.bin (w := .dat (.bl true)) (.call (d := runD []) (.cons (.name rfl) (.one (w := .dat (.dic [] [])) fun Φ q => q)) rfl fun Φ q => ⟨evs, [], rfl, wf, fun p hp => (by cases hp), by rw [play_nil]; exact q⟩) (.tup (ds := []) .nil rfl (by decide)) rfl rfl (eq_self (d := .tup []) (dk_rows (l := []) fun r hr => (by cases hr)) (by decide)) _ ⟨_, _, rfl, rfl⟩
theorem law_16 (L : LawOk evs rows b f φ) (tb : TbOk T) (nod : (T.map (·.1)).Nodup) (hl : T.length < 64) : BL_16 (lS ends evs rows b f φ T x8 x9 x10 x11 x12 x13 x14 x15 x16 x17 x18 x19 x20 n) okT := by
  refine gs_seq (gs_dck ?_)
  show BL_17 (lS ends evs rows b f φ T x8 x9 x10 x11 x12 x13 x14 x15 x16 x17 x18 (some (.dck [])) x20 n) okT
  have ek : (tbL T).map (·.1) = (T.map (·.1)).map (Sum.inl : Int → L2.Key) := by simp [tbL]
  refine gs_seq (for_run (srtR_run (nmC rfl) rfl ek (by rw [List.length_map]; exact hl) fun ys hp => ⟨_, _, _, rfl, rfl, ?_⟩))
  have nys : ys.Nodup := hp.nodup_iff.mpr nod
  refine gs_loop (L := ys) (dOf := D.int) (fun pre s => ∃ y20, s = lS ends evs rows b f φ T x8 x9 x10 x11 x12 x13 x14 x15 x16 x17 x18 (some (.dck (tbL (pre.map fun y => (y, tabT T y))))) y20 n) ?_ ?_ ys [] _ rfl ⟨x20, rfl⟩
  · rintro pre y post s De' eL ⟨y20, rfl⟩ _ _ hnx _
    refine ⟨lS ends evs rows b f φ T x8 x9 x10 x11 x12 x13 x14 x15 x16 x17 x18 (some (.dck (tbL (pre.map fun y => (y, tabT T y))))) (intV y) n, rfl, ?_⟩
    have my : y ∈ ys := by rw [eL]; simp
    have hy := tb_in (hp.mem_iff.mp my)
    have hl2 : pre.length ≤ 64 := by
      have h1 := hp.length_eq
      rw [eL, List.length_append, List.length_map] at h1
      omega
    refine gs_putC (k := .inl y) (d := .tup ((tabT T y).map eD)) rfl (.ixC (k := .inl y) (nmC rfl) (.name rfl) rfl rfl hy) rfl (.name rfl) rfl (by rw [List.length_map, List.length_map]; omega) (hnx _ ⟨intV y, ?_⟩)
    have nin : y ∉ pre := fun z => by
      rw [eL, List.nodup_append] at nys
      exact nys.2.2 y z y List.mem_cons_self rfl
    rw [putC_new fun p hq z => by
      obtain ⟨q, hq2, rfl⟩ := List.mem_map.mp hq
      obtain ⟨u, hu, rfl⟩ := List.mem_map.mp hq2
      exact nin ((Sum.inl.inj z) ▸ hu)]
    have e : tbL (pre.map fun y => (y, tabT T y)) ++ [(.inl y, .tup ((tabT T y).map eD))] = tbL ((pre ++ [y]).map fun y => (y, tabT T y)) := by simp [tbL]
    rw [e]
    rfl
  · rintro s ⟨y20, rfl⟩
    dsimp only
    refine law_18 L tb (fun p hp2 => ?_) fun en => ?_
    · obtain ⟨y, hy, rfl⟩ := List.mem_map.mp hp2
      exact tab_ok tb y
    · rw [tab_keys]
      split
      · rfl
      · rename_i c
        exact (tb_out fun z => c (hp.mem_iff.mpr z)).symm
theorem ixN_in {k j : Nat} (h : j < k) : ixN k (j : Nat) = some j := by
  unfold ixN
  simp [h]
theorem alt_ix {s : Stt} {t : List E} {j : Nat} {r : E} (h17 : s.r[17]? = some (some (.own (t.map eD)))) (h16 : s.r[16]? = some (some (.val (.int (j : Nat))))) (hr : t[j]? = some r) : Ev (gBin fIx (DL.gName 17) (DL.gName 16)) s (.dat (eD r)) := by
  have e : rd (.loc 17) s = some (.lst (t.map eD)) := by simp only [rd, h17]
  exact .bin (.nameO h17) (.name h16) e rfl (ix_lst (by rw [List.getElem?_map, hr]; rfl))
theorem law_9 (L : LawOk evs rows b f φ) (hT : TOk evs rows b f m T) (hm : m ≤ 50) {en : Int} (hg : getC (tbL T) (.inl en) = some (.tup ((tabT T en).map eD))) (hp : 1 ≤ (tabT T en).length) (hn : n < 900000) : BL_9 (lS ends evs rows b f φ T (intV en) x9 x10 x11 x12 x13 x14 x15 x16 x17 x18 x19 x20 n) okT := by
  have wf := L.wf
  have tb := hT.tb wf (by omega)
  have sz := tab_sz hT.sz en
  generalize ht : tabT T en = t at hg hp sz
  have tok : TabOk t := ht ▸ tab_ok tb en
  have tx : ∀ (y16 y17 y18 : Option En) (k : Nat), Ev (gIxC (DL.gName 7) (DL.gName 8)) (lS ends evs rows b f φ T (intV en) x9 x10 x11 x12 x13 x14 x15 y16 y17 y18 x19 x20 k) (.dat (.tup (t.map eD))) := fun y16 y17 y18 k => .ixC (k := .inl en) (nmC rfl) (.name rfl) rfl rfl hg
  have q1s : strK "q1" = true := by decide +kernel
  have nq : findV t "q1" [] = none := findV_none fun r hr z => by
    obtain ⟨e, he, e1, _⟩ := hT.good.tab en r (ht ▸ hr)
    have z1 : r.1 = "q1" := congrArg (·.1) z
    have := L.dr.nl e he
    rw [← e1, z1] at this
    exact absurd this (by decide +kernel)
  let q : E := ("q1", [], 5)
  have ew : withF t q = sortE (t ++ [q]) := by
    unfold withF
    rw [show findV t q.1 q.2.1 = none from nq]
    rfl
  have qst : ∀ x ∈ sortE (t ++ [q]), strK x.1 = true := fun x hx => by
    rcases List.mem_append.mp (mem_sortE.mp hx) with h | h
    · exact tok.str x h
    · rw [List.mem_singleton.mp h]; exact q1s
  have qt : ∀ s : Stt, Ev (DL.gTup (gaCons (gDat (.str ("q1" : Str))) (gaCons (DL.gTup gaNil) (gaCons (gDat (.int 5)) gaNil)))) s (.dat (eD q)) := fun s => .tup (ds := [.str "q1", .tup [], .int 5]) (.cons .dt (.cons (.tup (ds := []) .nil rfl (by decide)) (.one .dt))) rfl (Nat.le_of_ble_eq_true rfl)
  have ha : Ev (gBin fAdd (gCl fList (gaCons (gIxC (DL.gName 7) (DL.gName 8)) gaNil)) (gLst (gaCons (DL.gTup (gaCons (gDat (.str ("q1" : Str))) (gaCons (DL.gTup gaNil) (gaCons (gDat (.int 5)) gaNil)))) gaNil))) (lS ends evs rows b f φ T (intV en) x9 x10 x11 x12 x13 x14 x15 x16 x17 x18 x19 x20 n) (.new ((t ++ [q]).map eD)) := by
    have : (t ++ [q]).map eD = t.map eD ++ [eD q] := by rw [List.map_append]; rfl
    rw [this]
    exact .bin (.cl (w := .new (t.map eD)) (.one (tx _ _ _ _)) rfl rfl) (.lst (ds := [eD q]) (.one (qt _)) rfl (Nat.le_of_ble_eq_true rfl)) rfl rfl (add_lst (by rw [List.length_map]; show _ + 1 ≤ _; omega))
  have so := Ev.sorted (EvA.one ha) rfl (okS_e _)
  rw [sortD_e] at so
  refine gs_seq (gs_ifF (.v (.bin (w := .dat (.bl false)) (.call (d := .tup ((sortE (t ++ [q])).map eD)) (.cons (tx _ _ _ _) (.cons .dt (.cons (.tup (ds := []) .nil rfl (by decide)) (.one .dt)))) rfl fun Φ h => ⟨t, q, rfl, tok, q1s, by rw [ew]; exact h⟩) (.cl (w := .dat (.tup ((sortE (t ++ [q])).map eD))) (.one so) rfl rfl) rfl rfl (ne_self (dk_rows qst) (by decide))) rfl) (gs_nil ?_))
  show BL_10 (lS ends evs rows b f φ T (intV en) x9 x10 x11 x12 x13 x14 x15 x16 x17 x18 x19 x20 n) okT
  refine gs_seq (set_run (drd (lim := (t.length : Nat)) rfl (.cl (w := .dat (.int (t.length : Nat))) (.one (tx _ _ _ _)) rfl (by show some (W.dat (.int ((t.map eD).length : Nat))) = _; rw [List.length_map])) (by omega) (Nat.lt_of_lt_of_le (show _ < 1000 by omega) (by decide)) (by show n < 1000000; omega) fun v v0 v1 => ⟨_, _, rfl, ?_⟩))
  obtain ⟨j, rfl⟩ : ∃ j : Nat, v = (j : Int) := ⟨v.toNat, by omega⟩
  have hj : j < t.length := by omega
  obtain ⟨r, hr⟩ : ∃ r, t[j]? = some r := ⟨_, List.getElem?_eq_getElem hj⟩
  show BL_11 (lS ends evs rows b f φ T (intV en) x9 x10 x11 x12 x13 x14 x15 (natV j) x17 x18 x19 x20 (n + 1)) okT
  refine gs_seq (gs_own (ds := t.map eD) (.cl (w := .new (t.map eD)) (.one (tx _ _ _ _)) rfl rfl) ?_)
  show BL_12 (lS ends evs rows b f φ T (intV en) x9 x10 x11 x12 x13 x14 x15 (natV j) (some (.own (t.map eD))) x18 x19 x20 (n + 1)) okT
  have ai : ∀ k, Ev (gBin fIx (DL.gName 17) (DL.gName 16)) (lS ends evs rows b f φ T (intV en) x9 x10 x11 x12 x13 x14 x15 (natV j) (some (.own (t.map eD))) x18 x19 x20 k) (.dat (eD r)) := fun k => alt_ix rfl rfl hr
  refine gs_seq (show gsPutI 17 _ _ _ _ from tup_run (gaR (w := .dat (.str r.1)) (.bin (ai _) .dt rfl rfl rfl) (gaR (w := .dat (kD r.2.1)) (.bin (ai _) .dt rfl rfl rfl) (ga_run (binR (w1 := .dat (.int (r.2.2 + 1))) (.bin (.bin (w := .dat (.int r.2.2)) (ai _) .dt rfl rfl rfl) .dt rfl rfl (add_int _ _)) (drd (s := lS ends evs rows b f φ T (intV en) x9 x10 x11 x12 x13 x14 x15 (natV j) (some (.own (t.map eD))) x18 x19 x20 (n + 1)) rfl .dt (by decide) (by decide) (by show n + 1 < 1000000; omega) fun c c0 c1 => ⟨_, _, _, rfl, rfl, add_int _ _, ⟨_, _, rfl, Nat.le_of_ble_eq_true rfl, _, _, rfl, ⟨_, rfl⟩, ?_⟩⟩))))))
  let r' : E := (r.1, r.2.1, r.2.2 + 1 + c)
  refine Ev.name (d := .int (j : Nat)) rfl _ ⟨(j : Nat), j, t.map eD, rfl, rfl, ixN_in (by rw [List.length_map]; exact hj), ?_⟩
  have es : (t.map eD).set j (eD r') = (t.set j r').map eD := by rw [List.map_set]
  show BL_13 (lS ends evs rows b f φ T (intV en) x9 x10 x11 x12 x13 x14 x15 (natV j) (some (.own ((t.map eD).set j (eD r')))) x18 x19 x20 (n + 1 + 1)) okT
  rw [es]
  have hr' : (t.set j r')[j]? = some r' := List.getElem?_set_self hj
  generalize hu : t.set j r' = u at hr'
  have ust : ∀ x ∈ u, strK x.1 = true := fun x hx => by
    rw [← hu] at hx
    rcases List.mem_or_eq_of_mem_set hx with h | h
    · exact tok.str x h
    · rw [h]; exact tok.str r (List.mem_of_getElem? hr)
  have uok : TabOk u := ⟨by rw [← hu, List.length_set]; exact tok.len, ust⟩
  refine gs_seq (gs_set (d := eD r') (alt_ix rfl rfl hr') rfl ?_)
  show BL_14 (lS ends evs rows b f φ T (intV en) x9 x10 x11 x12 x13 x14 x15 (natV j) (some (.own (u.map eD))) (some (.val (eD r'))) x19 x20 (n + 1 + 1)) okT
  have ut : ∀ y18, Ev (gCl fTuple (gaCons (DL.gName 17) gaNil)) (lS ends evs rows b f φ T (intV en) x9 x10 x11 x12 x13 x14 x15 (natV j) (some (.own (u.map eD))) y18 x19 x20 (n + 1 + 1)) (.dat (.tup (u.map eD))) := fun y18 => .cl (.one (.nameO rfl)) rfl rfl
  have h18 : ∀ (i : Int) (d : D), fIx (eD r') (.int i) = some (.dat d) → Ev (gBin fIx (DL.gName 18) (gDat (.int i))) (lS ends evs rows b f φ T (intV en) x9 x10 x11 x12 x13 x14 x15 (natV j) (some (.own (u.map eD))) (some (.val (eD r'))) x19 x20 (n + 1 + 1)) (.dat d) := fun i d e => .bin (.name rfl) .dt rfl rfl e
  have wu : withF u (r'.1, r'.2.1, r'.2.2 - 1) = u := by
    unfold withF
    rw [if_pos (findV_ex (List.mem_of_getElem? hr'))]
  refine gs_seq (gs_ifF (.v (.bin (w := .dat (.bl false)) (.call (d := .tup (u.map eD)) (.cons (ut _) (.cons (h18 0 (.str r'.1) rfl) (.cons (h18 1 (kD r'.2.1) rfl) (.one (.bin (w := .dat (.int (r'.2.2 - 1))) (h18 2 (.int r'.2.2) rfl) .dt rfl rfl rfl))))) rfl fun Φ h => ⟨u, (r'.1, r'.2.1, r'.2.2 - 1), rfl, uok, ust r' (List.mem_of_getElem? hr'), by rw [wu]; exact h⟩) (ut _) rfl rfl (ne_self (dk_rows ust) (by decide))) rfl) (gs_nil ?_))
  show BL_15 (lS ends evs rows b f φ T (intV en) x9 x10 x11 x12 x13 x14 x15 (natV j) (some (.own (u.map eD))) (some (.val (eD r'))) x19 x20 (n + 1 + 1)) okT
  have hlT := hT.len
  refine gs_seq (gs_putC (k := .inl en) (d := .tup (u.map eD)) rfl (ut _) rfl (.name rfl) rfl (by rw [List.length_map]; omega) ?_)
  rw [putT_tb]
  refine law_16 (T := putT T en u) (n := n + 1 + 1) L (fun p hp2 => ?_) (putT_nod hT.nod) (by have := putT_len (T := T) (en := en) (t := u); omega)
  rcases putT_mem hp2 with h | h
  · exact tb p h
  · rw [h]; exact uok
end
end K21
set_option maxHeartbeats 1000000
namespace K21
open PySem PySem.Spec PyProof.Rows L2 Ax DL
section
variable {ends : Int} {evs : List Evt} {rows : List E} {b f : Int} {φ : Str → Int} {T : TB} {m n : Nat} {x8 x9 x10 x11 x12 x13 x14 x15 x16 x17 x18 x19 x20 : Option En}
theorem law_7 (L : LawOk evs rows b f φ) (hT : TOk evs rows b f 0 T) (hn : n < 500000) : BL_7 (lS ends evs rows b f φ T x8 x9 x10 x11 x12 x13 x14 x15 x16 x17 x18 x19 x20 n) okT := by
  refine gs_seq (gs_set (d := .tup []) (.tup .nil rfl (by decide)) rfl ?_)
  show BL_8 (lS ends evs rows b f φ T x8 (rowsV []) x10 x11 x12 x13 x14 x15 x16 x17 x18 x19 x20 n) okT
  refine gs_seq (for_run (range_run (ga_run (binR .dt (drd (lim := 9) rfl .dt (by decide) (by decide) (by show n < 1000000; omega) fun v v0 v1 => ⟨_, _, _, rfl, rfl, add_int _ _, _, rfl, ⟨by omega, by omega⟩, ?_⟩)))))
  rw [range_eq]
  have hN : (4 + v).toNat ≤ 12 := by omega
  have hN4 : 4 ≤ (4 + v).toNat := by omega
  refine gs_loop (L := List.range (4 + v).toNat) (dOf := fun i : Nat => D.int (i : Nat)) (fun pre s => ∃ (T : TB) (last : List E) (y8 y10 y11 y12 y13 y14 y15 : Option En) (k : Nat), TOk evs rows b f pre.length T ∧ (∀ r ∈ last, r ∈ playF T evs) ∧ last.length ≤ 100 ∧ (1 ≤ pre.length → ∃ en, y8 = intV en ∧ getC (tbL T) (.inl en) = some (.tup ((tabT T en).map eD)) ∧ 1 ≤ (tabT T en).length) ∧ k ≤ n + 1 + 20 * pre.length ∧ s = lS ends evs rows b f φ T y8 (rowsV last) y10 y11 y12 y13 y14 y15 x16 x17 x18 x19 x20 k) ?_ ?_ (List.range (4 + v).toNat) [] _ rfl ⟨T, [], x8, x10, x11, x12, x13, x14, x15, n + 1, hT, fun _ h => (by cases h), by decide, fun h => absurd h (by decide), by simp, rfl⟩
  · rintro pre q post s De' eL ⟨T, last, y8, y10, y11, y12, y13, y14, y15, k, hT, hl, hll, _, hk, rfl⟩ _ _ hnx _
    obtain ⟨rfl, hq⟩ := range_pos eL
    refine ⟨lS ends evs rows b f φ T y8 (rowsV last) (natV pre.length) y11 y12 y13 y14 y15 x16 x17 x18 x19 x20 k, rfl, ?_⟩
    refine turn L hT (by omega) hl hll (by omega) fun T' en z11 z12 z13 z14 z15 n' hT' hg hp hn' => hnx _ ⟨T', playF T' evs, intV en, _, z11, z12, z13, z14, z15, n', by rw [List.length_append]; exact hT', fun _ h => h, by have := play_len T' evs; have := L.dr.len; omega, fun _ => ⟨en, rfl, hg, hp⟩, by rw [List.length_append]; show n' ≤ n + 1 + 20 * (pre.length + 1); omega, rfl⟩
  · rintro s ⟨T, last, y8, y10, y11, y12, y13, y14, y15, k, hT, hl, hll, hex, hk, rfl⟩
    rw [List.length_range] at hT hk hex
    obtain ⟨en, rfl, hg, hp⟩ := hex (by omega)
    dsimp only
    exact law_9 L hT (by omega) hg hp (by omega)
theorem law_5 (L : LawOk evs rows b f φ) (h1 : 1 ≤ ends) (h2 : ends ≤ 4) (hn : n < 400000) : BL_5 ⟨[none, some .bag, some (.val (.int ends)), some (.val (.lst (evs.map evT))), some (.val (wlL rows b f)), some (.val (orD evs)), some (.val (truD evs φ)), none, x8, x9, x10, x11, x12, x13, x14, x15, x16, x17, x18, x19, x20], n⟩ okT := by
  refine gs_seq (gs_dck ?_)
  show BL_6 (lS ends evs rows b f φ [] x8 x9 x10 x11 x12 x13 x14 x15 x16 x17 x18 x19 x20 n) okT
  have ri : EvI (giRange2 (gaCons (gDat (.int 1)) (gaCons (gBin fAdd (DL.gName 2) (gDat (.int 1))) gaNil))) (lS ends evs rows b f φ [] x8 x9 x10 x11 x12 x13 x14 x15 x16 x17 x18 x19 x20 n) (rangeD 1 (ends + 1 - 1).toNat) := fun Φ q => (EvA.cons .dt (.one (.bin (.name (d := .int ends) rfl) .dt rfl rfl (add_int _ _)))) _ ⟨1, ends + 1, rfl, ⟨by omega, by omega, by omega, by omega⟩, q⟩
  have hN : (ends + 1 - 1).toNat ≤ 4 := by omega
  refine gs_seq (gs_forL (L := List.range (ends + 1 - 1).toNat) (dOf := fun i : Nat => D.int (1 + (i : Nat))) (fun pre s => ∃ (T : TB) (y8 : Option En) (k : Nat), Good evs (ansR rows b f) T ∧ (T.map (·.1)).Nodup ∧ T.length ≤ pre.length ∧ (∀ p ∈ T, p.2.length ≤ 0) ∧ k ≤ n + pre.length ∧ s = lS ends evs rows b f φ T y8 x9 x10 x11 x12 x13 x14 x15 x16 x17 x18 x19 x20 k) ri rfl ⟨[], x8, n, fun p hp => (by cases hp), List.nodup_nil, Nat.le_refl _, fun p hp => (by cases hp), Nat.le_refl _, rfl⟩ ?_ ?_)
  · rintro pre q post s De' eL ⟨T, y8, k, hg, nod, hl, hz, hk, rfl⟩ _ _ hnx _
    obtain ⟨rfl, hq⟩ := range_pos eL
    refine ⟨lS ends evs rows b f φ T (intV (1 + (pre.length : Nat))) x9 x10 x11 x12 x13 x14 x15 x16 x17 x18 x19 x20 k, rfl, ?_⟩
    refine if_run (tv_run (bin_run (drd (s := lS ends evs rows b f φ T (intV (1 + (pre.length : Nat))) x9 x10 x11 x12 x13 x14 x15 x16 x17 x18 x19 x20 k) rfl .dt (by decide) (by decide) (by show k < 1000000; omega) fun y y0 y1 => ⟨_, _, _, rfl, rfl, feq (okD_int _) (okD_int _), _, rfl, ?_⟩)))
    rw [eqD_int]
    by_cases zy : y = 0
    · rw [decide_eq_true zy, if_pos rfl]
      refine gs_putC (k := .inl (1 + (pre.length : Nat))) (d := .tup (([] : List E).map eD)) rfl (.tup .nil rfl (by decide)) rfl (.name rfl) rfl (by rw [List.length_map]; omega) ?_
      rw [putT_tb]
      refine hnx _ ⟨putT T (1 + (pre.length : Nat)) [], intV (1 + (pre.length : Nat)), k + 1, fun p hp => ?_, putT_nod nod, ?_, fun p hp => ?_, by rw [List.length_append]; show k + 1 ≤ n + (pre.length + 1); omega, rfl⟩
      · rcases putT_mem hp with h | h
        · exact hg p h
        · rw [h]; intro r hr; cases hr
      · have := putT_len (T := T) (en := 1 + (pre.length : Nat)) (t := [])
        rw [List.length_append]
        show _ ≤ pre.length + 1
        omega
      · rcases putT_mem hp with h | h
        · exact hz p h
        · rw [h]; exact Nat.le_refl _
    · rw [decide_eq_false zy, if_neg Bool.false_ne_true]
      exact gs_nil (hnx _ ⟨T, intV (1 + (pre.length : Nat)), k + 1, hg, nod, by rw [List.length_append]; omega, hz, by rw [List.length_append]; show k + 1 ≤ n + (pre.length + 1); omega, rfl⟩)
  · rintro s ⟨T, y8, k, hg, nod, hl, hz, hk, rfl⟩
    rw [List.length_range] at hl hk
    dsimp only
    exact law_7 L ⟨hg, nod, by omega, hz⟩ (by omega)
end
theorem hB_law : B_law ⟨none :: some .bag :: List.replicate 19 none, 0⟩ okT := by
  rw [B_law_eq]
  show BL_0 ⟨[none, some .bag, none, none, none, none, none, none, none, none, none, none, none, none, none, none, none, none, none, none, none], 0⟩ okT
  refine gs_seq (set_run (binR .dt (drd (lim := 4) rfl .dt (by decide) (by decide) (by decide) fun v v0 v1 => ⟨_, _, _, rfl, rfl, add_int _ _, _, _, rfl, ?_⟩)))
  have h1 : 1 ≤ 1 + v := by omega
  have h2 : 1 + v ≤ 4 := by omega
  generalize 1 + v = ends at h1 h2
  show BL_1 ⟨[none, some .bag, some (.val (.int ends)), none, none, none, none, none, none, none, none, none, none, none, none, none, none, none, none, none, none], 1⟩ okT
  refine gs_seq (set_run (callB rfl (.cons (.name rfl) (.cons .dt (.one .dt))) rfl ⟨ends, rfl, h1, h2, Nat.le_of_ble_eq_true rfl, fun evs n1 dr hn1 => ⟨_, _, rfl, ?_⟩⟩))
  have hn1' : n1 ≤ 1 + 200 := hn1
  show BL_2 ⟨[none, some .bag, some (.val (.int ends)), some (.val (.lst (evs.map evT))), none, none, none, none, none, none, none, none, none, none, none, none, none, none, none, none, none], n1⟩ okT
  refine gs_seq (set_run (callB rfl (.one (.name rfl)) rfl ⟨evs, rfl, dr.wf, by show n1 < 800000; omega, fun rows b f n2 ok l12 hn2 => ?_⟩))
  have hn2' : n2 ≤ n1 + 100 := hn2
  obtain ⟨φ, sol⟩ := sol_ex dr.wf (ansR rows b f)
  have L : LawOk evs rows b f φ := ⟨dr, ok, sol⟩
  refine ⟨_, _, rfl, ?_⟩
  show BL_3 ⟨[none, some .bag, some (.val (.int ends)), some (.val (.lst (evs.map evT))), some (.val (wlL rows b f)), none, none, none, none, none, none, none, none, none, none, none, none, none, none, none, none], n2⟩ okT
  refine gs_seq (gs_set (d := orD evs) (.call (.one (.name rfl)) rfl fun Φ q => ⟨evs, rfl, dr.wf, q⟩) rfl ?_)
  show BL_4 ⟨[none, some .bag, some (.val (.int ends)), some (.val (.lst (evs.map evT))), some (.val (wlL rows b f)), some (.val (orD evs)), none, none, none, none, none, none, none, none, none, none, none, none, none, none, none], n2⟩ okT
  refine gs_seq (gs_set (d := truD evs φ) (.call (.cons (.name rfl) (.one (.name rfl))) rfl fun Φ q => ⟨evs, rows, b, f, φ, rfl, dr.wf, ok.f, sol, L.bφ, q⟩) rfl ?_)
  exact law_5 (n := n2) L h1 h2 (by omega)
end K21
set_option maxHeartbeats 1000000
namespace K21
open PySem PySem.Spec PyProof.Rows L2 Ax DL
section
variable {P : Program} {w : World} {K : PySem.W.Frag} {mg : Str → Option Value} {base : Heap}
theorem fn_is_whole (hB : ∀ ds Φ, S_is_whole ds Φ → B_is_whole ⟨startD n_is_whole ds, 0⟩ (retD Φ)) (hl : ∀ ds Φ, S_is_whole ds Φ → ds.length = 1) (T : Tx w K mg) {fd : FuncData} (F : FunD K "is_whole" "is_whole" (defArgs s_is_whole) (defBody s_is_whole) (defScope s_is_whole) (d_is_whole.dvs K) [] (He.fAd K d_is_whole.at_) fd) : FnOk P w K mg base CX0 1 (He.fAd K d_is_whole.at_) fd ["thing"] (spP ⟨P, w, K, nE⟩ S_is_whole) := by
  have nd := sc_is_whole.nd
  let N := n_is_whole
  let sc := defScope s_is_whole
  refine F.ok sc_is_whole (fun vs H Q E h => lenP h hl) (fun cdv A outer s H vs Q E hr h => mk_body (body_ok (K := ⟨P, w, K, nE⟩) (g := B_is_whole) (ss_ret (se_and (se_isi (n := "int") (se_name 0)) (se_not (se_isi (n := "bool") (se_name 0))))) hB h) (PSs.nox (pss_one (ps_ret (pe_and (pe_callB call_isi rfl T.b_isinstance (by decide +kernel) (pa_cons (pv 0) (pa_cons (pe_bltn (v := .ty "int") rfl T.b_int (by decide +kernel) rfl) pa_nil))) (pe_one (pe_not (pe_callB call_isi rfl T.b_isinstance (by decide +kernel) (pa_cons (pv 0) (pa_cons (pe_bltn (v := .ty "bool") rfl T.b_bool (by decide +kernel) rfl) pa_nil))))))))))
theorem dn_is_whole_oF (hB : ∀ ds Φ, S_is_whole ds Φ → B_is_whole ⟨startD n_is_whole ds, 0⟩ (retD Φ)) (hl : ∀ ds Φ, S_is_whole ds Φ → ds.length = 1) (T : Tx w K mg) : Dn P w K mg base CX0 1 "is_whole" ["thing"] (spP ⟨P, w, K, nE⟩ S_is_whole) := by
  obtain ⟨fd, F⟩ := T.f_is_whole
  exact ⟨_, fd, fn_is_whole hB hl T F, T.g_is_whole, F.kp, F.bindsN fun _ _ _ _ _ _ us hl => match us, hl with | [_], _ => rfl⟩
theorem dn_is_whole (T : Tx w K mg) : Dn P w K mg base CX0 1 "is_whole" ["thing"] (spP ⟨P, w, K, nE⟩ S_is_whole) := dn_is_whole_oF hB_is_whole hl_is_whole T
theorem fn_is_between (hB : ∀ ds Φ, S_is_between ds Φ → B_is_between ⟨startD n_is_between ds, 0⟩ (retD Φ)) (hl : ∀ ds Φ, S_is_between ds Φ → ds.length = 3) (T : Tx w K mg) {fd : FuncData} (F : FunD K "is_between" "is_between" (defArgs s_is_between) (defBody s_is_between) (defScope s_is_between) (d_is_between.dvs K) [] (He.fAd K d_is_between.at_) fd) : FnOk P w K mg base CX0 2 (He.fAd K d_is_between.at_) fd ["thing", "least", "most"] (spP ⟨P, w, K, nE⟩ S_is_between) := by
  have nd := sc_is_between.nd
  let N := n_is_between
  let sc := defScope s_is_between
  refine F.ok sc_is_between (fun vs H Q E h => lenP h hl) (fun cdv A outer s H vs Q E hr h => mk_body (body_ok (K := ⟨P, w, K, nE⟩) (g := B_is_between) (ss_ret (se_and (se_call (fun _ => .nil) (sa_cons (se_name 0) sa_nil)) (se_chain (os_B fun i j => decide (i ≤ j)) (os_B fun i j => decide (i ≤ j)) (se_name 1) (se_name 0) (se_name 2)))) hB h) (PSs.nox (pss_one (ps_ret (pe_and (pe_dn (dn_is_whole T) (Room.mono hr (by decide)) rfl pass0 (pa_cons (pv 0) pa_nil)) (pe_one (pe_chain op_le op_le (pv 1) (pv 0) (pv 2))))))))
theorem dn_is_between_oF (hB : ∀ ds Φ, S_is_between ds Φ → B_is_between ⟨startD n_is_between ds, 0⟩ (retD Φ)) (hl : ∀ ds Φ, S_is_between ds Φ → ds.length = 3) (T : Tx w K mg) : Dn P w K mg base CX0 2 "is_between" ["thing", "least", "most"] (spP ⟨P, w, K, nE⟩ S_is_between) := by
  obtain ⟨fd, F⟩ := T.f_is_between
  exact ⟨_, fd, fn_is_between hB hl T F, T.g_is_between, F.kp, F.bindsN fun _ _ _ _ _ _ us hl => match us, hl with | [_, _, _], _ => rfl⟩
theorem dn_is_between (T : Tx w K mg) : Dn P w K mg base CX0 2 "is_between" ["thing", "least", "most"] (spP ⟨P, w, K, nE⟩ S_is_between) := dn_is_between_oF hB_is_between hl_is_between T
theorem fn_is_name (hB : ∀ ds Φ, S_is_name ds Φ → B_is_name ⟨startD n_is_name ds, 0⟩ (retD Φ)) (hl : ∀ ds Φ, S_is_name ds Φ → ds.length = 1) (T : Tx w K mg) {fd : FuncData} (F : FunD K "is_name" "is_name" (defArgs s_is_name) (defBody s_is_name) (defScope s_is_name) (d_is_name.dvs K) [] (He.fAd K d_is_name.at_) fd) : FnOk P w K mg base CX0 1 (He.fAd K d_is_name.at_) fd ["thing"] (spP ⟨P, w, K, nE⟩ S_is_name) := by
  have nd := sc_is_name.nd
  let N := n_is_name
  let sc := defScope s_is_name
  obtain ⟨t_LETTERS, e_LETTERS⟩ := T.s_LETTERS
  obtain ⟨t_LONGEST_NAME, e_LONGEST_NAME⟩ := T.i_LONGEST_NAME
  obtain ⟨t_SIGNS, e_SIGNS⟩ := T.s_SIGNS
  refine F.ok sc_is_name (fun vs H Q E h => lenP h hl) (fun cdv A outer s H vs Q E hr h => mk_body (body_ok (K := ⟨P, w, K, nE⟩) (g := B_is_name) (ss_seq (ss_if (sb_or (sb_not (sb_val (se_isi (n := "str") (se_name 0)))) (sb_not (sb_test (se_chain (os_B fun i j => decide (i ≤ j)) (os_B fun i j => decide (i ≤ j)) se_int (se_cl cs_len (sa_cons (se_name 0) sa_nil)) se_int)))) (ss_ret se_bl) ss_nil)
    (ss_ret (se_and (se_bin os_inS (se_bin os_ix (se_name 0) se_int) se_str) (se_cl cs_all (sa_cons (se_lc (vs := [1]) (si_str (se_name 0)) (st_name 1) sb_yes (se_bin os_inS (se_name 1) se_str) (by decide)) sa_nil))))) hB h) (PSs.nox (pss_cons (ps_if (PW.pt (pw_or (pt_not (pt_val (pe_callB call_isi rfl T.b_isinstance (by decide +kernel) (pa_cons (pv 0) (pa_cons (pe_bltn (v := .ty "str") rfl T.b_str (by decide +kernel) rfl) pa_nil))))) (pw_or1 (pt_not (pt_chain op_le op_le pe_int (pe_callB call_len rfl T.b_len (by decide +kernel) (pa_cons (pv 0) pa_nil)) (pe_glob (v := .int 8) rfl e_LONGEST_NAME ⟨_, rfl⟩)))))) (pss_one (ps_ret pe_bl)) pss_nil)
    (pss_one (ps_ret (pe_and (pe_cmpR op_inS (pe_ix ix_seq (pv 0) pe_int (fun _ _ => rfl)) (pe_glob (v := .str "abcdefghijklmnopqrstuvwxyz") rfl e_LETTERS ⟨_, rfl⟩) rfl) (pe_one (pe_callB (cr_all rfl) rfl T.b_all (by decide +kernel) (pa_cons (pe_lc (own := [("sign", 1)]) rfl nd (pi_str (pv 0)) (blkOk_by (own := [("sign", 1)]) (N := N) (sc := sc) (by decide +kernel)) (fun _ _ _ _ _ => (pg_name (i := 1) nd rfl (Or.inl rfl))) (fun _ _ _ _ _ => pts_nil) (fun _ _ _ _ _ => (pe_cmpR op_inS (pv 1) (pe_glob (v := .str "abcdefghijklmnopqrstuvwxyz0123456789") rfl e_SIGNS ⟨_, rfl⟩) rfl))) pa_nil)))))))))
theorem dn_is_name_oF (hB : ∀ ds Φ, S_is_name ds Φ → B_is_name ⟨startD n_is_name ds, 0⟩ (retD Φ)) (hl : ∀ ds Φ, S_is_name ds Φ → ds.length = 1) (T : Tx w K mg) : Dn P w K mg base CX0 1 "is_name" ["thing"] (spP ⟨P, w, K, nE⟩ S_is_name) := by
  obtain ⟨fd, F⟩ := T.f_is_name
  exact ⟨_, fd, fn_is_name hB hl T F, T.g_is_name, F.kp, F.bindsN fun _ _ _ _ _ _ us hl => match us, hl with | [_], _ => rfl⟩
theorem dn_is_name (T : Tx w K mg) : Dn P w K mg base CX0 1 "is_name" ["thing"] (spP ⟨P, w, K, nE⟩ S_is_name) := dn_is_name_oF hB_is_name hl_is_name T
theorem fn_Event_init (hB : ∀ x ds Φ, SI_Event ds Φ → B_Event_init ⟨startI x "Event" n_Event_init ds, 0⟩ (retI x "Event" Φ)) (hl : ∀ ds Φ, SI_Event ds Φ → ds.length = 4) (T : Tx w K mg) {fd : FuncData} (F : FunD K "__init__" "Event.__init__" (defArgs s_Event_init) (defBody s_Event_init) (defScope s_Event_init) (d_Event_init.dvs K) [] (He.fAd K d_Event_init.at_) fd) : FnOk P w K mg base CX0 1 (He.fAd K d_Event_init.at_) fd ["self", "name", "end", "kind", "needs"] (spI ⟨P, w, K, nE⟩ "Event" SI_Event) := by
  have nd := sc_Event_init.nd
  let N := n_Event_init
  let sc := defScope s_Event_init
  refine F.ok sc_Event_init (fun vs H Q E h => lenI h hl) (fun cdv A outer s H vs Q E hr h => mk_body (body_okI (K := ⟨P, w, K, nE⟩) (g := B_Event_init) (ss_seq (ss_fld (i := 0) T.c_Event T.n_Event_name (se_name 1))
    (ss_seq (ss_fld (i := 0) T.c_Event T.n_Event_end (se_name 2))
    (ss_seq (ss_fld (i := 0) T.c_Event T.n_Event_kind (se_name 3))
    (ss_fld (i := 0) T.c_Event T.n_Event_needs (se_cl cs_tuple (sa_cons (se_name 4) sa_nil)))))) hB h) (PSs.nox (pss_cons (ps_fld (pv 0) (pv 1) rfl)
    (pss_cons (ps_fld (pv 0) (pv 2) rfl)
    (pss_cons (ps_fld (pv 0) (pv 3) rfl)
    (pss_one (ps_fld (pv 0) (pe_callTy call_tuple_of rfl T.b_tuple (by decide +kernel) (pa_cons (pv 4) pa_nil)) rfl)))))))
theorem dc_Event (T : Tx w K mg) : DcD P w K mg base CX0 1 "Event" ["self", "name", "end", "kind", "needs"] [] (spI ⟨P, w, K, nE⟩ "Event" SI_Event) := by
  obtain ⟨fd, F⟩ := T.f_Event_init
  obtain ⟨ds, hv, hb⟩ := F.binds1 5 1 (ps := ["self", "name", "end", "kind", "needs"]) (by intro z; cases z) (by rfl) (fun Ta kV doc pm an cdv ct us its h1 h2 => match us, its, h1, h2 with
    | [_, _, _, _, _], [_], _, _ => ⟨_, rfl, rfl⟩)
  exact ⟨_, fd, ds, fn_Event_init hB_Event_init hl_Event_init T F, T.g_Event, T.k_Event, hv, hb⟩
theorem fn_are_needs (hB : ∀ ds Φ, S_are_needs ds Φ → B_are_needs ⟨startD n_are_needs ds, 0⟩ (retD Φ)) (hl : ∀ ds Φ, S_are_needs ds Φ → ds.length = 2) (T : Tx w K mg) {fd : FuncData} (F : FunD K "are_needs" "are_needs" (defArgs s_are_needs) (defBody s_are_needs) (defScope s_are_needs) (d_are_needs.dvs K) [] (He.fAd K d_are_needs.at_) fd) : FnOk P w K mg base CX0 1 (He.fAd K d_are_needs.at_) fd ["needs", "elder"] (spP ⟨P, w, K, nE⟩ S_are_needs) := by
  have nd := sc_are_needs.nd
  let N := n_are_needs
  let sc := defScope s_are_needs
  obtain ⟨t_MOST_NEEDS, e_MOST_NEEDS⟩ := T.i_MOST_NEEDS
  refine F.ok sc_are_needs (fun vs H Q E h => lenP h hl) (fun cdv A outer s H vs Q E hr h => mk_body (body_ok (K := ⟨P, w, K, nE⟩) (g := B_are_needs) (ss_seq (ss_if (sb_test (se_bin (os_B fun i j => decide (j < i)) (se_cl cs_len (sa_cons (se_name 0) sa_nil)) se_int)) (ss_ret se_bl) ss_nil)
    (ss_ret (se_cl cs_all (sa_cons (se_lc (vs := [2]) (si_seq (se_name 0)) (st_name 2) sb_yes (se_and (se_bin os_in (se_name 2) (se_name 1)) (se_bin os_eq (se_countZ (se_name 0) (se_name 2)) se_int)) (by decide)) sa_nil)))) hB h) (PSs.nox (pss_cons (ps_if (pt_cmpR op_gt (pe_callB call_len rfl T.b_len (by decide +kernel) (pa_cons (pv 0) pa_nil)) (pe_glob (v := .int 3) rfl e_MOST_NEEDS ⟨_, rfl⟩) (nomark _)) (pss_one (ps_ret pe_bl)) pss_nil)
    (pss_one (ps_ret (pe_callB (cr_all rfl) rfl T.b_all (by decide +kernel) (pa_cons (pe_lc (own := [("need", 2)]) rfl nd (pi_seq (pv 0)) (blkOk_by (own := [("need", 2)]) (N := N) (sc := sc) (by decide +kernel)) (fun _ _ _ _ _ => (pg_name (i := 2) nd rfl (Or.inl rfl))) (fun _ _ _ _ _ => pts_nil) (fun _ _ _ _ _ => (pe_and (pe_cmpR (op_inD (Room.u65 hr)) (pv 2) (pv 1) rfl) (pe_one (pe_cmpR (op_eqD hr.units) (pe_tm PySem.F.slot_tuple_count PySem.F.type_tuple_count (mt_tcountS hr.units) (pv 0) (pa_cons (pv 2) pa_nil)) pe_int (nomark _)))))) pa_nil)))))))
theorem dn_are_needs_oF (hB : ∀ ds Φ, S_are_needs ds Φ → B_are_needs ⟨startD n_are_needs ds, 0⟩ (retD Φ)) (hl : ∀ ds Φ, S_are_needs ds Φ → ds.length = 2) (T : Tx w K mg) : Dn P w K mg base CX0 1 "are_needs" ["needs", "elder"] (spP ⟨P, w, K, nE⟩ S_are_needs) := by
  obtain ⟨fd, F⟩ := T.f_are_needs
  exact ⟨_, fd, fn_are_needs hB hl T F, T.g_are_needs, F.kp, F.bindsN fun _ _ _ _ _ _ us hl => match us, hl with | [_, _], _ => rfl⟩
theorem dn_are_needs (T : Tx w K mg) : Dn P w K mg base CX0 1 "are_needs" ["needs", "elder"] (spP ⟨P, w, K, nE⟩ S_are_needs) := dn_are_needs_oF hB_are_needs hl_are_needs T
theorem fn_event_fault (hB : ∀ ds Φ, S_event_fault ds Φ → B_event_fault ⟨startD n_event_fault ds, 0⟩ (retD Φ)) (hl : ∀ ds Φ, S_event_fault ds Φ → ds.length = 2) (T : Tx w K mg) {fd : FuncData} (F : FunD K "event_fault" "event_fault" (defArgs s_event_fault) (defBody s_event_fault) (defScope s_event_fault) (d_event_fault.dvs K) [] (He.fAd K d_event_fault.at_) fd) : FnOk P w K mg base CX0 3 (He.fAd K d_event_fault.at_) fd ["event", "elder"] (spP ⟨P, w, K, nE⟩ S_event_fault) := by
  have nd := sc_event_fault.nd
  let N := n_event_fault
  let sc := defScope s_event_fault
  obtain ⟨t_LAST_END, e_LAST_END⟩ := T.i_LAST_END
  refine F.ok sc_event_fault (fun vs H Q E h => lenP h hl) (fun cdv A outer s H vs Q E hr h => mk_body (body_ok (K := ⟨P, w, K, nE⟩) (g := B_event_fault) (ss_seq (ss_if (sb_not (sb_val (se_call (fun _ => .nil) (sa_cons (se_fld T.c_Event T.n_Event_name (se_name 0)) sa_nil)))) (ss_ret se_str) ss_nil)
    (ss_seq (ss_if (sb_test (se_bin os_in (se_fld T.c_Event T.n_Event_name (se_name 0)) (se_name 1))) (ss_ret se_str) ss_nil)
    (ss_seq (ss_if (sb_not (sb_val (se_call (fun _ => .nil) (sa_cons (se_fld T.c_Event T.n_Event_end (se_name 0)) (sa_cons se_int (sa_cons se_int sa_nil)))))) (ss_ret se_str) ss_nil)
    (ss_seq (ss_if (sb_test (se_bin os_notInT (se_fld T.c_Event T.n_Event_kind (se_name 0)) (se_gtup (ys := ["query", "action"]) T.t_KINDS))) (ss_ret se_str) ss_nil)
    (ss_seq (ss_if (sb_not (sb_val (se_call (fun _ => .nil) (sa_cons (se_fld T.c_Event T.n_Event_needs (se_name 0)) (sa_cons (se_name 1) sa_nil))))) (ss_ret se_str) ss_nil)
    (ss_ret se_non)))))) hB h) (PSs.nox (pss_cons (ps_if (pt_not (pt_val (pe_dn (dn_is_name T) (Room.mono hr (by decide)) rfl pass0 (pa_cons (pe_fld (pv 0) rfl) pa_nil)))) (pss_one (ps_ret pe_str)) pss_nil)
    (pss_cons (ps_if (pt_cmpR (op_inD (Room.u65 hr)) (pe_fld (pv 0) rfl) (pv 1) rfl) (pss_one (ps_ret pe_str)) pss_nil)
    (pss_cons (ps_if (pt_not (pt_val (pe_dn (dn_is_between T) (Room.mono hr (by decide)) rfl pass0 (pa_cons (pe_fld (pv 0) rfl) (pa_cons pe_int (pa_cons (pe_glob (v := .int 5) rfl e_LAST_END ⟨_, rfl⟩) pa_nil)))))) (pss_one (ps_ret pe_str)) pss_nil)
    (pss_cons (ps_if (pt_cmpR (DL.op_notInT (Room.u65 hr)) (pe_fld (pv 0) rfl) (pe_glob (v := .ref (He.ga K "KINDS")) rfl T.g_KINDS rfl) rfl) (pss_one (ps_ret pe_str)) pss_nil)
    (pss_cons (ps_if (pt_not (pt_val (pe_dn (dn_are_needs T) (Room.mono hr (by decide)) rfl pass0 (pa_cons (pe_fld (pv 0) rfl) (pa_cons (pv 1) pa_nil))))) (pss_one (ps_ret pe_str)) pss_nil)
    (pss_one (ps_ret pe_non)))))))))
theorem dn_event_fault_oF (hB : ∀ ds Φ, S_event_fault ds Φ → B_event_fault ⟨startD n_event_fault ds, 0⟩ (retD Φ)) (hl : ∀ ds Φ, S_event_fault ds Φ → ds.length = 2) (T : Tx w K mg) : Dn P w K mg base CX0 3 "event_fault" ["event", "elder"] (spP ⟨P, w, K, nE⟩ S_event_fault) := by
  obtain ⟨fd, F⟩ := T.f_event_fault
  exact ⟨_, fd, fn_event_fault hB hl T F, T.g_event_fault, F.kp, F.bindsN fun _ _ _ _ _ _ us hl => match us, hl with | [_, _], _ => rfl⟩
theorem dn_event_fault (T : Tx w K mg) : Dn P w K mg base CX0 3 "event_fault" ["event", "elder"] (spP ⟨P, w, K, nE⟩ S_event_fault) := dn_event_fault_oF hB_event_fault hl_event_fault T
theorem fn_Order_init (hB : ∀ x ds Φ, SI_Order ds Φ → B_Order_init ⟨startI x "Order" n_Order_init ds, 0⟩ (retI x "Order" Φ)) (hl : ∀ ds Φ, SI_Order ds Φ → ds.length = 1) (T : Tx w K mg) {fd : FuncData} (F : FunD K "__init__" "Order.__init__" (defArgs s_Order_init) (defBody s_Order_init) (defScope s_Order_init) (d_Order_init.dvs K) [] (He.fAd K d_Order_init.at_) fd) : FnOk P w K mg base CX0 4 (He.fAd K d_Order_init.at_) fd ["self", "events"] (spI ⟨P, w, K, nE⟩ "Order" SI_Order) := by
  have nd := sc_Order_init.nd
  let N := n_Order_init
  let sc := defScope s_Order_init
  obtain ⟨t_MOST_EVENTS, e_MOST_EVENTS⟩ := T.i_MOST_EVENTS
  refine F.ok sc_Order_init (fun vs H Q E h => lenI h hl) (fun cdv A outer s H vs Q E hr h => mk_body (body_okI (K := ⟨P, w, K, nE⟩) (g := B_Order_init) (ss_seq (ss_fld (i := 0) T.c_Order T.n_Order_events (se_cl cs_tuple (sa_cons (se_name 1) sa_nil)))
    (ss_seq (ss_if (sb_test (se_bin (os_B fun i j => decide (j < i)) (se_cl cs_len (sa_cons (se_fldO (i := 0) T.c_Order T.n_Order_events) sa_nil)) se_int)) ss_never ss_nil)
    (ss_seq (ss_own (i := 2) (se_lst sa_nil))
    (ss_seq (ss_for (si_seq (se_fldO (i := 0) T.c_Order T.n_Order_events)) (st_name 3) (ss_seq (ss_set (i := 4) (se_peek (fun _ => .nil) (sa_cons (se_name 3) (sa_cons (se_name 2) sa_nil))))
    (ss_seq (ss_if (sb_val (se_notN (se_name 4))) ss_never ss_nil)
    (ss_app (i := 2) (se_fld T.c_Event T.n_Event_name (se_name 3))))))
    (ss_fld (i := 0) T.c_Order T.n_Order__names (se_cl cs_tuple (sa_cons (se_name 2) sa_nil))))))) hB h) (PSs.nox (pss_cons (ps_fld (pv 0) (pe_callTy call_tuple_of rfl T.b_tuple (by decide +kernel) (pa_cons (pv 1) pa_nil)) rfl)
    (pss_cons (ps_if (pt_cmpR op_gt (pe_callB call_len rfl T.b_len (by decide +kernel) (pa_cons (pe_fld (pv 0) rfl) pa_nil)) (pe_glob (v := .int 12) rfl e_MOST_EVENTS ⟨_, rfl⟩) (nomark _)) (pss_one DL.ps_false) pss_nil)
    (pss_cons (ps_set (i := 2) nd rfl (Or.inl rfl) (pe_lst pa_nil))
    (pss_cons (ps_for PassesOwn.never rfl (pi_seq (pe_fld (pv 0) rfl)) (pg_name (i := 3) nd rfl (Or.inl rfl)) (pss_cons (ps_set (i := 4) nd rfl (Or.inl rfl) (pe_dn (dn_event_fault T) (Room.mono hr (by decide)) rfl pass0 (pa_cons (pv 3) (pa_cons (pv 2) pa_nil))))
    (pss_cons (ps_if (pt_cmp (pc_notN (pv 4)) rfl) (pss_one DL.ps_false) pss_nil)
    (pss_one (ps_expr (pe_bm PySem.F.plainAttrs_list PySem.F.slot_list_append PySem.F.type_list_append mt_append (pv 2) (pa_cons (pe_fld (pv 3) rfl) pa_nil)))))))
    (pss_one (ps_fld (pv 0) (pe_callTy call_tuple_of rfl T.b_tuple (by decide +kernel) (pa_cons (pv 2) pa_nil)) rfl))))))))
theorem dc_Order_of (hB : ∀ x ds Φ, SI_Order ds Φ → B_Order_init ⟨startI x "Order" n_Order_init ds, 0⟩ (retI x "Order" Φ)) (hl : ∀ ds Φ, SI_Order ds Φ → ds.length = 1) (T : Tx w K mg) : DcD P w K mg base CX0 4 "Order" ["self", "events"] [] (spI ⟨P, w, K, nE⟩ "Order" SI_Order) := by
  obtain ⟨fd, F⟩ := T.f_Order_init
  exact ⟨_, fd, [], fn_Order_init hB hl T F, T.g_Order, T.k_Order, .nil, F.bindsN fun _ _ _ _ _ _ us hl => match us, hl with | [_, _], _ => rfl⟩
theorem dc_Order (T : Tx w K mg) : DcD P w K mg base CX0 4 "Order" ["self", "events"] [] (spI ⟨P, w, K, nE⟩ "Order" SI_Order) := dc_Order_of hB_Order_init hl_Order_init T
theorem fn_Order_place (hB : ∀ ds Φ, S_Order_place ds Φ → B_Order_place ⟨startD n_Order_place ds, 0⟩ (retD Φ)) (hl : ∀ ds Φ, S_Order_place ds Φ → ds.length = 2) (T : Tx w K mg) {fd : FuncData} (F : FunD K "place" "Order.place" (defArgs s_Order_place) (defBody s_Order_place) (defScope s_Order_place) (d_Order_place.dvs K) [] (He.fAd K d_Order_place.at_) fd) : FnOk P w K mg base CX0 1 (He.fAd K d_Order_place.at_) fd ["self", "name"] (spP ⟨P, w, K, nE⟩ S_Order_place) := by
  have nd := sc_Order_place.nd
  let N := n_Order_place
  let sc := defScope s_Order_place
  refine F.ok sc_Order_place (fun vs H Q E h => lenP h hl) (fun cdv A outer s H vs Q E hr h => mk_body (body_ok (K := ⟨P, w, K, nE⟩) (g := B_Order_place) (ss_seq (ss_for (si_enum (sa_cons (se_fld T.c_Order T.n_Order_events (se_name 0)) sa_nil)) (st_tup (n := 2) (st_cons (st_name 2) (st_cons (st_name 3) st_nil))) (ss_if (sb_test (se_bin os_eq (se_fld T.c_Event T.n_Event_name (se_name 3)) (se_name 1))) (ss_ret (se_name 2)) ss_nil))
    ss_never) hB h) (PSs.nox (pss_cons (ps_for PassesOwn.never rfl (pi_enumA rfl T.b_enumerate (pa_cons (pe_fld (pv 0) rfl) pa_nil)) (pg_tup rfl (pgs_cons (pg_name (i := 2) nd rfl (Or.inl rfl)) (pgs_cons (pg_name (i := 3) nd rfl (Or.inl rfl)) pgs_nil))) (pss_one (ps_if (pt_cmpR (op_eqD hr.units) (pe_fld (pv 3) rfl) (pv 1) (nomark _)) (pss_one (ps_ret (pv 2))) pss_nil)))
    (pss_one DL.ps_false))))
theorem dm_Order_place_of (hB : ∀ ds Φ, S_Order_place ds Φ → B_Order_place ⟨startD n_Order_place ds, 0⟩ (retD Φ)) (hl : ∀ ds Φ, S_Order_place ds Φ → ds.length = 2) (T : Tx w K mg) : DMt P w K mg base CX0 1 "Order" "place" ["self", "name"] [] (spP ⟨P, w, K, nE⟩ S_Order_place) := by
  obtain ⟨fd, F⟩ := T.f_Order_place
  exact ⟨_, fd, [], fn_Order_place hB hl T F, T.c_Order, T.m_Order_place, .nil, F.bindsN fun _ _ _ _ _ _ us hl => match us, hl with | [_, _], _ => rfl⟩
theorem dm_Order_place (T : Tx w K mg) : DMt P w K mg base CX0 1 "Order" "place" ["self", "name"] [] (spP ⟨P, w, K, nE⟩ S_Order_place) := dm_Order_place_of hB_Order_place hl_Order_place T
theorem fn_Order_event (hB : ∀ ds Φ, S_Order_event ds Φ → B_Order_event ⟨startD n_Order_event ds, 0⟩ (retD Φ)) (hl : ∀ ds Φ, S_Order_event ds Φ → ds.length = 2) (T : Tx w K mg) {fd : FuncData} (F : FunD K "event" "Order.event" (defArgs s_Order_event) (defBody s_Order_event) (defScope s_Order_event) (d_Order_event.dvs K) [] (He.fAd K d_Order_event.at_) fd) : FnOk P w K mg base CX0 2 (He.fAd K d_Order_event.at_) fd ["self", "name"] (spP ⟨P, w, K, nE⟩ S_Order_event) := by
  have nd := sc_Order_event.nd
  let N := n_Order_event
  let sc := defScope s_Order_event
  refine F.ok sc_Order_event (fun vs H Q E h => lenP h hl) (fun cdv A outer s H vs Q E hr h => mk_body (body_ok (K := ⟨P, w, K, nE⟩) (g := B_Order_event) (ss_ret (se_bin os_ix (se_fld T.c_Order T.n_Order_events (se_name 0)) (se_meth (fun _ => .nil) (se_name 0) (sa_cons (se_name 1) sa_nil)))) hB h) (PSs.nox (pss_one (ps_ret (pe_ix ix_seq (pe_fld (pv 0) rfl) (DL.pe_dmt (dm_Order_place T) (Room.mono hr (by decide)) pass0 (pv 0) (pa_cons (pv 1) pa_nil)) (fun _ _ => rfl))))))
theorem dm_Order_event_of (hB : ∀ ds Φ, S_Order_event ds Φ → B_Order_event ⟨startD n_Order_event ds, 0⟩ (retD Φ)) (hl : ∀ ds Φ, S_Order_event ds Φ → ds.length = 2) (T : Tx w K mg) : DMt P w K mg base CX0 2 "Order" "event" ["self", "name"] [] (spP ⟨P, w, K, nE⟩ S_Order_event) := by
  obtain ⟨fd, F⟩ := T.f_Order_event
  exact ⟨_, fd, [], fn_Order_event hB hl T F, T.c_Order, T.m_Order_event, .nil, F.bindsN fun _ _ _ _ _ _ us hl => match us, hl with | [_, _], _ => rfl⟩
theorem dm_Order_event (T : Tx w K mg) : DMt P w K mg base CX0 2 "Order" "event" ["self", "name"] [] (spP ⟨P, w, K, nE⟩ S_Order_event) := dm_Order_event_of hB_Order_event hl_Order_event T
theorem fn_Order_key_of (hB : ∀ ds Φ, S_Order_key_of ds Φ → B_Order_key_of ⟨startD n_Order_key_of ds, 0⟩ (retD Φ)) (hl : ∀ ds Φ, S_Order_key_of ds Φ → ds.length = 3) (T : Tx w K mg) {fd : FuncData} (F : FunD K "key_of" "Order.key_of" (defArgs s_Order_key_of) (defBody s_Order_key_of) (defScope s_Order_key_of) (d_Order_key_of.dvs K) [] (He.fAd K d_Order_key_of.at_) fd) : FnOk P w K mg base CX0 3 (He.fAd K d_Order_key_of.at_) fd ["self", "name", "values"] (spP ⟨P, w, K, nE⟩ S_Order_key_of) := by
  have nd := sc_Order_key_of.nd
  let N := n_Order_key_of
  let sc := defScope s_Order_key_of
  refine F.ok sc_Order_key_of (fun vs H Q E h => lenP h hl) (fun cdv A outer s H vs Q E hr h => mk_body (body_ok (K := ⟨P, w, K, nE⟩) (g := B_Order_key_of) (ss_seq (ss_set (i := 3) (se_fld T.c_Event T.n_Event_needs (se_meth (fun _ => .nil) (se_name 0) (sa_cons (se_name 1) sa_nil))))
    (ss_seq (ss_if (sb_not (sb_val (se_cl cs_all (sa_cons (se_lc (vs := [4]) (si_seq (se_name 3)) (st_name 4) sb_yes (se_inC (se_name 4) (se_name 2)) (by decide)) sa_nil)))) (ss_ret se_non) ss_nil)
    (ss_ret (se_cl cs_tuple (sa_cons (se_lc (vs := [4]) (si_seq (se_name 3)) (st_name 4) sb_yes (se_ixC (se_name 2) (se_name 4)) (by decide)) sa_nil))))) hB h) (PSs.nox (pss_cons (ps_set (i := 3) nd rfl (Or.inl rfl) (pe_fld (DL.pe_dmt (dm_Order_event T) (Room.mono hr (by decide)) pass0 (pv 0) (pa_cons (pv 1) pa_nil)) rfl))
    (pss_cons (ps_if (pt_not (pt_val (pe_callB (cr_all rfl) rfl T.b_all (by decide +kernel) (pa_cons (pe_lc (own := [("need", 4)]) rfl nd (pi_seq (pv 3)) (blkOk_by (own := [("need", 4)]) (N := N) (sc := sc) (by decide +kernel)) (fun _ _ _ _ _ => (pg_name (i := 4) nd rfl (Or.inl rfl))) (fun _ _ _ _ _ => pts_nil) (fun _ _ _ _ _ => (pe_cmp (pc_din (DL.Room.u1 hr) (pv 4) (pv 2)) rfl))) pa_nil)))) (pss_one (ps_ret pe_non)) pss_nil)
    (pss_one (ps_ret (pe_callTy call_tuple_of rfl T.b_tuple (by decide +kernel) (pa_cons (pe_lc (own := [("need", 4)]) rfl nd (pi_seq (pv 3)) (blkOk_by (own := [("need", 4)]) (N := N) (sc := sc) (by decide +kernel)) (fun _ _ _ _ _ => (pg_name (i := 4) nd rfl (Or.inl rfl))) (fun _ _ _ _ _ => pts_nil) (fun _ _ _ _ _ => (pe_dget (DL.Room.u1 hr) (pv 2) (pv 4) (fun _ _ => rfl)))) pa_nil))))))))
theorem dm_Order_key_of_of (hB : ∀ ds Φ, S_Order_key_of ds Φ → B_Order_key_of ⟨startD n_Order_key_of ds, 0⟩ (retD Φ)) (hl : ∀ ds Φ, S_Order_key_of ds Φ → ds.length = 3) (T : Tx w K mg) : DMt P w K mg base CX0 3 "Order" "key_of" ["self", "name", "values"] [] (spP ⟨P, w, K, nE⟩ S_Order_key_of) := by
  obtain ⟨fd, F⟩ := T.f_Order_key_of
  exact ⟨_, fd, [], fn_Order_key_of hB hl T F, T.c_Order, T.m_Order_key_of, .nil, F.bindsN fun _ _ _ _ _ _ us hl => match us, hl with | [_, _, _], _ => rfl⟩
theorem dm_Order_key_of (T : Tx w K mg) : DMt P w K mg base CX0 3 "Order" "key_of" ["self", "name", "values"] [] (spP ⟨P, w, K, nE⟩ S_Order_key_of) := dm_Order_key_of_of hB_Order_key_of hl_Order_key_of T
theorem fn_entry_value (hB : ∀ ds Φ, S_entry_value ds Φ → B_entry_value ⟨startD n_entry_value ds, 0⟩ (retD Φ)) (hl : ∀ ds Φ, S_entry_value ds Φ → ds.length = 3) (T : Tx w K mg) {fd : FuncData} (F : FunD K "entry_value" "entry_value" (defArgs s_entry_value) (defBody s_entry_value) (defScope s_entry_value) (d_entry_value.dvs K) [] (He.fAd K d_entry_value.at_) fd) : FnOk P w K mg base CX0 1 (He.fAd K d_entry_value.at_) fd ["table", "name", "key"] (spP ⟨P, w, K, nE⟩ S_entry_value) := by
  have nd := sc_entry_value.nd
  let N := n_entry_value
  let sc := defScope s_entry_value
  refine F.ok sc_entry_value (fun vs H Q E h => lenP h hl) (fun cdv A outer s H vs Q E hr h => mk_body (body_ok (K := ⟨P, w, K, nE⟩) (g := B_entry_value) (ss_seq (ss_for (si_seq (se_name 0)) (st_name 3) (ss_if (sb_and (sb_test (se_bin os_eq (se_bin os_ix (se_name 3) se_int) (se_name 1))) (sb_test (se_bin os_eq (se_bin os_ix (se_name 3) se_int) (se_name 2)))) (ss_ret (se_bin os_ix (se_name 3) se_int)) ss_nil))
    (ss_ret se_non)) hB h) (PSs.nox (pss_cons (ps_for PassesOwn.never rfl (pi_seq (pv 0)) (pg_name (i := 3) nd rfl (Or.inl rfl)) (pss_one (ps_if (PW.pt (pw_and (pt_cmpR (op_eqD hr.units) (pe_ix ix_seq (pv 3) pe_int (fun _ _ => rfl)) (pv 1) (nomark _)) (pw_and1 (pt_cmpR (op_eqD hr.units) (pe_ix ix_seq (pv 3) pe_int (fun _ _ => rfl)) (pv 2) (nomark _))))) (pss_one (ps_ret (pe_ix ix_seq (pv 3) pe_int (fun _ _ => rfl)))) pss_nil)))
    (pss_one (ps_ret pe_non)))))
theorem dn_entry_value_oF (hB : ∀ ds Φ, S_entry_value ds Φ → B_entry_value ⟨startD n_entry_value ds, 0⟩ (retD Φ)) (hl : ∀ ds Φ, S_entry_value ds Φ → ds.length = 3) (T : Tx w K mg) : Dn P w K mg base CX0 1 "entry_value" ["table", "name", "key"] (spP ⟨P, w, K, nE⟩ S_entry_value) := by
  obtain ⟨fd, F⟩ := T.f_entry_value
  exact ⟨_, fd, fn_entry_value hB hl T F, T.g_entry_value, F.kp, F.bindsN fun _ _ _ _ _ _ us hl => match us, hl with | [_, _, _], _ => rfl⟩
theorem dn_entry_value (T : Tx w K mg) : Dn P w K mg base CX0 1 "entry_value" ["table", "name", "key"] (spP ⟨P, w, K, nE⟩ S_entry_value) := dn_entry_value_oF hB_entry_value hl_entry_value T
theorem fn_with_answer (hB : ∀ ds Φ, S_with_answer ds Φ → B_with_answer ⟨startD n_with_answer ds, 0⟩ (retD Φ)) (hl : ∀ ds Φ, S_with_answer ds Φ → ds.length = 4) (T : Tx w K mg) {fd : FuncData} (F : FunD K "with_answer" "with_answer" (defArgs s_with_answer) (defBody s_with_answer) (defScope s_with_answer) (d_with_answer.dvs K) [] (He.fAd K d_with_answer.at_) fd) : FnOk P w K mg base CX0 2 (He.fAd K d_with_answer.at_) fd ["table", "name", "key", "value"] (spP ⟨P, w, K, nE⟩ S_with_answer) := by
  have nd := sc_with_answer.nd
  let N := n_with_answer
  let sc := defScope s_with_answer
  refine F.ok sc_with_answer (fun vs H Q E h => lenP h hl) (fun cdv A outer s H vs Q E hr h => mk_body (body_ok (K := ⟨P, w, K, nE⟩) (g := B_with_answer) (ss_seq (ss_if (sb_val (se_notN (se_call (fun _ => .nil) (sa_cons (se_name 0) (sa_cons (se_name 1) (sa_cons (se_name 2) sa_nil)))))) (ss_ret (se_name 0)) ss_nil)
    (ss_ret (se_cl cs_tuple (sa_cons (se_sorted (sa_cons (se_lst (sa_star (se_name 0) (sa_cons (se_tup (sa_cons (se_name 1) (sa_cons (se_name 2) (sa_cons (se_name 3) sa_nil)))) sa_nil))) sa_nil)) sa_nil)))) hB h) (PSs.nox (pss_cons (ps_if (pt_cmp (pc_notN (pe_dn (dn_entry_value T) (Room.mono hr (by decide)) rfl pass0 (pa_cons (pv 0) (pa_cons (pv 1) (pa_cons (pv 2) pa_nil))))) rfl) (pss_one (ps_ret (pv 0))) pss_nil)
    (pss_one (ps_ret (pe_callTy call_tuple_of rfl T.b_tuple (by decide +kernel) (pa_cons (pe_callB (cr_sortedD hr.units) rfl T.b_sorted (by decide +kernel) (pa_cons (pe_lst (StX.pa_star (pv 0) (pa_cons (pe_tup (pa_cons (pv 1) (pa_cons (pv 2) (pa_cons (pv 3) pa_nil)))) pa_nil))) pa_nil)) pa_nil)))))))
theorem dn_with_answer_oF (hB : ∀ ds Φ, S_with_answer ds Φ → B_with_answer ⟨startD n_with_answer ds, 0⟩ (retD Φ)) (hl : ∀ ds Φ, S_with_answer ds Φ → ds.length = 4) (T : Tx w K mg) : Dn P w K mg base CX0 2 "with_answer" ["table", "name", "key", "value"] (spP ⟨P, w, K, nE⟩ S_with_answer) := by
  obtain ⟨fd, F⟩ := T.f_with_answer
  exact ⟨_, fd, fn_with_answer hB hl T F, T.g_with_answer, F.kp, F.bindsN fun _ _ _ _ _ _ us hl => match us, hl with | [_, _, _, _], _ => rfl⟩
theorem dn_with_answer (T : Tx w K mg) : Dn P w K mg base CX0 2 "with_answer" ["table", "name", "key", "value"] (spP ⟨P, w, K, nE⟩ S_with_answer) := dn_with_answer_oF hB_with_answer hl_with_answer T
theorem ok_iter (T : Tx w K mg) : IterC P w K mg base (He.ga K "Order") (He.ma K (He.ga K "Order") "__iter__") "events" := by
  obtain ⟨fd, F⟩ := T.f_Order_iter
  have b := FunD.bindsA (ps := ["self"]) F fun _ _ _ _ _ _ us hl => match us, hl with | [_], _ => rfl
  obtain ⟨oc, od, dV, kV, doc, pm, an, cdv, ct, osl, rfl, lk, hcd, hD, _⟩ := F.ex
  obtain ⟨i1, i2⟩ := Bool.and_eq_true_iff.mp T.it_Order
  refine ⟨T.c_Order, T.n_Order_events, of_decide_eq_true i1, i2, _, _, _, _, _, _, dV, kV, doc, pm, cdv, ct, oc, an, od, osl, rfl, lk, hcd, sc_Order_iter, fun s u => b s [u] rfl, fun A outer s H => ?_⟩
  exact PSs.nox (pss_one (ps_ret (pe_callB call_iterT rfl T.b_iter (by decide +kernel) (pa_cons (pe_fld (pv 0) rfl) pa_nil))))
theorem fn_play (hB : ∀ ds Φ, S_play ds Φ → B_play ⟨startD n_play ds, 0⟩ (retD Φ)) (hl : ∀ ds Φ, S_play ds Φ → ds.length = 2) (T : Tx w K mg) {fd : FuncData} (F : FunD K "play" "play" (defArgs s_play) (defBody s_play) (defScope s_play) (d_play.dvs K) [] (He.fAd K d_play.at_) fd) : FnOk P w K mg base CX0 4 (He.fAd K d_play.at_) fd ["order", "tables"] (spP ⟨P, w, K, nE⟩ S_play) := by
  have nd := sc_play.nd
  let N := n_play
  let sc := defScope s_play
  refine F.ok sc_play (fun vs H Q E h => lenP h hl) (fun cdv A outer s H vs Q E hr h => mk_body (body_ok (K := ⟨P, w, K, nE⟩) (g := B_play) (ss_seq (ss_dck (i := 2))
    (ss_seq (ss_own (i := 3) (se_lst sa_nil))
    (ss_seq (ss_for (si_own (se_name 0)) (st_name 4) (ss_seq (ss_set (i := 5) (se_methP (fun _ => .nil) (se_name 0) (sa_cons (se_fld T.c_Event T.n_Event_name (se_name 4)) (sa_cons (se_name 2) sa_nil))))
    (ss_seq (ss_if (sb_val (se_isN (se_name 5))) ss_cnt ss_nil)
    (ss_seq (ss_set (i := 6) (se_call (fun _ => .nil) (sa_cons (se_getC2 (se_name 1) (se_fld T.c_Event T.n_Event_end (se_name 4)) (se_tup sa_nil)) (sa_cons (se_fld T.c_Event T.n_Event_name (se_name 4)) (sa_cons (se_name 5) sa_nil)))))
    (ss_if (sb_val (se_notN (se_name 6))) (ss_seq (ss_putC (i := 2) (se_name 6) (se_fld T.c_Event T.n_Event_name (se_name 4)))
    (ss_app (i := 3) (se_tup (sa_cons (se_fld T.c_Event T.n_Event_name (se_name 4)) (sa_cons (se_name 5) (sa_cons (se_name 6) sa_nil)))))) ss_nil)))))
    (ss_ret (se_cl cs_tuple (sa_cons (se_name 3) sa_nil)))))) hB h) (PSs.nox (pss_cons (ps_set (i := 2) nd rfl (Or.inl rfl) pe_dnewK)
    (pss_cons (ps_set (i := 3) nd rfl (Or.inl rfl) (pe_lst pa_nil))
    (pss_cons (ps_for PassesOwn.never rfl (pi_own (pv 0) (ok_iter T) (Room.mono hr (by decide))) (pg_name (i := 4) nd rfl (Or.inl rfl)) (pss_cons (ps_set (i := 5) nd rfl (Or.inl rfl) (DL.pe_dmt (dm_Order_key_of T) (Room.mono hr (by decide)) pass0 (pv 0) (pa_cons (pe_fld (pv 4) rfl) (pa_cons (pv 2) pa_nil))))
    (pss_cons (ps_if (pt_cmp (pc_isN (pv 5)) rfl) (pss_one ps_continue) pss_nil)
    (pss_cons (ps_set (i := 6) nd rfl (Or.inl rfl) (pe_dn (dn_entry_value T) (Room.mono hr (by decide)) rfl pass0 (pa_cons (pe_dget2 (DL.Room.u1 hr) (pv 1) (pe_fld (pv 4) rfl) (pe_tup pa_nil) ⟨by rfl, by rfl, by rfl, by rfl⟩) (pa_cons (pe_fld (pv 4) rfl) (pa_cons (pv 5) pa_nil)))))
    (pss_one (ps_if (pt_cmp (pc_notN (pv 6)) rfl) (pss_cons (ps_dput (DL.Room.u1 hr) (pv 2) (pe_fld (pv 4) rfl) (pv 6) rfl)
    (pss_one (ps_expr (pe_bm PySem.F.plainAttrs_list PySem.F.slot_list_append PySem.F.type_list_append mt_append (pv 3) (pa_cons (pe_tup (pa_cons (pe_fld (pv 4) rfl) (pa_cons (pv 5) (pa_cons (pv 6) pa_nil)))) pa_nil))))) pss_nil))))))
    (pss_one (ps_ret (pe_callTy call_tuple_of rfl T.b_tuple (by decide +kernel) (pa_cons (pv 3) pa_nil)))))))))
theorem dn_play_oF (hB : ∀ ds Φ, S_play ds Φ → B_play ⟨startD n_play ds, 0⟩ (retD Φ)) (hl : ∀ ds Φ, S_play ds Φ → ds.length = 2) (T : Tx w K mg) : Dn P w K mg base CX0 4 "play" ["order", "tables"] (spP ⟨P, w, K, nE⟩ S_play) := by
  obtain ⟨fd, F⟩ := T.f_play
  exact ⟨_, fd, fn_play hB hl T F, T.g_play, F.kp, F.bindsN fun _ _ _ _ _ _ us hl => match us, hl with | [_, _], _ => rfl⟩
theorem dn_play (T : Tx w K mg) : Dn P w K mg base CX0 4 "play" ["order", "tables"] (spP ⟨P, w, K, nE⟩ S_play) := dn_play_oF hB_play hl_play T
theorem fn_law_answer (hB : ∀ ds Φ, S_law_answer ds Φ → B_law_answer ⟨startD n_law_answer ds, 0⟩ (retD Φ)) (hl : ∀ ds Φ, S_law_answer ds Φ → ds.length = 3) (T : Tx w K mg) {fd : FuncData} (F : FunD K "_law_answer" "_law_answer" (defArgs s_law_answer) (defBody s_law_answer) (defScope s_law_answer) (d_law_answer.dvs K) [] (He.fAd K d_law_answer.at_) fd) : FnOk P w K mg base CX0 1 (He.fAd K d_law_answer.at_) fd ["world", "name", "key"] (spP ⟨P, w, K, nE⟩ S_law_answer) := by
  have nd := sc_law_answer.nd
  let N := n_law_answer
  let sc := defScope s_law_answer
  refine F.ok sc_law_answer (fun vs H Q E h => lenP h hl) (fun cdv A outer s H vs Q E hr h => mk_body (body_ok (K := ⟨P, w, K, nE⟩) (g := B_law_answer) (ss_seq (ss_if (sb_test (se_inD (neg := false) (se_tup (sa_cons (se_name 1) (sa_cons (se_name 2) sa_nil))) (se_bin os_ix (se_name 0) se_int))) (ss_ret (se_ixD (se_bin os_ix (se_name 0) se_int) (se_tup (sa_cons (se_name 1) (sa_cons (se_name 2) sa_nil))))) ss_nil)
    (ss_ret (se_bin os_add (se_bin os_ix (se_name 0) se_int) (se_bin (os_Ic CMulW fun i j => i * j) (se_bin os_ix (se_name 0) se_int) (se_cl cs_sum (sa_cons (se_lc (vs := [3, 4]) (si_enum (sa_cons (se_name 2) sa_nil)) (st_tup (n := 2) (st_cons (st_name 3) (st_cons (st_name 4) st_nil))) sb_yes (se_bin (os_Ic CMulW fun i j => i * j) (se_bin os_add (se_name 3) se_int) (se_name 4)) (by decide)) sa_nil)))))) hB h) (PSs.nox (pss_cons (ps_if (pt_cmpR (op_inN hr.units) (pe_tup (pa_cons (pv 1) (pa_cons (pv 2) pa_nil))) (pe_ix ix_seq (pv 0) pe_int (fun _ _ => rfl)) rfl) (pss_one (ps_ret (pe_ix (ix_nd hr.units) (pe_ix ix_seq (pv 0) pe_int (fun _ _ => rfl)) (pe_tup (pa_cons (pv 1) (pa_cons (pv 2) pa_nil))) (fun _ _ => rfl)))) pss_nil)
    (pss_one (ps_ret (pe_op opAddA (pe_ix ix_seq (pv 0) pe_int (fun _ _ => rfl)) (pe_op op_mulW (pe_ix ix_seq (pv 0) pe_int (fun _ _ => rfl)) (pe_callB (cr_sum rfl) rfl T.b_sum (by decide +kernel) (pa_cons (pe_lc (own := [("place", 3), ("number", 4)]) rfl nd (pi_enumA rfl T.b_enumerate (pa_cons (pv 2) pa_nil)) (blkOk_by (own := [("place", 3), ("number", 4)]) (N := N) (sc := sc) (by decide +kernel)) (fun _ _ _ _ _ => (pg_tup rfl (pgs_cons (pg_name (i := 3) nd rfl (Or.inl rfl)) (pgs_cons (pg_name (i := 4) nd rfl (Or.inl rfl)) pgs_nil)))) (fun _ _ _ _ _ => pts_nil) (fun _ _ _ _ _ => (pe_op op_mulW (pe_op opAddA (pv 3) pe_int) (pv 4)))) pa_nil)))))))))
theorem dn_law_answer_oF (hB : ∀ ds Φ, S_law_answer ds Φ → B_law_answer ⟨startD n_law_answer ds, 0⟩ (retD Φ)) (hl : ∀ ds Φ, S_law_answer ds Φ → ds.length = 3) (T : Tx w K mg) : Dn P w K mg base CX0 1 "_law_answer" ["world", "name", "key"] (spP ⟨P, w, K, nE⟩ S_law_answer) := by
  obtain ⟨fd, F⟩ := T.f_law_answer
  exact ⟨_, fd, fn_law_answer hB hl T F, T.g_law_answer, F.kp, F.bindsN fun _ _ _ _ _ _ us hl => match us, hl with | [_, _, _], _ => rfl⟩
theorem dn_law_answer (T : Tx w K mg) : Dn P w K mg base CX0 1 "_law_answer" ["world", "name", "key"] (spP ⟨P, w, K, nE⟩ S_law_answer) := dn_law_answer_oF hB_law_answer hl_law_answer T
theorem fn_law_true (hB : ∀ ds Φ, S_law_true ds Φ → B_law_true ⟨startD n_law_true ds, 0⟩ (retD Φ)) (hl : ∀ ds Φ, S_law_true ds Φ → ds.length = 2) (T : Tx w K mg) {fd : FuncData} (F : FunD K "_law_true" "_law_true" (defArgs s_law_true) (defBody s_law_true) (defScope s_law_true) (d_law_true.dvs K) [] (He.fAd K d_law_true.at_) fd) : FnOk P w K mg base CX0 2 (He.fAd K d_law_true.at_) fd ["events", "world"] (spP ⟨P, w, K, nE⟩ S_law_true) := by
  have nd := sc_law_true.nd
  let N := n_law_true
  let sc := defScope s_law_true
  refine F.ok sc_law_true (fun vs H Q E h => lenP h hl) (fun cdv A outer s H vs Q E hr h => mk_body (body_ok (K := ⟨P, w, K, nE⟩) (g := B_law_true) (ss_seq (ss_dck (i := 2))
    (ss_seq (ss_for (si_seq (se_name 0)) (st_tup (n := 4) (st_cons (st_name 3) (st_cons (st_name 4) (st_cons (st_name 5) (st_cons (st_name 6) st_nil))))) (ss_seq (ss_set (i := 7) (se_cl cs_tuple (sa_cons (se_lc (vs := [8]) (si_seq (se_name 6)) (st_name 8) sb_yes (se_bin os_ix (se_ixC (se_name 2) (se_name 8)) se_int) (by decide)) sa_nil)))
    (ss_putC (i := 2) (se_tup (sa_cons (se_name 7) (sa_cons (se_call (fun _ => .nil) (sa_cons (se_name 1) (sa_cons (se_name 3) (sa_cons (se_name 7) sa_nil)))) sa_nil))) (se_name 3))))
    (ss_ret (se_name 2)))) hB h) (PSs.nox (pss_cons (ps_set (i := 2) nd rfl (Or.inr rfl) pe_dnewK)
    (pss_cons (ps_for PassesOwn.never rfl (pi_seq (pv 0)) (pg_tup rfl (pgs_cons (pg_name (i := 3) nd rfl (Or.inl rfl)) (pgs_cons (pg_name (i := 4) nd rfl (Or.inl rfl)) (pgs_cons (pg_name (i := 5) nd rfl (Or.inl rfl)) (pgs_cons (pg_name (i := 6) nd rfl (Or.inl rfl)) pgs_nil))))) (pss_cons (ps_set (i := 7) nd rfl (Or.inl rfl) (pe_callTy call_tuple_of rfl T.b_tuple (by decide +kernel) (pa_cons (pe_lc (own := [("need", 8)]) rfl nd (pi_seq (pv 6)) (blkOk_by (own := [("need", 8)]) (N := N) (sc := sc) (by decide +kernel)) (fun _ _ _ _ _ => (pg_name (i := 8) nd rfl (Or.inl rfl))) (fun _ _ _ _ _ => pts_nil) (fun _ _ _ _ _ => (pe_ix ix_seq (pe_dget (DL.Room.u1 hr) (pv 2) (pv 8) (fun _ _ => rfl)) pe_int (fun _ _ => rfl)))) pa_nil)))
    (pss_one (ps_dput (DL.Room.u1 hr) (pv 2) (pv 3) (pe_tup (pa_cons (pv 7) (pa_cons (pe_dn (dn_law_answer T) (Room.mono hr (by decide)) rfl pass0 (pa_cons (pv 1) (pa_cons (pv 3) (pa_cons (pv 7) pa_nil)))) pa_nil))) rfl))))
    (pss_one (ps_ret (pv 2)))))))
theorem dn_law_true_oF (hB : ∀ ds Φ, S_law_true ds Φ → B_law_true ⟨startD n_law_true ds, 0⟩ (retD Φ)) (hl : ∀ ds Φ, S_law_true ds Φ → ds.length = 2) (T : Tx w K mg) : Dn P w K mg base CX0 2 "_law_true" ["events", "world"] (spP ⟨P, w, K, nE⟩ S_law_true) := by
  obtain ⟨fd, F⟩ := T.f_law_true
  exact ⟨_, fd, fn_law_true hB hl T F, T.g_law_true, F.kp, F.bindsN fun _ _ _ _ _ _ us hl => match us, hl with | [_, _], _ => rfl⟩
theorem dn_law_true (T : Tx w K mg) : Dn P w K mg base CX0 2 "_law_true" ["events", "world"] (spP ⟨P, w, K, nE⟩ S_law_true) := dn_law_true_oF hB_law_true hl_law_true T
theorem fn_law_order (hB : ∀ ds n Φ, S_law_order ds n Φ → B_law_order ⟨startB n_law_order ds, n⟩ (retB Φ)) (hl : ∀ ds n Φ, S_law_order ds n Φ → ds.length = 3) (T : Tx w K mg) {fd : FuncData} (F : FunD K "_law_order" "_law_order" (defArgs s_law_order) (defBody s_law_order) (defScope s_law_order) (d_law_order.dvs K) [] (He.fAd K d_law_order.at_) fd) : FnOk P w K mg base CX0 2 (He.fAd K d_law_order.at_) fd ["bag", "ends", "least", "most"] (spB ⟨P, w, K, nE⟩ S_law_order) := by
  have nd := sc_law_order.nd
  let N := n_law_order
  let sc := defScope s_law_order
  refine F.ok sc_law_order (fun vs H Q E h => lenB h hl) (fun cdv A outer s H vs Q E hr h => mk_body (body_okB (K := ⟨P, w, K, nE⟩) (g := B_law_order) (ss_seq (ss_set (i := 4) (se_lst (sa_cons se_str (sa_cons se_str (sa_cons se_str (sa_cons se_str (sa_cons se_str (sa_cons se_str (sa_cons se_str (sa_cons se_str sa_nil))))))))))
    (ss_seq (ss_own (i := 5) (se_lst sa_nil))
    (ss_seq (ss_for (si_range1 (sa_cons (se_bin os_add (se_name 2) (se_callB (i := 0) (sa_cons (se_bin os_add (se_bin (os_I fun i j => i - j) (se_name 3) (se_name 2)) se_int) sa_nil))) sa_nil)) (st_name 6) (ss_seq (ss_own (i := 7) (se_lst sa_nil))
    (ss_seq (ss_if (sb_and (sb_test (se_bin (os_B fun i j => decide (j < i)) (se_name 6) se_int)) (sb_test (se_bin (os_B fun i j => decide (j < i)) (se_callB (i := 0) (sa_cons se_int sa_nil)) se_int))) (ss_app (i := 7) (se_bin os_ix (se_name 4) (se_bin (os_I fun i j => i - j) (se_bin (os_I fun i j => i - j) (se_name 6) se_int) (se_if (sb_test (se_bin os_eq (se_callB (i := 0) (sa_cons se_int sa_nil)) se_int)) (se_callB (i := 0) (sa_cons (se_name 6) sa_nil)) se_int)))) ss_nil)
    (ss_seq (ss_if (sb_and (sb_test (se_bin (os_B fun i j => decide (j < i)) (se_name 6) se_int)) (sb_test (se_bin os_eq (se_callB (i := 0) (sa_cons se_int sa_nil)) se_int))) (ss_seq (ss_set (i := 8) (se_bin os_ix (se_name 4) (se_callB (i := 0) (sa_cons (se_name 6) sa_nil))))
    (ss_if (sb_test (se_bin os_notIn (se_name 8) (se_name 7))) (ss_app (i := 7) (se_name 8)) ss_nil)) ss_nil)
    (ss_seq (ss_set (i := 9) (se_bin os_ix (se_lst (sa_cons se_str (sa_cons se_str sa_nil))) (se_callB (i := 0) (sa_cons se_int sa_nil))))
    (ss_app (i := 5) (se_tup (sa_cons (se_bin os_ix (se_name 4) (se_name 6)) (sa_cons (se_bin os_add se_int (se_callB (i := 0) (sa_cons (se_name 1) sa_nil))) (sa_cons (se_name 9) (sa_cons (se_cl cs_tupZ (sa_cons (se_name 7) sa_nil)) sa_nil)))))))))))
    (ss_ret (se_name 5))))) hB h) (PSs.nox (pss_cons (ps_set (i := 4) nd rfl (Or.inl rfl) (pe_lst (pa_cons pe_str (pa_cons pe_str (pa_cons pe_str (pa_cons pe_str (pa_cons pe_str (pa_cons pe_str (pa_cons pe_str (pa_cons pe_str pa_nil))))))))))
    (pss_cons (ps_set (i := 5) nd rfl (Or.inl rfl) (pe_lst pa_nil))
    (pss_cons (ps_for PassesOwn.never rfl (pi_range1 rfl T.b_range (pa_cons (pe_op opAddA (pv 2) (pe_dn (dn_draw T) (Room.mono hr (by decide)) rfl pass0 (pa_cons (pv 0) (pa_cons (pe_op opAddA (pe_op op_sub (pv 3) (pv 2)) pe_int) pa_nil)))) pa_nil)) (pg_name (i := 6) nd rfl (Or.inl rfl)) (pss_cons (ps_set (i := 7) nd rfl (Or.inl rfl) (pe_lst pa_nil))
    (pss_cons (ps_if (PW.pt (pw_and (pt_cmpR op_gt (pv 6) pe_int (nomark _)) (pw_and1 (pt_cmpR op_gt (pe_dn (dn_draw T) (Room.mono hr (by decide)) rfl pass0 (pa_cons (pv 0) (pa_cons pe_int pa_nil))) pe_int (nomark _))))) (pss_one (ps_expr (pe_bm PySem.F.plainAttrs_list PySem.F.slot_list_append PySem.F.type_list_append mt_append (pv 7) (pa_cons (pe_ix ix_seq (pv 4) (pe_op op_sub (pe_op op_sub (pv 6) pe_int) (pe_ifExp (pt_cmpR (op_eqD hr.units) (pe_dn (dn_draw T) (Room.mono hr (by decide)) rfl pass0 (pa_cons (pv 0) (pa_cons pe_int pa_nil))) pe_int (nomark _)) (pe_dn (dn_draw T) (Room.mono hr (by decide)) rfl pass0 (pa_cons (pv 0) (pa_cons (pv 6) pa_nil))) pe_int)) (fun _ _ => rfl)) pa_nil)))) pss_nil)
    (pss_cons (ps_if (PW.pt (pw_and (pt_cmpR op_gt (pv 6) pe_int (nomark _)) (pw_and1 (pt_cmpR (op_eqD hr.units) (pe_dn (dn_draw T) (Room.mono hr (by decide)) rfl pass0 (pa_cons (pv 0) (pa_cons pe_int pa_nil))) pe_int (nomark _))))) (pss_cons (ps_set (i := 8) nd rfl (Or.inl rfl) (pe_ix ix_seq (pv 4) (pe_dn (dn_draw T) (Room.mono hr (by decide)) rfl pass0 (pa_cons (pv 0) (pa_cons (pv 6) pa_nil))) (fun _ _ => rfl)))
    (pss_one (ps_if (pt_cmpR (op_notInD (Room.u65 hr)) (pv 8) (pv 7) rfl) (pss_one (ps_expr (pe_bm PySem.F.plainAttrs_list PySem.F.slot_list_append PySem.F.type_list_append mt_append (pv 7) (pa_cons (pv 8) pa_nil)))) pss_nil))) pss_nil)
    (pss_cons (ps_set (i := 9) nd rfl (Or.inl rfl) (pe_ix ix_seq (pe_lst (pa_cons pe_str (pa_cons pe_str pa_nil))) (pe_dn (dn_draw T) (Room.mono hr (by decide)) rfl pass0 (pa_cons (pv 0) (pa_cons pe_int pa_nil))) (fun _ _ => rfl)))
    (pss_one (ps_expr (pe_bm PySem.F.plainAttrs_list PySem.F.slot_list_append PySem.F.type_list_append mt_append (pv 5) (pa_cons (pe_tup (pa_cons (pe_ix ix_seq (pv 4) (pv 6) (fun _ _ => rfl)) (pa_cons (pe_op opAddA pe_int (pe_dn (dn_draw T) (Room.mono hr (by decide)) rfl pass0 (pa_cons (pv 0) (pa_cons (pv 1) pa_nil)))) (pa_cons (pv 9) (pa_cons (pe_callTy call_tupZ rfl T.b_tuple (by decide +kernel) (pa_cons (pv 7) pa_nil)) pa_nil))))) pa_nil)))))))))
    (pss_one (ps_ret (pv 5))))))))
theorem dn_law_order_oF (hB : ∀ ds n Φ, S_law_order ds n Φ → B_law_order ⟨startB n_law_order ds, n⟩ (retB Φ)) (hl : ∀ ds n Φ, S_law_order ds n Φ → ds.length = 3) (T : Tx w K mg) : Dn P w K mg base CX0 2 "_law_order" ["bag", "ends", "least", "most"] (spB ⟨P, w, K, nE⟩ S_law_order) := by
  obtain ⟨fd, F⟩ := T.f_law_order
  exact ⟨_, fd, fn_law_order hB hl T F, T.g_law_order, F.kp, F.bindsN fun _ _ _ _ _ _ us hl => match us, hl with | [_, _, _, _], _ => rfl⟩
theorem dn_law_order (T : Tx w K mg) : Dn P w K mg base CX0 2 "_law_order" ["bag", "ends", "least", "most"] (spB ⟨P, w, K, nE⟩ S_law_order) := dn_law_order_oF hB_law_order hl_law_order T
theorem fn_law_wide_order (hB : ∀ ds n Φ, S_law_wide_order ds n Φ → B_law_wide_order ⟨startB n_law_wide_order ds, n⟩ (retB Φ)) (hl : ∀ ds n Φ, S_law_wide_order ds n Φ → ds.length = 3) (T : Tx w K mg) {fd : FuncData} (F : FunD K "_law_wide_order" "_law_wide_order" (defArgs s_law_wide_order) (defBody s_law_wide_order) (defScope s_law_wide_order) (d_law_wide_order.dvs K) [] (He.fAd K d_law_wide_order.at_) fd) : FnOk P w K mg base CX0 3 (He.fAd K d_law_wide_order.at_) fd ["bag", "ends", "least", "most"] (spB ⟨P, w, K, nE⟩ S_law_wide_order) := by
  have nd := sc_law_wide_order.nd
  let N := n_law_wide_order
  let sc := defScope s_law_wide_order
  refine F.ok sc_law_wide_order (fun vs H Q E h => lenB h hl) (fun cdv A outer s H vs Q E hr h => mk_body (body_okB (K := ⟨P, w, K, nE⟩) (g := B_law_wide_order) (ss_seq (ss_own (i := 4) (se_lst sa_nil))
    (ss_seq (ss_for (si_seq (se_callB (i := 0) (sa_cons (se_name 1) (sa_cons (se_name 2) (sa_cons (se_name 3) sa_nil))))) (st_tup (n := 4) (st_cons (st_name 5) (st_cons (st_name 6) (st_cons (st_name 7) (st_cons (st_name 8) st_nil))))) (ss_seq (ss_own (i := 9) (se_loanF (i := 4) (se_lc (vs := [12]) (si_seq (se_name 4)) (st_name 12) (sb_test (se_bin os_notInZ (se_bin os_ix (se_name 12) se_int) (se_name 8))) (se_bin os_ix (se_name 12) se_int) (by decide))))
    (ss_seq (ss_if (sb_and (sb_test (se_bin (os_B fun i j => decide (j < i)) (se_cl cs_len (sa_cons (se_name 4) sa_nil)) se_int)) (sb_test (se_bin os_eq (se_callB (i := 0) (sa_cons se_int sa_nil)) se_int))) (ss_seq (ss_own (i := 10) (se_cl cs_list (sa_cons (se_name 8) sa_nil)))
    (ss_seq (ss_for (si_range1 (sa_cons (se_bin (os_I fun i j => i - j) se_int (se_cl cs_len (sa_cons (se_name 8) sa_nil))) sa_nil)) (st_name 11) (ss_app (i := 10) (se_pop (i := 9) (se_callB (i := 0) (sa_cons (se_cl cs_len (sa_cons (se_name 9) sa_nil)) sa_nil)))))
    (ss_set (i := 8) (se_cl cs_tupZ (sa_cons (se_name 10) sa_nil))))) ss_nil)
    (ss_app (i := 4) (se_tup (sa_cons (se_name 5) (sa_cons (se_name 6) (sa_cons (se_name 7) (sa_cons (se_name 8) sa_nil)))))))))
    (ss_ret (se_name 4)))) hB h) (PSs.nox (pss_cons (ps_set (i := 4) nd rfl (Or.inl rfl) (pe_lst pa_nil))
    (pss_cons (ps_for PassesOwn.never rfl (pi_seq (pe_dn (dn_law_order T) (Room.mono hr (by decide)) rfl pass0 (pa_cons (pv 0) (pa_cons (pv 1) (pa_cons (pv 2) (pa_cons (pv 3) pa_nil)))))) (pg_tup rfl (pgs_cons (pg_name (i := 5) nd rfl (Or.inl rfl)) (pgs_cons (pg_name (i := 6) nd rfl (Or.inl rfl)) (pgs_cons (pg_name (i := 7) nd rfl (Or.inl rfl)) (pgs_cons (pg_name (i := 8) nd rfl (Or.inr rfl)) pgs_nil))))) (pss_cons (ps_setLc (i := 9) (own := [("event", 12)]) rfl nd rfl rfl (sw_true rfl rfl rfl (by decide +kernel)) (pi_seq (pv 4)) (blkOk_by (own := [("event", 12)]) (N := N) (sc := sc) (by decide +kernel)) (fun _ _ _ _ _ => (pg_name (i := 12) nd rfl (Or.inl rfl))) (fun _ _ _ _ _ => (pts_one (pt_cmpR (DL.op_notInT (Room.u65 hr)) (pe_ix ix_seq (pv 12) pe_int (fun _ _ => rfl)) (pv 8) rfl))) (fun _ _ _ _ _ => (pe_ix ix_seq (pv 12) pe_int (fun _ _ => rfl))))
    (pss_cons (ps_if (PW.pt (pw_and (pt_cmpR op_gt (pe_callB call_len rfl T.b_len (by decide +kernel) (pa_cons (pv 4) pa_nil)) pe_int (nomark _)) (pw_and1 (pt_cmpR (op_eqD hr.units) (pe_dn (dn_draw T) (Room.mono hr (by decide)) rfl pass0 (pa_cons (pv 0) (pa_cons pe_int pa_nil))) pe_int (nomark _))))) (pss_cons (ps_set (i := 10) nd rfl (Or.inl rfl) (pe_callTy call_list_of rfl T.b_list (by decide +kernel) (pa_cons (pv 8) pa_nil)))
    (pss_cons (ps_for PassesOwn.never rfl (pi_range1 rfl T.b_range (pa_cons (pe_op op_sub pe_int (pe_callB call_len rfl T.b_len (by decide +kernel) (pa_cons (pv 8) pa_nil))) pa_nil)) (pg_name (i := 11) nd rfl (Or.inl rfl)) (pss_one (ps_expr (pe_bm PySem.F.plainAttrs_list PySem.F.slot_list_append PySem.F.type_list_append mt_append (pv 10) (pa_cons (pe_bm PySem.F.plainAttrs_list PySem.F.slot_list_pop PySem.F.type_list_pop DL.mt_popI (pv 9) (pa_cons (pe_dn (dn_draw T) (Room.mono hr (by decide)) rfl pass0 (pa_cons (pv 0) (pa_cons (pe_callB call_len rfl T.b_len (by decide +kernel) (pa_cons (pv 9) pa_nil)) pa_nil))) pa_nil)) pa_nil)))))
    (pss_one (ps_set (i := 8) nd rfl (Or.inr rfl) (pe_callTy call_tupZ rfl T.b_tuple (by decide +kernel) (pa_cons (pv 10) pa_nil)))))) pss_nil)
    (pss_one (ps_expr (pe_bm PySem.F.plainAttrs_list PySem.F.slot_list_append PySem.F.type_list_append mt_append (pv 4) (pa_cons (pe_tup (pa_cons (pv 5) (pa_cons (pv 6) (pa_cons (pv 7) (pa_cons (pv 8) pa_nil))))) pa_nil)))))))
    (pss_one (ps_ret (pv 4)))))))
theorem dn_law_wide_order_oF (hB : ∀ ds n Φ, S_law_wide_order ds n Φ → B_law_wide_order ⟨startB n_law_wide_order ds, n⟩ (retB Φ)) (hl : ∀ ds n Φ, S_law_wide_order ds n Φ → ds.length = 3) (T : Tx w K mg) : Dn P w K mg base CX0 3 "_law_wide_order" ["bag", "ends", "least", "most"] (spB ⟨P, w, K, nE⟩ S_law_wide_order) := by
  obtain ⟨fd, F⟩ := T.f_law_wide_order
  exact ⟨_, fd, fn_law_wide_order hB hl T F, T.g_law_wide_order, F.kp, F.bindsN fun _ _ _ _ _ _ us hl => match us, hl with | [_, _, _, _], _ => rfl⟩
theorem dn_law_wide_order (T : Tx w K mg) : Dn P w K mg base CX0 3 "_law_wide_order" ["bag", "ends", "least", "most"] (spB ⟨P, w, K, nE⟩ S_law_wide_order) := dn_law_wide_order_oF hB_law_wide_order hl_law_wide_order T
theorem fn_law_made_world (hB : ∀ ds n Φ, S_law_made_world ds n Φ → B_law_made_world ⟨startB n_law_made_world ds, n⟩ (retB Φ)) (hl : ∀ ds n Φ, S_law_made_world ds n Φ → ds.length = 1) (T : Tx w K mg) {fd : FuncData} (F : FunD K "_law_made_world" "_law_made_world" (defArgs s_law_made_world) (defBody s_law_made_world) (defScope s_law_made_world) (d_law_made_world.dvs K) [] (He.fAd K d_law_made_world.at_) fd) : FnOk P w K mg base CX0 3 (He.fAd K d_law_made_world.at_) fd ["bag", "events"] (spB ⟨P, w, K, nE⟩ S_law_made_world) := by
  have nd := sc_law_made_world.nd
  let N := n_law_made_world
  let sc := defScope s_law_made_world
  refine F.ok sc_law_made_world (fun vs H Q E h => lenB h hl) (fun cdv A outer s H vs Q E hr h => mk_body (body_okB (K := ⟨P, w, K, nE⟩) (g := B_law_made_world) (ss_seq (ss_set (i := 2) (se_bin os_ix (se_lst (sa_cons se_int (sa_cons se_int (sa_cons se_int (sa_cons (se_bin (os_Ic CPow fun i j => i ^ j.toNat) se_int se_int) sa_nil))))) (se_callB (i := 0) (sa_cons se_int sa_nil))))
    (ss_madeW (se_bin os_ix (se_lst (sa_cons se_int (sa_cons se_int (sa_cons se_int (sa_cons (se_bin (os_I fun i j => i - j) se_int se_int) sa_nil))))) (se_callB (i := 0) (sa_cons se_int sa_nil))) (sb_test (se_bin os_eq (se_callB (i := 0) (sa_cons se_int sa_nil)) se_int)) (se_bin os_ix (se_ixC (se_call (fun _ => .nil) (sa_cons (se_name 1) (sa_cons (se_name 3) sa_nil))) (se_bin os_ix (se_name 4) se_int)) se_int) (se_callB (i := 0) (sa_cons se_int sa_nil)) (se_tup (sa_cons (se_bin os_ix (se_name 4) se_int) (sa_cons (se_name 5) sa_nil))))) hB h) (PSs.nox (pss_cons (ps_set (i := 2) nd rfl (Or.inl rfl) (pe_ix ix_seq (pe_lst (pa_cons pe_int (pa_cons pe_int (pa_cons pe_int (pa_cons (pe_op op_pow pe_int pe_int) pa_nil))))) (pe_dn (dn_draw T) (Room.mono hr (by decide)) rfl pass0 (pa_cons (pv 0) (pa_cons pe_int pa_nil))) (fun _ _ => rfl)))
    (pss_cons (ps_set (i := 3) nd rfl (Or.inl rfl) (pe_tup (pa_cons pe_dnewN (pa_cons (pv 2) (pa_cons (pe_ix ix_seq (pe_lst (pa_cons pe_int (pa_cons pe_int (pa_cons pe_int (pa_cons (pe_op op_sub pe_int pe_int) pa_nil))))) (pe_dn (dn_draw T) (Room.mono hr (by decide)) rfl pass0 (pa_cons (pv 0) (pa_cons pe_int pa_nil))) (fun _ _ => rfl)) pa_nil)))))
    (pss_cons (ps_for PassesOwn.never rfl (pi_seq (pv 1)) (pg_name (i := 4) nd rfl (Or.inl rfl)) (pss_one (ps_if (pt_cmpR (op_eqD hr.units) (pe_dn (dn_draw T) (Room.mono hr (by decide)) rfl pass0 (pa_cons (pv 0) (pa_cons pe_int pa_nil))) pe_int (nomark _)) (pss_cons (ps_set (i := 5) nd rfl (Or.inl rfl) (pe_ix ix_seq (pe_dget (DL.Room.u1 hr) (pe_dn (dn_law_true T) (Room.mono hr (by decide)) rfl pass0 (pa_cons (pv 1) (pa_cons (pv 3) pa_nil))) (pe_ix ix_seq (pv 4) pe_int (fun _ _ => rfl)) (fun _ _ => rfl)) pe_int (fun _ _ => rfl)))
    (pss_one (ps_asg (pe_dn (dn_draw T) (Room.mono hr (by decide)) rfl pass0 (pa_cons (pv 0) (pa_cons pe_int pa_nil))) (pg_sub (pe_ix ix_seq (pv 3) pe_int (fun _ _ => rfl)) (pe_tup (pa_cons (pe_ix ix_seq (pv 4) pe_int (fun _ _ => rfl)) (pa_cons (pv 5) pa_nil))) (set_nd hr.units))))) pss_nil)))
    (pss_one (ps_ret (pv 3))))))))
theorem dn_law_made_world_oF (hB : ∀ ds n Φ, S_law_made_world ds n Φ → B_law_made_world ⟨startB n_law_made_world ds, n⟩ (retB Φ)) (hl : ∀ ds n Φ, S_law_made_world ds n Φ → ds.length = 1) (T : Tx w K mg) : Dn P w K mg base CX0 3 "_law_made_world" ["bag", "events"] (spB ⟨P, w, K, nE⟩ S_law_made_world) := by
  obtain ⟨fd, F⟩ := T.f_law_made_world
  exact ⟨_, fd, fn_law_made_world hB hl T F, T.g_law_made_world, F.kp, F.bindsN fun _ _ _ _ _ _ us hl => match us, hl with | [_, _], _ => rfl⟩
theorem dn_law_made_world (T : Tx w K mg) : Dn P w K mg base CX0 3 "_law_made_world" ["bag", "events"] (spB ⟨P, w, K, nE⟩ S_law_made_world) := dn_law_made_world_oF hB_law_made_world hl_law_made_world T
theorem fn_law_order_of (hB : ∀ ds Φ, S_law_order_of ds Φ → B_law_order_of ⟨startD n_law_order_of ds, 0⟩ (retD Φ)) (hl : ∀ ds Φ, S_law_order_of ds Φ → ds.length = 1) (T : Tx w K mg) {fd : FuncData} (F : FunD K "_law_order_of" "_law_order_of" (defArgs s_law_order_of) (defBody s_law_order_of) (defScope s_law_order_of) (d_law_order_of.dvs K) [] (He.fAd K d_law_order_of.at_) fd) : FnOk P w K mg base CX0 6 (He.fAd K d_law_order_of.at_) fd ["events"] (spP ⟨P, w, K, nE⟩ S_law_order_of) := by
  have nd := sc_law_order_of.nd
  let N := n_law_order_of
  let sc := defScope s_law_order_of
  refine F.ok sc_law_order_of (fun vs H Q E h => lenP h hl) (fun cdv A outer s H vs Q E hr h => mk_body (body_ok (K := ⟨P, w, K, nE⟩) (g := B_law_order_of) (ss_ret (se_make (fun _ => .nil) (sa_cons (se_lc (vs := [1, 2, 3, 4]) (si_seq (se_name 0)) (st_tup (n := 4) (st_cons (st_name 1) (st_cons (st_name 2) (st_cons (st_name 3) (st_cons (st_name 4) st_nil))))) sb_yes (se_make (fun _ => .nil) (sa_cons (se_name 1) (sa_cons (se_name 2) (sa_cons (se_name 3) (sa_cons (se_name 4) sa_nil))))) (by decide)) sa_nil))) hB h) (PSs.nox (pss_one (ps_ret (DL.pe_dcD (dc_Order T) (Room.mono hr (by decide)) rfl pass0 (pa_cons (pe_lc (own := [("name", 1), ("end", 2), ("kind", 3), ("needs", 4)]) rfl nd (pi_seq (pv 0)) (blkOk_by (own := [("name", 1), ("end", 2), ("kind", 3), ("needs", 4)]) (N := N) (sc := sc) (by decide +kernel)) (fun _ _ _ _ _ => (pg_tup rfl (pgs_cons (pg_name (i := 1) nd rfl (Or.inl rfl)) (pgs_cons (pg_name (i := 2) nd rfl (Or.inl rfl)) (pgs_cons (pg_name (i := 3) nd rfl (Or.inl rfl)) (pgs_cons (pg_name (i := 4) nd rfl (Or.inl rfl)) pgs_nil)))))) (fun _ _ _ _ _ => pts_nil) (fun _ _ _ _ _ => (DL.pe_dcD (dc_Event T) (Room.mono hr (by decide)) rfl pass0 (pa_cons (pv 1) (pa_cons (pv 2) (pa_cons (pv 3) (pa_cons (pv 4) pa_nil))))))) pa_nil))))))
theorem dn_law_order_of_oF (hB : ∀ ds Φ, S_law_order_of ds Φ → B_law_order_of ⟨startD n_law_order_of ds, 0⟩ (retD Φ)) (hl : ∀ ds Φ, S_law_order_of ds Φ → ds.length = 1) (T : Tx w K mg) : Dn P w K mg base CX0 6 "_law_order_of" ["events"] (spP ⟨P, w, K, nE⟩ S_law_order_of) := by
  obtain ⟨fd, F⟩ := T.f_law_order_of
  exact ⟨_, fd, fn_law_order_of hB hl T F, T.g_law_order_of, F.kp, F.bindsN fun _ _ _ _ _ _ us hl => match us, hl with | [_], _ => rfl⟩
theorem dn_law_order_of (T : Tx w K mg) : Dn P w K mg base CX0 6 "_law_order_of" ["events"] (spP ⟨P, w, K, nE⟩ S_law_order_of) := dn_law_order_of_oF hB_law_order_of hl_law_order_of T
theorem fn_law_is_whole (hB : ∀ ds Φ, S_law_is_whole ds Φ → B_law_is_whole ⟨startD n_law_is_whole ds, 0⟩ (retD Φ)) (hl : ∀ ds Φ, S_law_is_whole ds Φ → ds.length = 1) (T : Tx w K mg) {fd : FuncData} (F : FunD K "_law_is_whole" "_law_is_whole" (defArgs s_law_is_whole) (defBody s_law_is_whole) (defScope s_law_is_whole) (d_law_is_whole.dvs K) [] (He.fAd K d_law_is_whole.at_) fd) : FnOk P w K mg base CX0 1 (He.fAd K d_law_is_whole.at_) fd ["thing"] (spP ⟨P, w, K, nE⟩ S_law_is_whole) := by
  have nd := sc_law_is_whole.nd
  let N := n_law_is_whole
  let sc := defScope s_law_is_whole
  refine F.ok sc_law_is_whole (fun vs H Q E h => lenP h hl) (fun cdv A outer s H vs Q E hr h => mk_body (body_ok (K := ⟨P, w, K, nE⟩) (g := B_law_is_whole) (ss_ret (se_and (se_isi (n := "int") (se_name 0)) (se_not (se_isi (n := "bool") (se_name 0))))) hB h) (PSs.nox (pss_one (ps_ret (pe_and (pe_callB call_isi rfl T.b_isinstance (by decide +kernel) (pa_cons (pv 0) (pa_cons (pe_bltn (v := .ty "int") rfl T.b_int (by decide +kernel) rfl) pa_nil))) (pe_one (pe_not (pe_callB call_isi rfl T.b_isinstance (by decide +kernel) (pa_cons (pv 0) (pa_cons (pe_bltn (v := .ty "bool") rfl T.b_bool (by decide +kernel) rfl) pa_nil))))))))))
theorem dn_law_is_whole_oF (hB : ∀ ds Φ, S_law_is_whole ds Φ → B_law_is_whole ⟨startD n_law_is_whole ds, 0⟩ (retD Φ)) (hl : ∀ ds Φ, S_law_is_whole ds Φ → ds.length = 1) (T : Tx w K mg) : Dn P w K mg base CX0 1 "_law_is_whole" ["thing"] (spP ⟨P, w, K, nE⟩ S_law_is_whole) := by
  obtain ⟨fd, F⟩ := T.f_law_is_whole
  exact ⟨_, fd, fn_law_is_whole hB hl T F, T.g_law_is_whole, F.kp, F.bindsN fun _ _ _ _ _ _ us hl => match us, hl with | [_], _ => rfl⟩
theorem dn_law_is_whole (T : Tx w K mg) : Dn P w K mg base CX0 1 "_law_is_whole" ["thing"] (spP ⟨P, w, K, nE⟩ S_law_is_whole) := dn_law_is_whole_oF hB_law_is_whole hl_law_is_whole T
theorem fn_law_is_entry (hB : ∀ ds Φ, S_law_is_entry ds Φ → B_law_is_entry ⟨startD n_law_is_entry ds, 0⟩ (retD Φ)) (hl : ∀ ds Φ, S_law_is_entry ds Φ → ds.length = 1) (T : Tx w K mg) {fd : FuncData} (F : FunD K "_law_is_entry" "_law_is_entry" (defArgs s_law_is_entry) (defBody s_law_is_entry) (defScope s_law_is_entry) (d_law_is_entry.dvs K) [] (He.fAd K d_law_is_entry.at_) fd) : FnOk P w K mg base CX0 2 (He.fAd K d_law_is_entry.at_) fd ["thing"] (spP ⟨P, w, K, nE⟩ S_law_is_entry) := by
  have nd := sc_law_is_entry.nd
  let N := n_law_is_entry
  let sc := defScope s_law_is_entry
  refine F.ok sc_law_is_entry (fun vs H Q E h => lenP h hl) (fun cdv A outer s H vs Q E hr h => mk_body (body_ok (K := ⟨P, w, K, nE⟩) (g := B_law_is_entry) (ss_seq (ss_if (sb_or (sb_not (sb_val (se_isi (n := "tuple") (se_name 0)))) (sb_or (sb_test (se_bin os_ne (se_cl cs_len (sa_cons (se_name 0) sa_nil)) se_int)) (sb_not (sb_val (se_isi (n := "str") (se_bin os_ix (se_name 0) se_int)))))) (ss_ret se_bl) ss_nil)
    (ss_seq (ss_if (sb_or (sb_not (sb_val (se_isi (n := "tuple") (se_bin os_ix (se_name 0) se_int)))) (sb_not (sb_val (se_call (fun _ => .nil) (sa_cons (se_bin os_ix (se_name 0) se_int) sa_nil))))) (ss_ret se_bl) ss_nil)
    (ss_ret (se_cl cs_all (sa_cons (se_lc (vs := [1]) (si_seq (se_bin os_ix (se_name 0) se_int)) (st_name 1) sb_yes (se_call (fun _ => .nil) (sa_cons (se_name 1) sa_nil)) (by decide)) sa_nil))))) hB h) (PSs.nox (pss_cons (ps_if (PW.pt (pw_or (pt_not (pt_val (pe_callB call_isi rfl T.b_isinstance (by decide +kernel) (pa_cons (pv 0) (pa_cons (pe_bltn (v := .ty "tuple") rfl T.b_tuple (by decide +kernel) rfl) pa_nil))))) (pw_or (pt_cmpR (op_neD hr.units) (pe_callB call_len rfl T.b_len (by decide +kernel) (pa_cons (pv 0) pa_nil)) pe_int (nomark _)) (pw_or1 (pt_not (pt_val (pe_callB call_isi rfl T.b_isinstance (by decide +kernel) (pa_cons (pe_ix ix_seq (pv 0) pe_int (fun _ _ => rfl)) (pa_cons (pe_bltn (v := .ty "str") rfl T.b_str (by decide +kernel) rfl) pa_nil))))))))) (pss_one (ps_ret pe_bl)) pss_nil)
    (pss_cons (ps_if (PW.pt (pw_or (pt_not (pt_val (pe_callB call_isi rfl T.b_isinstance (by decide +kernel) (pa_cons (pe_ix ix_seq (pv 0) pe_int (fun _ _ => rfl)) (pa_cons (pe_bltn (v := .ty "tuple") rfl T.b_tuple (by decide +kernel) rfl) pa_nil))))) (pw_or1 (pt_not (pt_val (pe_dn (dn_law_is_whole T) (Room.mono hr (by decide)) rfl pass0 (pa_cons (pe_ix ix_seq (pv 0) pe_int (fun _ _ => rfl)) pa_nil))))))) (pss_one (ps_ret pe_bl)) pss_nil)
    (pss_one (ps_ret (pe_callB (cr_all rfl) rfl T.b_all (by decide +kernel) (pa_cons (pe_lc (own := [("number", 1)]) rfl nd (pi_seq (pe_ix ix_seq (pv 0) pe_int (fun _ _ => rfl))) (blkOk_by (own := [("number", 1)]) (N := N) (sc := sc) (by decide +kernel)) (fun _ _ _ _ _ => (pg_name (i := 1) nd rfl (Or.inl rfl))) (fun _ _ _ _ _ => pts_nil) (fun _ _ _ _ _ => (pe_dn (dn_law_is_whole T) (Room.mono hr (by decide)) rfl pass0 (pa_cons (pv 1) pa_nil)))) pa_nil))))))))
theorem dn_law_is_entry_oF (hB : ∀ ds Φ, S_law_is_entry ds Φ → B_law_is_entry ⟨startD n_law_is_entry ds, 0⟩ (retD Φ)) (hl : ∀ ds Φ, S_law_is_entry ds Φ → ds.length = 1) (T : Tx w K mg) : Dn P w K mg base CX0 2 "_law_is_entry" ["thing"] (spP ⟨P, w, K, nE⟩ S_law_is_entry) := by
  obtain ⟨fd, F⟩ := T.f_law_is_entry
  exact ⟨_, fd, fn_law_is_entry hB hl T F, T.g_law_is_entry, F.kp, F.bindsN fun _ _ _ _ _ _ us hl => match us, hl with | [_], _ => rfl⟩
theorem dn_law_is_entry (T : Tx w K mg) : Dn P w K mg base CX0 2 "_law_is_entry" ["thing"] (spP ⟨P, w, K, nE⟩ S_law_is_entry) := dn_law_is_entry_oF hB_law_is_entry hl_law_is_entry T
theorem fn_law_are_entries (hB : ∀ ds Φ, S_law_are_entries ds Φ → B_law_are_entries ⟨startD n_law_are_entries ds, 0⟩ (retD Φ)) (hl : ∀ ds Φ, S_law_are_entries ds Φ → ds.length = 1) (T : Tx w K mg) {fd : FuncData} (F : FunD K "_law_are_entries" "_law_are_entries" (defArgs s_law_are_entries) (defBody s_law_are_entries) (defScope s_law_are_entries) (d_law_are_entries.dvs K) [] (He.fAd K d_law_are_entries.at_) fd) : FnOk P w K mg base CX0 3 (He.fAd K d_law_are_entries.at_) fd ["thing"] (spP ⟨P, w, K, nE⟩ S_law_are_entries) := by
  have nd := sc_law_are_entries.nd
  let N := n_law_are_entries
  let sc := defScope s_law_are_entries
  refine F.ok sc_law_are_entries (fun vs H Q E h => lenP h hl) (fun cdv A outer s H vs Q E hr h => mk_body (body_ok (K := ⟨P, w, K, nE⟩) (g := B_law_are_entries) (ss_ret (se_and (se_isi (n := "tuple") (se_name 0)) (se_cl cs_all (sa_cons (se_lc (vs := [1]) (si_seq (se_name 0)) (st_name 1) sb_yes (se_call (fun _ => .nil) (sa_cons (se_name 1) sa_nil)) (by decide)) sa_nil)))) hB h) (PSs.nox (pss_one (ps_ret (pe_and (pe_callB call_isi rfl T.b_isinstance (by decide +kernel) (pa_cons (pv 0) (pa_cons (pe_bltn (v := .ty "tuple") rfl T.b_tuple (by decide +kernel) rfl) pa_nil))) (pe_one (pe_callB (cr_all rfl) rfl T.b_all (by decide +kernel) (pa_cons (pe_lc (own := [("entry", 1)]) rfl nd (pi_seq (pv 0)) (blkOk_by (own := [("entry", 1)]) (N := N) (sc := sc) (by decide +kernel)) (fun _ _ _ _ _ => (pg_name (i := 1) nd rfl (Or.inl rfl))) (fun _ _ _ _ _ => pts_nil) (fun _ _ _ _ _ => (pe_dn (dn_law_is_entry T) (Room.mono hr (by decide)) rfl pass0 (pa_cons (pv 1) pa_nil)))) pa_nil))))))))
theorem dn_law_are_entries_oF (hB : ∀ ds Φ, S_law_are_entries ds Φ → B_law_are_entries ⟨startD n_law_are_entries ds, 0⟩ (retD Φ)) (hl : ∀ ds Φ, S_law_are_entries ds Φ → ds.length = 1) (T : Tx w K mg) : Dn P w K mg base CX0 3 "_law_are_entries" ["thing"] (spP ⟨P, w, K, nE⟩ S_law_are_entries) := by
  obtain ⟨fd, F⟩ := T.f_law_are_entries
  exact ⟨_, fd, fn_law_are_entries hB hl T F, T.g_law_are_entries, F.kp, F.bindsN fun _ _ _ _ _ _ us hl => match us, hl with | [_], _ => rfl⟩
theorem dn_law_are_entries (T : Tx w K mg) : Dn P w K mg base CX0 3 "_law_are_entries" ["thing"] (spP ⟨P, w, K, nE⟩ S_law_are_entries) := dn_law_are_entries_oF hB_law_are_entries hl_law_are_entries T
theorem fn_law_find (hB : ∀ ds Φ, S_law_find ds Φ → B_law_find ⟨startD n_law_find ds, 0⟩ (retD Φ)) (hl : ∀ ds Φ, S_law_find ds Φ → ds.length = 3) (T : Tx w K mg) {fd : FuncData} (F : FunD K "_law_find" "_law_find" (defArgs s_law_find) (defBody s_law_find) (defScope s_law_find) (d_law_find.dvs K) [] (He.fAd K d_law_find.at_) fd) : FnOk P w K mg base CX0 1 (He.fAd K d_law_find.at_) fd ["table", "name", "key"] (spP ⟨P, w, K, nE⟩ S_law_find) := by
  have nd := sc_law_find.nd
  let N := n_law_find
  let sc := defScope s_law_find
  refine F.ok sc_law_find (fun vs H Q E h => lenP h hl) (fun cdv A outer s H vs Q E hr h => mk_body (body_ok (K := ⟨P, w, K, nE⟩) (g := B_law_find) (ss_seq (ss_for (si_seq (se_name 0)) (st_name 3) (ss_if (sb_and (sb_test (se_bin os_eq (se_bin os_ix (se_name 3) se_int) (se_name 1))) (sb_test (se_bin os_eq (se_bin os_ix (se_name 3) se_int) (se_name 2)))) (ss_ret (se_bin os_ix (se_name 3) se_int)) ss_nil))
    (ss_ret se_non)) hB h) (PSs.nox (pss_cons (ps_for PassesOwn.never rfl (pi_seq (pv 0)) (pg_name (i := 3) nd rfl (Or.inl rfl)) (pss_one (ps_if (PW.pt (pw_and (pt_cmpR (op_eqD hr.units) (pe_ix ix_seq (pv 3) pe_int (fun _ _ => rfl)) (pv 1) (nomark _)) (pw_and1 (pt_cmpR (op_eqD hr.units) (pe_ix ix_seq (pv 3) pe_int (fun _ _ => rfl)) (pv 2) (nomark _))))) (pss_one (ps_ret (pe_ix ix_seq (pv 3) pe_int (fun _ _ => rfl)))) pss_nil)))
    (pss_one (ps_ret pe_non)))))
theorem dn_law_find_oF (hB : ∀ ds Φ, S_law_find ds Φ → B_law_find ⟨startD n_law_find ds, 0⟩ (retD Φ)) (hl : ∀ ds Φ, S_law_find ds Φ → ds.length = 3) (T : Tx w K mg) : Dn P w K mg base CX0 1 "_law_find" ["table", "name", "key"] (spP ⟨P, w, K, nE⟩ S_law_find) := by
  obtain ⟨fd, F⟩ := T.f_law_find
  exact ⟨_, fd, fn_law_find hB hl T F, T.g_law_find, F.kp, F.bindsN fun _ _ _ _ _ _ us hl => match us, hl with | [_, _, _], _ => rfl⟩
theorem dn_law_find (T : Tx w K mg) : Dn P w K mg base CX0 1 "_law_find" ["table", "name", "key"] (spP ⟨P, w, K, nE⟩ S_law_find) := dn_law_find_oF hB_law_find hl_law_find T
theorem fn_law_walk (hB : ∀ ds Φ, S_law_walk ds Φ → B_law_walk ⟨startD n_law_walk ds, 0⟩ (retD Φ)) (hl : ∀ ds Φ, S_law_walk ds Φ → ds.length = 2) (T : Tx w K mg) {fd : FuncData} (F : FunD K "_law_walk" "_law_walk" (defArgs s_law_walk) (defBody s_law_walk) (defScope s_law_walk) (d_law_walk.dvs K) [] (He.fAd K d_law_walk.at_) fd) : FnOk P w K mg base CX0 2 (He.fAd K d_law_walk.at_) fd ["events", "tables"] (spP ⟨P, w, K, nE⟩ S_law_walk) := by
  have nd := sc_law_walk.nd
  let N := n_law_walk
  let sc := defScope s_law_walk
  refine F.ok sc_law_walk (fun vs H Q E h => lenP h hl) (fun cdv A outer s H vs Q E hr h => mk_body (body_ok (K := ⟨P, w, K, nE⟩) (g := B_law_walk) (ss_seq (ss_dck (i := 2))
    (ss_seq (ss_own (i := 3) (se_lst sa_nil))
    (ss_seq (ss_for (si_seq (se_name 0)) (st_tup (n := 4) (st_cons (st_name 4) (st_cons (st_name 5) (st_cons (st_name 6) (st_cons (st_name 7) st_nil))))) (ss_if (sb_val (se_cl cs_all (sa_cons (se_lc (vs := [10]) (si_seq (se_name 7)) (st_name 10) sb_yes (se_inC (se_name 10) (se_name 2)) (by decide)) sa_nil))) (ss_seq (ss_set (i := 8) (se_cl cs_tuple (sa_cons (se_lc (vs := [10]) (si_seq (se_name 7)) (st_name 10) sb_yes (se_ixC (se_name 2) (se_name 10)) (by decide)) sa_nil)))
    (ss_seq (ss_set (i := 9) (se_if (sb_val (se_inC (se_name 5) (se_name 1))) (se_call (fun _ => .nil) (sa_cons (se_ixC (se_name 1) (se_name 5)) (sa_cons (se_name 4) (sa_cons (se_name 8) sa_nil)))) se_non))
    (ss_seq (ss_if (sb_val (se_notN (se_name 9))) (ss_putC (i := 2) (se_name 9) (se_name 4)) ss_nil)
    (ss_app (i := 3) (se_tup (sa_cons (se_name 4) (sa_cons (se_name 5) (sa_cons (se_name 8) (sa_cons (se_name 9) sa_nil))))))))) ss_nil))
    (ss_ret (se_name 3))))) hB h) (PSs.nox (pss_cons (ps_set (i := 2) nd rfl (Or.inr rfl) pe_dnewK)
    (pss_cons (ps_set (i := 3) nd rfl (Or.inl rfl) (pe_lst pa_nil))
    (pss_cons (ps_for PassesOwn.never rfl (pi_seq (pv 0)) (pg_tup rfl (pgs_cons (pg_name (i := 4) nd rfl (Or.inl rfl)) (pgs_cons (pg_name (i := 5) nd rfl (Or.inl rfl)) (pgs_cons (pg_name (i := 6) nd rfl (Or.inl rfl)) (pgs_cons (pg_name (i := 7) nd rfl (Or.inl rfl)) pgs_nil))))) (pss_one (ps_if (pt_val (pe_callB (cr_all rfl) rfl T.b_all (by decide +kernel) (pa_cons (pe_lc (own := [("need", 10)]) rfl nd (pi_seq (pv 7)) (blkOk_by (own := [("need", 10)]) (N := N) (sc := sc) (by decide +kernel)) (fun _ _ _ _ _ => (pg_name (i := 10) nd rfl (Or.inl rfl))) (fun _ _ _ _ _ => pts_nil) (fun _ _ _ _ _ => (pe_cmp (pc_din (DL.Room.u1 hr) (pv 10) (pv 2)) rfl))) pa_nil))) (pss_cons (ps_set (i := 8) nd rfl (Or.inl rfl) (pe_callTy call_tuple_of rfl T.b_tuple (by decide +kernel) (pa_cons (pe_lc (own := [("need", 10)]) rfl nd (pi_seq (pv 7)) (blkOk_by (own := [("need", 10)]) (N := N) (sc := sc) (by decide +kernel)) (fun _ _ _ _ _ => (pg_name (i := 10) nd rfl (Or.inl rfl))) (fun _ _ _ _ _ => pts_nil) (fun _ _ _ _ _ => (pe_dget (DL.Room.u1 hr) (pv 2) (pv 10) (fun _ _ => rfl)))) pa_nil)))
    (pss_cons (ps_set (i := 9) nd rfl (Or.inl rfl) (pe_ifExp (pt_cmp (pc_din (DL.Room.u1 hr) (pv 5) (pv 1)) rfl) (pe_dn (dn_law_find T) (Room.mono hr (by decide)) rfl pass0 (pa_cons (pe_dget (DL.Room.u1 hr) (pv 1) (pv 5) (fun _ _ => rfl)) (pa_cons (pv 4) (pa_cons (pv 8) pa_nil)))) pe_non))
    (pss_cons (ps_if (pt_cmp (pc_notN (pv 9)) rfl) (pss_one (ps_dput (DL.Room.u1 hr) (pv 2) (pv 4) (pv 9) rfl)) pss_nil)
    (pss_one (ps_expr (pe_bm PySem.F.plainAttrs_list PySem.F.slot_list_append PySem.F.type_list_append mt_append (pv 3) (pa_cons (pe_tup (pa_cons (pv 4) (pa_cons (pv 5) (pa_cons (pv 8) (pa_cons (pv 9) pa_nil))))) pa_nil))))))) pss_nil)))
    (pss_one (ps_ret (pv 3))))))))
theorem dn_law_walk_oF (hB : ∀ ds Φ, S_law_walk ds Φ → B_law_walk ⟨startD n_law_walk ds, 0⟩ (retD Φ)) (hl : ∀ ds Φ, S_law_walk ds Φ → ds.length = 2) (T : Tx w K mg) : Dn P w K mg base CX0 2 "_law_walk" ["events", "tables"] (spP ⟨P, w, K, nE⟩ S_law_walk) := by
  obtain ⟨fd, F⟩ := T.f_law_walk
  exact ⟨_, fd, fn_law_walk hB hl T F, T.g_law_walk, F.kp, F.bindsN fun _ _ _ _ _ _ us hl => match us, hl with | [_, _], _ => rfl⟩
theorem dn_law_walk (T : Tx w K mg) : Dn P w K mg base CX0 2 "_law_walk" ["events", "tables"] (spP ⟨P, w, K, nE⟩ S_law_walk) := dn_law_walk_oF hB_law_walk hl_law_walk T
theorem fn_law_due_play (hB : ∀ ds Φ, S_law_due_play ds Φ → B_law_due_play ⟨startD n_law_due_play ds, 0⟩ (retD Φ)) (hl : ∀ ds Φ, S_law_due_play ds Φ → ds.length = 2) (T : Tx w K mg) {fd : FuncData} (F : FunD K "_law_due_play" "_law_due_play" (defArgs s_law_due_play) (defBody s_law_due_play) (defScope s_law_due_play) (d_law_due_play.dvs K) [] (He.fAd K d_law_due_play.at_) fd) : FnOk P w K mg base CX0 3 (He.fAd K d_law_due_play.at_) fd ["events", "tables"] (spP ⟨P, w, K, nE⟩ S_law_due_play) := by
  have nd := sc_law_due_play.nd
  let N := n_law_due_play
  let sc := defScope s_law_due_play
  refine F.ok sc_law_due_play (fun vs H Q E h => lenP h hl) (fun cdv A outer s H vs Q E hr h => mk_body (body_ok (K := ⟨P, w, K, nE⟩) (g := B_law_due_play) (ss_ret (se_cl cs_tuple (sa_cons (se_lc (vs := [2, 3, 4, 5]) (si_seq (se_call (fun _ => .nil) (sa_cons (se_name 0) (sa_cons (se_name 1) sa_nil)))) (st_tup (n := 4) (st_cons (st_name 2) (st_cons (st_name 3) (st_cons (st_name 4) (st_cons (st_name 5) st_nil))))) (sb_val (se_notN (se_name 5))) (se_tup (sa_cons (se_name 2) (sa_cons (se_name 4) (sa_cons (se_name 5) sa_nil)))) (by decide)) sa_nil))) hB h) (PSs.nox (pss_one (ps_ret (pe_callTy call_tuple_of rfl T.b_tuple (by decide +kernel) (pa_cons (pe_lc (own := [("name", 2), ("end", 3), ("key", 4), ("value", 5)]) rfl nd (pi_seq (pe_dn (dn_law_walk T) (Room.mono hr (by decide)) rfl pass0 (pa_cons (pv 0) (pa_cons (pv 1) pa_nil)))) (blkOk_by (own := [("name", 2), ("end", 3), ("key", 4), ("value", 5)]) (N := N) (sc := sc) (by decide +kernel)) (fun _ _ _ _ _ => (pg_tup rfl (pgs_cons (pg_name (i := 2) nd rfl (Or.inl rfl)) (pgs_cons (pg_name (i := 3) nd rfl (Or.inl rfl)) (pgs_cons (pg_name (i := 4) nd rfl (Or.inl rfl)) (pgs_cons (pg_name (i := 5) nd rfl (Or.inl rfl)) pgs_nil)))))) (fun _ _ _ _ _ => (pts_one (pt_cmp (pc_notN (pv 5)) rfl))) (fun _ _ _ _ _ => (pe_tup (pa_cons (pv 2) (pa_cons (pv 4) (pa_cons (pv 5) pa_nil)))))) pa_nil))))))
theorem dn_law_due_play_oF (hB : ∀ ds Φ, S_law_due_play ds Φ → B_law_due_play ⟨startD n_law_due_play ds, 0⟩ (retD Φ)) (hl : ∀ ds Φ, S_law_due_play ds Φ → ds.length = 2) (T : Tx w K mg) : Dn P w K mg base CX0 3 "_law_due_play" ["events", "tables"] (spP ⟨P, w, K, nE⟩ S_law_due_play) := by
  obtain ⟨fd, F⟩ := T.f_law_due_play
  exact ⟨_, fd, fn_law_due_play hB hl T F, T.g_law_due_play, F.kp, F.bindsN fun _ _ _ _ _ _ us hl => match us, hl with | [_, _], _ => rfl⟩
theorem dn_law_due_play (T : Tx w K mg) : Dn P w K mg base CX0 3 "_law_due_play" ["events", "tables"] (spP ⟨P, w, K, nE⟩ S_law_due_play) := dn_law_due_play_oF hB_law_due_play hl_law_due_play T
theorem fn_law_put (hB : ∀ ds Φ, S_law_put ds Φ → B_law_put ⟨startD n_law_put ds, 0⟩ (retD Φ)) (hl : ∀ ds Φ, S_law_put ds Φ → ds.length = 2) (T : Tx w K mg) {fd : FuncData} (F : FunD K "_law_put" "_law_put" (defArgs s_law_put) (defBody s_law_put) (defScope s_law_put) (d_law_put.dvs K) [] (He.fAd K d_law_put.at_) fd) : FnOk P w K mg base CX0 2 (He.fAd K d_law_put.at_) fd ["table", "entry"] (spP ⟨P, w, K, nE⟩ S_law_put) := by
  have nd := sc_law_put.nd
  let N := n_law_put
  let sc := defScope s_law_put
  refine F.ok sc_law_put (fun vs H Q E h => lenP h hl) (fun cdv A outer s H vs Q E hr h => mk_body (body_ok (K := ⟨P, w, K, nE⟩) (g := B_law_put) (ss_seq (ss_if (sb_val (se_notN (se_call (fun _ => .nil) (sa_cons (se_name 0) (sa_cons (se_bin os_ix (se_name 1) se_int) (sa_cons (se_bin os_ix (se_name 1) se_int) sa_nil)))))) (ss_ret (se_name 0)) ss_nil)
    (ss_ret (se_cl cs_tuple (sa_cons (se_sorted (sa_cons (se_bin os_add (se_cl cs_list (sa_cons (se_name 0) sa_nil)) (se_lst (sa_cons (se_name 1) sa_nil))) sa_nil)) sa_nil)))) hB h) (PSs.nox (pss_cons (ps_if (pt_cmp (pc_notN (pe_dn (dn_law_find T) (Room.mono hr (by decide)) rfl pass0 (pa_cons (pv 0) (pa_cons (pe_ix ix_seq (pv 1) pe_int (fun _ _ => rfl)) (pa_cons (pe_ix ix_seq (pv 1) pe_int (fun _ _ => rfl)) pa_nil))))) rfl) (pss_one (ps_ret (pv 0))) pss_nil)
    (pss_one (ps_ret (pe_callTy call_tuple_of rfl T.b_tuple (by decide +kernel) (pa_cons (pe_callB (cr_sortedD hr.units) rfl T.b_sorted (by decide +kernel) (pa_cons (pe_op opAddA (pe_callTy call_list_of rfl T.b_list (by decide +kernel) (pa_cons (pv 0) pa_nil)) (pe_lst (pa_cons (pv 1) pa_nil))) pa_nil)) pa_nil)))))))
theorem dn_law_put_oF (hB : ∀ ds Φ, S_law_put ds Φ → B_law_put ⟨startD n_law_put ds, 0⟩ (retD Φ)) (hl : ∀ ds Φ, S_law_put ds Φ → ds.length = 2) (T : Tx w K mg) : Dn P w K mg base CX0 2 "_law_put" ["table", "entry"] (spP ⟨P, w, K, nE⟩ S_law_put) := by
  obtain ⟨fd, F⟩ := T.f_law_put
  exact ⟨_, fd, fn_law_put hB hl T F, T.g_law_put, F.kp, F.bindsN fun _ _ _ _ _ _ us hl => match us, hl with | [_, _], _ => rfl⟩
theorem dn_law_put (T : Tx w K mg) : Dn P w K mg base CX0 2 "_law_put" ["table", "entry"] (spP ⟨P, w, K, nE⟩ S_law_put) := dn_law_put_oF hB_law_put hl_law_put T
theorem fn_law_grown (hB : ∀ ds n Φ, S_law_grown ds n Φ → B_law_grown ⟨startB n_law_grown ds, n⟩ (retB Φ)) (hl : ∀ ds n Φ, S_law_grown ds n Φ → ds.length = 3) (T : Tx w K mg) {fd : FuncData} (F : FunD K "_law_grown" "_law_grown" (defArgs s_law_grown) (defBody s_law_grown) (defScope s_law_grown) (d_law_grown.dvs K) [] (He.fAd K d_law_grown.at_) fd) : FnOk P w K mg base CX0 3 (He.fAd K d_law_grown.at_) fd ["bag", "events", "world", "tables"] (spB ⟨P, w, K, nE⟩ S_law_grown) := by
  have nd := sc_law_grown.nd
  let N := n_law_grown
  let sc := defScope s_law_grown
  refine F.ok sc_law_grown (fun vs H Q E h => lenB h hl) (fun cdv A outer s H vs Q E hr h => mk_body (body_okB (K := ⟨P, w, K, nE⟩) (g := B_law_grown) (ss_seq (ss_asg (se_bin os_ix (se_name 1) (se_callB (i := 0) (sa_cons (se_cl cs_len (sa_cons (se_name 1) sa_nil)) sa_nil))) (st_tup (n := 4) (st_cons (st_name 4) (st_cons (st_name 5) (st_cons (st_name 6) (st_cons (st_name 7) st_nil))))))
    (ss_seq (ss_set (i := 8) (se_ixC (se_call (fun _ => .nil) (sa_cons (se_name 1) (sa_cons (se_name 2) sa_nil))) (se_name 4)))
    (ss_seq (ss_if (sb_or (sb_test (se_bin os_eq (se_name 6) se_str)) (sb_test (se_bin (os_B fun i j => decide (j < i)) (se_callB (i := 0) (sa_cons se_int sa_nil)) se_int))) (ss_ret (se_tup (sa_cons (se_name 5) (sa_cons (se_tup (sa_cons (se_name 4) (sa_cons (se_bin os_ix (se_name 8) se_int) (sa_cons (se_bin os_ix (se_name 8) se_int) sa_nil)))) sa_nil)))) ss_nil)
    (ss_seq (ss_set (i := 9) (se_cl cs_tuple (sa_cons (se_lc (vs := [10]) (si_seq (se_name 7)) (st_name 10) sb_yes (se_callB (i := 0) (sa_cons se_int sa_nil)) (by decide)) sa_nil)))
    (ss_ret (se_tup (sa_cons (se_name 5) (sa_cons (se_tup (sa_cons (se_name 4) (sa_cons (se_name 9) (sa_cons (se_call (fun _ => .nil) (sa_cons (se_name 2) (sa_cons (se_name 4) (sa_cons (se_name 9) sa_nil)))) sa_nil)))) sa_nil)))))))) hB h) (PSs.nox (pss_cons (ps_asg (pe_ix ix_seq (pv 1) (pe_dn (dn_draw T) (Room.mono hr (by decide)) rfl pass0 (pa_cons (pv 0) (pa_cons (pe_callB call_len rfl T.b_len (by decide +kernel) (pa_cons (pv 1) pa_nil)) pa_nil))) (fun _ _ => rfl)) (pg_tup rfl (pgs_cons (pg_name (i := 4) nd rfl (Or.inl rfl)) (pgs_cons (pg_name (i := 5) nd rfl (Or.inl rfl)) (pgs_cons (pg_name (i := 6) nd rfl (Or.inl rfl)) (pgs_cons (pg_name (i := 7) nd rfl (Or.inl rfl)) pgs_nil))))))
    (pss_cons (ps_set (i := 8) nd rfl (Or.inl rfl) (pe_dget (DL.Room.u1 hr) (pe_dn (dn_law_true T) (Room.mono hr (by decide)) rfl pass0 (pa_cons (pv 1) (pa_cons (pv 2) pa_nil))) (pv 4) (fun _ _ => rfl)))
    (pss_cons (ps_if (PW.pt (pw_or (pt_cmpR (op_eqD hr.units) (pv 6) pe_str (nomark _)) (pw_or1 (pt_cmpR op_gt (pe_dn (dn_draw T) (Room.mono hr (by decide)) rfl pass0 (pa_cons (pv 0) (pa_cons pe_int pa_nil))) pe_int (nomark _))))) (pss_one (ps_ret (pe_tup (pa_cons (pv 5) (pa_cons (pe_tup (pa_cons (pv 4) (pa_cons (pe_ix ix_seq (pv 8) pe_int (fun _ _ => rfl)) (pa_cons (pe_ix ix_seq (pv 8) pe_int (fun _ _ => rfl)) pa_nil)))) pa_nil))))) pss_nil)
    (pss_cons (ps_set (i := 9) nd rfl (Or.inl rfl) (pe_callTy call_tuple_of rfl T.b_tuple (by decide +kernel) (pa_cons (pe_lc (own := [("need", 10)]) rfl nd (pi_seq (pv 7)) (blkOk_by (own := [("need", 10)]) (N := N) (sc := sc) (by decide +kernel)) (fun _ _ _ _ _ => (pg_name (i := 10) nd rfl (Or.inl rfl))) (fun _ _ _ _ _ => pts_nil) (fun _ _ _ _ _ => (pe_dn (dn_draw T) (Room.mono hr (by decide)) rfl pass0 (pa_cons (pv 0) (pa_cons pe_int pa_nil))))) pa_nil)))
    (pss_one (ps_ret (pe_tup (pa_cons (pv 5) (pa_cons (pe_tup (pa_cons (pv 4) (pa_cons (pv 9) (pa_cons (pe_dn (dn_law_answer T) (Room.mono hr (by decide)) rfl pass0 (pa_cons (pv 2) (pa_cons (pv 4) (pa_cons (pv 9) pa_nil)))) pa_nil)))) pa_nil)))))))))))
theorem dn_law_grown_oF (hB : ∀ ds n Φ, S_law_grown ds n Φ → B_law_grown ⟨startB n_law_grown ds, n⟩ (retB Φ)) (hl : ∀ ds n Φ, S_law_grown ds n Φ → ds.length = 3) (T : Tx w K mg) : Dn P w K mg base CX0 3 "_law_grown" ["bag", "events", "world", "tables"] (spB ⟨P, w, K, nE⟩ S_law_grown) := by
  obtain ⟨fd, F⟩ := T.f_law_grown
  exact ⟨_, fd, fn_law_grown hB hl T F, T.g_law_grown, F.kp, F.bindsN fun _ _ _ _ _ _ us hl => match us, hl with | [_, _, _, _], _ => rfl⟩
theorem dn_law_grown (T : Tx w K mg) : Dn P w K mg base CX0 3 "_law_grown" ["bag", "events", "world", "tables"] (spB ⟨P, w, K, nE⟩ S_law_grown) := dn_law_grown_oF hB_law_grown hl_law_grown T
end
end K21
set_option maxHeartbeats 1000000
namespace K21
open PySem PySem.Spec PyProof.Rows L2 Ax DL
section
variable {P : Program} {w : World} {K : PySem.W.Frag} {mg : Str → Option Value} {base : Heap}
def spLaw (K : PySem.W.Frag) : Sp := fun vs H Q _ => ∃ (a : Addr) (ns : List Int), vs = [.ref a] ∧ SqL K H a (ns.map V.int) ∧ ns.length ≤ 63 ∧ ∀ H', Q (.bl true) H'
theorem law_top {E0 : XK} {t : TS} (ss : SS ⟨P, w, K, nE⟩ t B_law) {vs : List V} {H : Hp} {Q : VK} {E : XK} (h : spLaw K vs H Q E) : (tSeq (tAsg (tCall (spBag K) [] E0 (tCons (tVar 0) tNil)) (L2.gName 1)) t) { nx := fun _ H' => Q .non H', rt := Q } (L2.start n_law vs) H := by
  obtain ⟨sa, ns, rfl, hs, hn, h⟩ := h
  refine ⟨_, rfl, sa, ns, rfl, hs, hn, fun b c ms H1 x1 hb0 hB => ?_⟩
  exact top_run (K := ⟨P, w, K, nE⟩) (g := B_law) (n := 19) ss hB rfl rfl hB_law h
theorem ok_law (T : Tx w K mg) {fd : FuncData} (F : FunD K "law" "law" (defArgs s_law) (defBody s_law) (defScope s_law) (d_law.dvs K) [] (He.fAd K d_law.at_) fd) : FnOk P w K mg base CX0 7 (He.fAd K d_law.at_) fd ["script"] (spLaw K) := by
  have nd := sc_law.nd
  let N := n_law
  let sc := defScope s_law
  refine F.ok sc_law (fun vs H Q E h => ?_) (fun cdv A outer s H vs Q E hr h => mk_body (law_top ((ss_seq (ss_set (i := 2) (se_bin os_add se_int (se_callB (i := 1) (sa_cons se_int sa_nil))))
    (ss_seq (ss_set (i := 3) (se_callB (i := 1) (sa_cons (se_name 2) (sa_cons se_int (sa_cons se_int sa_nil)))))
    (ss_seq (ss_set (i := 4) (se_callB (i := 1) (sa_cons (se_name 3) sa_nil)))
    (ss_seq (ss_set (i := 5) (se_call (fun _ => .nil) (sa_cons (se_name 3) sa_nil)))
    (ss_seq (ss_set (i := 6) (se_call (fun _ => .nil) (sa_cons (se_name 3) (sa_cons (se_name 4) sa_nil))))
    (ss_seq (ss_dck (i := 7))
    (ss_seq (ss_for (si_range2 (sa_cons se_int (sa_cons (se_bin os_add (se_name 2) se_int) sa_nil))) (st_name 8) (ss_if (sb_test (se_bin os_eq (se_callB (i := 1) (sa_cons se_int sa_nil)) se_int)) (ss_putC (i := 7) (se_tup sa_nil) (se_name 8)) ss_nil))
    (ss_seq (ss_set (i := 9) (se_tup sa_nil))
    (ss_seq (ss_for (si_range1 (sa_cons (se_bin os_add se_int (se_callB (i := 1) (sa_cons se_int sa_nil))) sa_nil)) (st_name 10) (ss_seq (ss_asg (se_callBP (i := 1) (sa_cons (se_name 3) (sa_cons (se_name 4) (sa_cons (se_name 7) sa_nil)))) (st_tup (n := 2) (st_cons (st_name 8) (st_cons (st_name 11) st_nil))))
    (ss_seq (ss_set (i := 12) (se_if (sb_val (se_inC (se_name 8) (se_name 7))) (se_ixC (se_name 7) (se_name 8)) (se_tup sa_nil)))
    (ss_seq (ss_set (i := 13) (se_call (fun _ => .nil) (sa_cons (se_name 12) (sa_cons (se_bin os_ix (se_name 11) se_int) (sa_cons (se_bin os_ix (se_name 11) se_int) (sa_cons (se_bin os_ix (se_name 11) se_int) sa_nil))))))
    (ss_seq (ss_if (sb_or (sb_test (se_bin os_ne (se_name 13) (se_call (fun _ => .nil) (sa_cons (se_name 12) (sa_cons (se_name 11) sa_nil))))) (sb_not (sb_val (se_call (fun _ => .nil) (sa_cons (se_name 13) sa_nil))))) (ss_ret se_bl) ss_nil)
    (ss_seq (ss_if (sb_or (sb_test (se_bin os_ne (se_call (fun _ => .nil) (sa_cons (se_name 13) (sa_cons (se_bin os_ix (se_name 11) se_int) (sa_cons (se_bin os_ix (se_name 11) se_int) sa_nil)))) (se_bin os_ix (se_name 11) se_int))) (sb_val (se_notN (se_call (fun _ => .nil) (sa_cons (se_name 13) (sa_cons (se_bin os_ix (se_name 11) se_int) (sa_cons (se_bin os_add (se_bin os_ix (se_name 11) se_int) (se_tup (sa_cons se_int sa_nil))) sa_nil))))))) (ss_ret se_bl) ss_nil)
    (ss_seq (ss_putC (i := 7) (se_name 13) (se_name 8))
    (ss_seq (ss_cpy (i := 14) (se_name 7))
    (ss_seq (ss_set (i := 15) (se_call (fun _ => .nil) (sa_cons (se_name 5) (sa_cons (se_name 14) sa_nil))))
    (ss_seq (ss_if (sb_or (sb_not (sb_val (se_call (fun _ => .nil) (sa_cons (se_name 15) sa_nil)))) (sb_or (sb_test (se_neC (se_name 14) (se_name 7))) (sb_test (se_bin os_ne (se_name 15) (se_callP (fun _ => .nil) (sa_cons (se_name 3) (sa_cons (se_name 7) sa_nil))))))) (ss_ret se_bl) ss_nil)
    (ss_seq (ss_for (si_seq (se_name 15)) (st_name 11) (ss_if (sb_test (se_bin os_ne (se_tup (sa_cons (se_bin os_ix (se_name 11) se_int) (sa_cons (se_bin os_ix (se_name 11) se_int) sa_nil))) (se_ixC (se_name 6) (se_bin os_ix (se_name 11) se_int)))) (ss_ret se_bl) ss_nil))
    (ss_seq (ss_if (sb_test (se_bin (os_B fun i j => decide (j < i)) (se_cl cs_len (sa_cons (se_lc (vs := [11]) (si_seq (se_name 9)) (st_name 11) (sb_test (se_bin os_notInT (se_name 11) (se_name 15))) (se_name 11) (by decide)) sa_nil)) se_int)) (ss_ret se_bl) ss_nil)
    (ss_set (i := 9) (se_name 15))))))))))))))
    (ss_seq (ss_if (sb_test (se_bin os_ne (se_call (fun _ => .nil) (sa_cons (se_ixC (se_name 7) (se_name 8)) (sa_cons se_str (sa_cons (se_tup sa_nil) (sa_cons se_int sa_nil))))) (se_cl cs_tuple (sa_cons (se_sorted (sa_cons (se_bin os_add (se_cl cs_list (sa_cons (se_ixC (se_name 7) (se_name 8)) sa_nil)) (se_lst (sa_cons (se_tup (sa_cons se_str (sa_cons (se_tup sa_nil) (sa_cons se_int sa_nil)))) sa_nil))) sa_nil)) sa_nil)))) (ss_ret se_bl) ss_nil)
    (ss_seq (ss_set (i := 16) (se_callB (i := 1) (sa_cons (se_cl cs_len (sa_cons (se_ixC (se_name 7) (se_name 8)) sa_nil)) sa_nil)))
    (ss_seq (ss_own (i := 17) (se_cl cs_list (sa_cons (se_ixC (se_name 7) (se_name 8)) sa_nil)))
    (ss_seq (ss_putI (i := 17) (se_tup (sa_cons (se_bin os_ix (se_bin os_ix (se_name 17) (se_name 16)) se_int) (sa_cons (se_bin os_ix (se_bin os_ix (se_name 17) (se_name 16)) se_int) (sa_cons (se_bin os_add (se_bin os_add (se_bin os_ix (se_bin os_ix (se_name 17) (se_name 16)) se_int) se_int) (se_callB (i := 1) (sa_cons se_int sa_nil))) sa_nil)))) (se_name 16))
    (ss_seq (ss_set (i := 18) (se_bin os_ix (se_name 17) (se_name 16)))
    (ss_seq (ss_if (sb_test (se_bin os_ne (se_call (fun _ => .nil) (sa_cons (se_cl cs_tuple (sa_cons (se_name 17) sa_nil)) (sa_cons (se_bin os_ix (se_name 18) se_int) (sa_cons (se_bin os_ix (se_name 18) se_int) (sa_cons (se_bin (os_I fun i j => i - j) (se_bin os_ix (se_name 18) se_int) se_int) sa_nil))))) (se_cl cs_tuple (sa_cons (se_name 17) sa_nil)))) (ss_ret se_bl) ss_nil)
    (ss_seq (ss_putC (i := 7) (se_cl cs_tuple (sa_cons (se_name 17) sa_nil)) (se_name 8))
    (ss_seq (ss_dck (i := 19))
    (ss_seq (ss_for (si_seq (se_srtR (se_name 7))) (st_name 20) (ss_putC (i := 19) (se_ixC (se_name 7) (se_name 20)) (se_name 20)))
    (ss_ret (se_and (se_bin os_eq (se_call (fun _ => .nil) (sa_cons (se_name 5) (sa_cons (se_name 19) sa_nil))) (se_callP (fun _ => .nil) (sa_cons (se_name 3) (sa_cons (se_name 7) sa_nil)))) (se_bin os_eq (se_call (fun _ => .nil) (sa_cons (se_name 5) (sa_cons se_dic0 sa_nil))) (se_tup sa_nil))))))))))))))))))))))) h) (PSs.nox (pss_cons (ps_set (i := 1) nd rfl (Or.inl rfl) (pe_dn (ok_bag T) (Room.mono hr (by decide)) rfl pass0 (pa_cons (pv 0) pa_nil)))
    (pss_cons (ps_set (i := 2) nd rfl (Or.inl rfl) (pe_op opAddA pe_int (pe_dn (dn_draw T) (Room.mono hr (by decide)) rfl pass0 (pa_cons (pv 1) (pa_cons pe_int pa_nil)))))
    (pss_cons (ps_set (i := 3) nd rfl (Or.inl rfl) (pe_dn (dn_law_wide_order T) (Room.mono hr (by decide)) rfl pass0 (pa_cons (pv 1) (pa_cons (pv 2) (pa_cons pe_int (pa_cons pe_int pa_nil))))))
    (pss_cons (ps_set (i := 4) nd rfl (Or.inl rfl) (pe_dn (dn_law_made_world T) (Room.mono hr (by decide)) rfl pass0 (pa_cons (pv 1) (pa_cons (pv 3) pa_nil))))
    (pss_cons (ps_set (i := 5) nd rfl (Or.inl rfl) (pe_dn (dn_law_order_of T) (Room.mono hr (by decide)) rfl pass0 (pa_cons (pv 3) pa_nil)))
    (pss_cons (ps_set (i := 6) nd rfl (Or.inl rfl) (pe_dn (dn_law_true T) (Room.mono hr (by decide)) rfl pass0 (pa_cons (pv 3) (pa_cons (pv 4) pa_nil))))
    (pss_cons (ps_set (i := 7) nd rfl (Or.inl rfl) pe_dnewK)
    (pss_cons (ps_for PassesOwn.never rfl (pi_range2 rfl T.b_range (pa_cons pe_int (pa_cons (pe_op opAddA (pv 2) pe_int) pa_nil))) (pg_name (i := 8) nd rfl (Or.inl rfl)) (pss_one (ps_if (pt_cmpR (op_eqD hr.units) (pe_dn (dn_draw T) (Room.mono hr (by decide)) rfl pass0 (pa_cons (pv 1) (pa_cons pe_int pa_nil))) pe_int (nomark _)) (pss_one (ps_dput (DL.Room.u1 hr) (pv 7) (pv 8) (pe_tup pa_nil) rfl)) pss_nil)))
    (pss_cons (ps_set (i := 9) nd rfl (Or.inl rfl) (pe_tup pa_nil))
    (pss_cons (ps_for PassesOwn.never rfl (pi_range1 rfl T.b_range (pa_cons (pe_op opAddA pe_int (pe_dn (dn_draw T) (Room.mono hr (by decide)) rfl pass0 (pa_cons (pv 1) (pa_cons pe_int pa_nil)))) pa_nil)) (pg_name (i := 10) nd rfl (Or.inl rfl)) (pss_cons (ps_asg (pe_dn (dn_law_grown T) (Room.mono hr (by decide)) rfl pass0 (pa_cons (pv 1) (pa_cons (pv 3) (pa_cons (pv 4) (pa_cons (pv 7) pa_nil))))) (pg_tup rfl (pgs_cons (pg_name (i := 8) nd rfl (Or.inl rfl)) (pgs_cons (pg_name (i := 11) nd rfl (Or.inl rfl)) pgs_nil))))
    (pss_cons (ps_set (i := 12) nd rfl (Or.inl rfl) (pe_ifExp (pt_cmp (pc_din (DL.Room.u1 hr) (pv 8) (pv 7)) rfl) (pe_dget (DL.Room.u1 hr) (pv 7) (pv 8) (fun _ _ => rfl)) (pe_tup pa_nil)))
    (pss_cons (ps_set (i := 13) nd rfl (Or.inl rfl) (pe_dn (dn_with_answer T) (Room.mono hr (by decide)) rfl pass0 (pa_cons (pv 12) (pa_cons (pe_ix ix_seq (pv 11) pe_int (fun _ _ => rfl)) (pa_cons (pe_ix ix_seq (pv 11) pe_int (fun _ _ => rfl)) (pa_cons (pe_ix ix_seq (pv 11) pe_int (fun _ _ => rfl)) pa_nil))))))
    (pss_cons (ps_if (PW.pt (pw_or (pt_cmpR (op_neD hr.units) (pv 13) (pe_dn (dn_law_put T) (Room.mono hr (by decide)) rfl pass0 (pa_cons (pv 12) (pa_cons (pv 11) pa_nil))) (nomark _)) (pw_or1 (pt_not (pt_val (pe_dn (dn_law_are_entries T) (Room.mono hr (by decide)) rfl pass0 (pa_cons (pv 13) pa_nil))))))) (pss_one (ps_ret pe_bl)) pss_nil)
    (pss_cons (ps_if (PW.pt (pw_or (pt_cmpR (op_neD hr.units) (pe_dn (dn_entry_value T) (Room.mono hr (by decide)) rfl pass0 (pa_cons (pv 13) (pa_cons (pe_ix ix_seq (pv 11) pe_int (fun _ _ => rfl)) (pa_cons (pe_ix ix_seq (pv 11) pe_int (fun _ _ => rfl)) pa_nil)))) (pe_ix ix_seq (pv 11) pe_int (fun _ _ => rfl)) (nomark _)) (pw_or1 (pt_cmp (pc_notN (pe_dn (dn_entry_value T) (Room.mono hr (by decide)) rfl pass0 (pa_cons (pv 13) (pa_cons (pe_ix ix_seq (pv 11) pe_int (fun _ _ => rfl)) (pa_cons (pe_op opAddA (pe_ix ix_seq (pv 11) pe_int (fun _ _ => rfl)) (pe_tup (pa_cons pe_int pa_nil))) pa_nil))))) rfl)))) (pss_one (ps_ret pe_bl)) pss_nil)
    (pss_cons (ps_dput (DL.Room.u1 hr) (pv 7) (pv 8) (pv 13) rfl)
    (pss_cons (ps_set (i := 14) nd rfl (Or.inl rfl) (pe_callTy DL.call_cpyD rfl T.b_dict (by decide +kernel) (pa_cons (pv 7) pa_nil)))
    (pss_cons (ps_set (i := 15) nd rfl (Or.inr rfl) (pe_dn (dn_play T) (Room.mono hr (by decide)) rfl pass0 (pa_cons (pv 5) (pa_cons (pv 14) pa_nil))))
    (pss_cons (ps_if (PW.pt (pw_or (pt_not (pt_val (pe_dn (dn_law_are_entries T) (Room.mono hr (by decide)) rfl pass0 (pa_cons (pv 15) pa_nil)))) (pw_or (pt_cmpR (DL.op_neDK (Room.u65 hr)) (pv 14) (pv 7) (nomark _)) (pw_or1 (pt_cmpR (op_neD hr.units) (pv 15) (pe_dn (dn_law_due_play T) (Room.mono hr (by decide)) rfl pass0 (pa_cons (pv 3) (pa_cons (pv 7) pa_nil))) (nomark _)))))) (pss_one (ps_ret pe_bl)) pss_nil)
    (pss_cons (ps_for PassesOwn.never rfl (pi_seq (pv 15)) (pg_name (i := 11) nd rfl (Or.inl rfl)) (pss_one (ps_if (pt_cmpR (op_neD hr.units) (pe_tup (pa_cons (pe_ix ix_seq (pv 11) pe_int (fun _ _ => rfl)) (pa_cons (pe_ix ix_seq (pv 11) pe_int (fun _ _ => rfl)) pa_nil))) (pe_dget (DL.Room.u1 hr) (pv 6) (pe_ix ix_seq (pv 11) pe_int (fun _ _ => rfl)) (fun _ _ => rfl)) (nomark _)) (pss_one (ps_ret pe_bl)) pss_nil)))
    (pss_cons (ps_if (pt_cmpR op_gt (pe_callB call_len rfl T.b_len (by decide +kernel) (pa_cons (pe_lc (own := [("entry", 11)]) rfl nd (pi_seq (pv 9)) (blkOk_by (own := [("entry", 11)]) (N := N) (sc := sc) (by decide +kernel)) (fun _ _ _ _ _ => (pg_name (i := 11) nd rfl (Or.inl rfl))) (fun _ _ _ _ _ => (pts_one (pt_cmpR (DL.op_notInT (Room.u65 hr)) (pv 11) (pv 15) rfl))) (fun _ _ _ _ _ => (pv 11))) pa_nil)) pe_int (nomark _)) (pss_one (ps_ret pe_bl)) pss_nil)
    (pss_one (ps_set (i := 9) nd rfl (Or.inl rfl) (pv 15)))))))))))))))
    (pss_cons (ps_if (pt_cmpR (op_neD hr.units) (pe_dn (dn_with_answer T) (Room.mono hr (by decide)) rfl pass0 (pa_cons (pe_dget (DL.Room.u1 hr) (pv 7) (pv 8) (fun _ _ => rfl)) (pa_cons pe_str (pa_cons (pe_tup pa_nil) (pa_cons pe_int pa_nil))))) (pe_callTy call_tuple_of rfl T.b_tuple (by decide +kernel) (pa_cons (pe_callB (cr_sortedD hr.units) rfl T.b_sorted (by decide +kernel) (pa_cons (pe_op opAddA (pe_callTy call_list_of rfl T.b_list (by decide +kernel) (pa_cons (pe_dget (DL.Room.u1 hr) (pv 7) (pv 8) (fun _ _ => rfl)) pa_nil)) (pe_lst (pa_cons (pe_tup (pa_cons pe_str (pa_cons (pe_tup pa_nil) (pa_cons pe_int pa_nil)))) pa_nil))) pa_nil)) pa_nil)) (nomark _)) (pss_one (ps_ret pe_bl)) pss_nil)
    (pss_cons (ps_set (i := 16) nd rfl (Or.inl rfl) (pe_dn (dn_draw T) (Room.mono hr (by decide)) rfl pass0 (pa_cons (pv 1) (pa_cons (pe_callB call_len rfl T.b_len (by decide +kernel) (pa_cons (pe_dget (DL.Room.u1 hr) (pv 7) (pv 8) (fun _ _ => rfl)) pa_nil)) pa_nil))))
    (pss_cons (ps_set (i := 17) nd rfl (Or.inl rfl) (pe_callTy call_list_of rfl T.b_list (by decide +kernel) (pa_cons (pe_dget (DL.Room.u1 hr) (pv 7) (pv 8) (fun _ _ => rfl)) pa_nil)))
    (pss_cons (ps_asg (pe_tup (pa_cons (pe_ix ix_seq (pe_ix ix_seq (pv 17) (pv 16) (fun _ _ => rfl)) pe_int (fun _ _ => rfl)) (pa_cons (pe_ix ix_seq (pe_ix ix_seq (pv 17) (pv 16) (fun _ _ => rfl)) pe_int (fun _ _ => rfl)) (pa_cons (pe_op opAddA (pe_op opAddA (pe_ix ix_seq (pe_ix ix_seq (pv 17) (pv 16) (fun _ _ => rfl)) pe_int (fun _ _ => rfl)) pe_int) (pe_dn (dn_draw T) (Room.mono hr (by decide)) rfl pass0 (pa_cons (pv 1) (pa_cons pe_int pa_nil)))) pa_nil)))) (pg_sub (pv 17) (pv 16) set_list))
    (pss_cons (ps_set (i := 18) nd rfl (Or.inl rfl) (pe_ix ix_seq (pv 17) (pv 16) (fun _ _ => rfl)))
    (pss_cons (ps_if (pt_cmpR (op_neD hr.units) (pe_dn (dn_with_answer T) (Room.mono hr (by decide)) rfl pass0 (pa_cons (pe_callTy call_tuple_of rfl T.b_tuple (by decide +kernel) (pa_cons (pv 17) pa_nil)) (pa_cons (pe_ix ix_seq (pv 18) pe_int (fun _ _ => rfl)) (pa_cons (pe_ix ix_seq (pv 18) pe_int (fun _ _ => rfl)) (pa_cons (pe_op op_sub (pe_ix ix_seq (pv 18) pe_int (fun _ _ => rfl)) pe_int) pa_nil))))) (pe_callTy call_tuple_of rfl T.b_tuple (by decide +kernel) (pa_cons (pv 17) pa_nil)) (nomark _)) (pss_one (ps_ret pe_bl)) pss_nil)
    (pss_cons (ps_dput (DL.Room.u1 hr) (pv 7) (pv 8) (pe_callTy call_tuple_of rfl T.b_tuple (by decide +kernel) (pa_cons (pv 17) pa_nil)) rfl)
    (pss_cons (ps_set (i := 19) nd rfl (Or.inl rfl) pe_dnewK)
    (pss_cons (ps_for PassesOwn.never rfl (pi_seq (pe_callBK (DL.cr_sortedDR rfl) rfl T.b_sorted (by decide +kernel) (pa_cons (pv 7) pa_nil) (pk_cons pe_bl pk_nil))) (pg_name (i := 20) nd rfl (Or.inl rfl)) (pss_one (ps_dput (DL.Room.u1 hr) (pv 19) (pv 20) (pe_dget (DL.Room.u1 hr) (pv 7) (pv 20) (fun _ _ => rfl)) rfl)))
    (pss_one (ps_ret (pe_and (pe_cmpR (op_eqD hr.units) (pe_dn (dn_play T) (Room.mono hr (by decide)) rfl pass0 (pa_cons (pv 5) (pa_cons (pv 19) pa_nil))) (pe_dn (dn_law_due_play T) (Room.mono hr (by decide)) rfl pass0 (pa_cons (pv 3) (pa_cons (pv 7) pa_nil))) (nomark _)) (pe_one (pe_cmpR (op_eqD hr.units) (pe_dn (dn_play T) (Room.mono hr (by decide)) rfl pass0 (pa_cons (pv 5) (pa_cons pe_dnewK pa_nil))) (pe_tup pa_nil) (nomark _)))))))))))))))))))))))))))
  · obtain ⟨a, ns, rfl, _⟩ := h
    rfl
end
end K21
set_option maxHeartbeats 0
namespace K21
open PySem PySem.Spec PyProof.Rows L2
abbrev R : PySem.W.OpenRow := PySem.W.OpenLaw.row PySem.Challenge.rw_askedtrue_k21_whole_plays_of_tables_of_a
abbrev hk : PySem.W.Hook := Ax.hookT 5 fa fn exA gs []
def ob (s : PySem.W.SharedT) : Ax.AlT := Ax.obsT 5 fa fn exA gs [] (HandSHeadRun.getT s)
theorem ob_eq (s : PySem.W.SharedT) : ob s = hk.obs s.abs := Ax.obsT_eq (HandSHeadRun.getT_eq s)
def loose : List Str := [("_wall" : Str), ("__name__" : Str), ("AskedError" : Str), ("BadOrder" : Str), ("LETTERS" : Str), ("SIGNS" : Str), ("KINDS" : Str), ("LONGEST_NAME" : Str), ("MOST_EVENTS" : Str), ("MOST_NEEDS" : Str), ("LAST_END" : Str), ("is_whole" : Str), ("is_between" : Str), ("is_name" : Str), ("Event" : Str), ("Order" : Str), ("event_fault" : Str), ("are_needs" : Str), ("entry_value" : Str), ("with_answer" : Str), ("play" : Str), ("_law_bag" : Str), ("_law_draw" : Str), ("_law_order" : Str), ("_law_made_world" : Str), ("_law_answer" : Str), ("_law_true" : Str), ("_law_order_of" : Str), ("_law_is_whole" : Str), ("_law_is_entry" : Str), ("_law_are_entries" : Str), ("_law_find" : Str), ("_law_walk" : Str), ("_law_wide_order" : Str), ("_law_due_play" : Str), ("_law_put" : Str), ("_law_grown" : Str)]
theorem run (w : World) : HandSHeadRun.RunEq R (PySem.W.view R.prog [41]) hk ob 3000 loose w := by
  intro os
  kernel_rfl
end K21
set_option maxHeartbeats 0
namespace K21
open PySem PySem.Spec PyProof.Rows L2 Ax DL
theorem facts {l : PySem.W.OpenLaw} {w : World} {h : Heap} {mg : Str → Option Value} {f : Addr} (G : h.Ns mainGlobals mg) (hfa : mg ("law" : Str) = some (.ref f)) (Y : ∃ K : PySem.W.Frag, K.In h ∧ Ax.SaysP fa fn exA gs K ∧ ∀ p ∈ ([] : List (Str × Option Str)), Ax.TabAt h K p) :
    ∃ K : PySem.W.Frag, K.In h ∧ LamX.LawAtS l w K CX0 7 63 "script" mg f h := by
  obtain ⟨K, KX, c, tb⟩ := Y
  have T : Tx w K mg := ⟨h, KX, G, c⟩
  have e := hfa.symm.trans T.g_law
  cases e
  obtain ⟨fd, F⟩ := T.f_law
  have b := FunD.bindsA (ps := ["script"]) F fun _ _ _ _ _ _ us hl => match us, hl with | [_], _ => rfl
  refine ⟨K, KX, fd, [], spLaw K, (fun p hp => nomatch hp), (fun p hp => nomatch hp), (fun p hp => nomatch hp), fun s v => b s [v] rfl, ?_, fun base _ _ TB => ok_law T F⟩
  intro H a ns hl _ hT hS
  exact ⟨a, ns, rfl, hS, hl, fun _ => rfl⟩
end K21
open PySem PySem.W PySem.Calls PyProof.Rows
theorem PySem.Challenge.cw_askedtrue_k21_whole_plays_of_tables_of_a_holds : PySem.Challenge.rw_askedtrue_k21_whole_plays_of_tables_of_a.Holds := by
  w_on; o_law
  refine HandSHeadRun.head_any (r := OpenLaw.row PySem.Challenge.rw_askedtrue_k21_whole_plays_of_tables_of_a) (q := view (OpenLaw.row PySem.Challenge.rw_askedtrue_k21_whole_plays_of_tables_of_a).prog [41]) (H := K21.hk) (ob := K21.ob) (M := 3000) (loose := K21.loose) (d := HandSHeadRun.topDef (OpenLaw.row PySem.Challenge.rw_askedtrue_k21_whole_plays_of_tables_of_a).prog 41) (kwd := []) K21.ob_eq
    (by kernel_rfl) (fun s => by kernel_rfl) K21.run (by kernel_rfl) (by kernel_rfl) (by kernel_rfl) (by rfl) (by first | assumption | decide +kernel) (by decide +kernel) ⟨rfl, rfl, rfl, rfl, rfl, by decide +kernel⟩ ?hw ?hc
  case hw => w_witness2
  case hc =>
    refine LamX.walk_ofTsE (l := PySem.Challenge.rw_askedtrue_k21_whole_plays_of_tables_of_a) (n := 63) (k := 7) (x := "script") (CX := fun _ => L2.CX0) rfl (by decide) (by kernel_rfl) ⟨rfl, by decide, by decide⟩ ?F (fun _ _ _ _ _ z => z)
    intro w mg fa h Y G hmg0
    have hmg : mg ("law" : PySem.Str) = some (.ref fa) := by
      have e : (HandSHeadRun.topDef (OpenLaw.row PySem.Challenge.rw_askedtrue_k21_whole_plays_of_tables_of_a).prog 41).name = ("law" : PySem.Str) := by kernel_rfl
      rw [← e]
      exact hmg0
    exact K21.facts G hmg Y
