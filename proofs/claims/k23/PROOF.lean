import PyProof.Rows.All
import Wide.All
import OpenK.AllK
import Wide.FinOn
import HandS.ForMost
import HandS.Defaults
import HandS.Exc
import HandS.ExcOwn
import HandS.ExcInit
import HandS.ExcField
import HandS.TryMany
import HandS.TryOnly
import HandS.Star
import HandS.ClsMeth
import HandS.OwnEq
import HandS.IsInst
import HandS.NoneIn
import HandS.TupAny
import HandS.Deep
import HandS.WordsExc
import HandS.Codes
import HandS.IterVal
import HandS.IterNext
import HandS.TupLen
import HandS.DictTup
import KE.KDictKeyed
import HandS.SortRule
import KE.SortData
import HandS.Comp
import HandS.DictComp
import HandS.HeadHook4
import HandS.Walk
import KE.DataFind
import KE.GoesMore
import KE.GoesEnum
import HandS.Property
import HandS.RevTup
import HandS.Lambda
import HandS.Iter
import HandS.SortKw
import HandS.Wide
import HandS.MakeKw
import KE.DataMinMax
import HandS.Head0
import HandS.Head1
import HandS.Head2
import HandS.HeadEnd
import KE.DatumOrd
import PySem.Challenge.RW_askedtrue_k23_whole_sure_in_all_ways_to
set_option Elab.async false
set_option linter.all false
set_option maxRecDepth 100000
set_option maxHeartbeats 4000000
/-! Rules of my own over the layer: a def read off its class and called. -/
namespace Ax
open PySem PySem.Spec PyProof.Rows L2
/-- the def at g stands in the class at C under the name m, plainly read -/
structure ClsFn (K : PySem.W.Frag) (C : Addr) (m : Str) (g : Addr) : Prop where
  rd : ∃ mc, ClX.CRead K C mc ∧ ClX.CVal K C mc m (.ref g) (.ref g)
  kp : PySem.W.keepIn K (.ref g) = true
section
variable {X : Cx} {CX : CXT} {k : Nat} {C g : Addr} {sp : Sp} {E : XK} {o e : Expr} {es : List Expr} {m : Str} {pos apos : Pos} {ta : TE} {t : TA} {pl : Sem Bool}
/-- C.m(e, ..) -/
def tClsFn (C : Addr) (sp : Sp) (E : XK) (ta : TE) (t : TA) : TE := fun σ H Q => ta σ H fun x H1 => x = .ref C ∧ t σ H1 fun vs H2 => sp vs H2 Q E
theorem pe_clsfn (he : PE X o ta) (r : ClsFn X.K C m g) (F : FnR X.prog X.w X.K X.mg X.base CX k g sp) (hr : Room k X.A) (hx : Passes CX X E) (ha : PA X (e :: es) t)
    (hst : starEach (e :: es) X.env = (false, eval e X.env) :: starEach es X.env := by rfl) (hpl : (backTo pos (starEach es X.env)).any (·.1) = false := by rfl)
    (ht : eval (.Call (.Attribute o m apos) (e :: es) [] pos) X.env = (do
      let ov ← eval o X.env
      standAt apos.atName
      let (f, first) ← holding [ov] (getMethod ov m pl)
      callWith pos f first (backTo pos (starEach (e :: es) X.env)) (backToKw pos (keywordEach [] X.env))) := by rfl) :
    PE X (.Call (.Attribute o m apos) (e :: es) [] pos) (tClsFn C sp E ta t) := by
  obtain ⟨mc, rd, cv⟩ := r.rd
  constructor
  intro pins s σ H Q I h
  refine PySem.W.methodCall_KW (pl := pl) (thn (he.run pins s σ H _ I h) fun u s1 got => ?_) ht
  obtain ⟨x, H1, I1, rx, ex, q⟩ := got
  subst ex
  obtain rfl : u = Value.ref C := rx
  refine PySem.W.method_cls I1.kIn rd.ga (ClX.getcval_ok I1 rd cv fun s2 I2 => ?_)
  refine PySem.W.callWith_K (h₀ := X.base) I2.ok.mod.kin r.kp (thn (ha.run pos pins s2 σ H1 _ I2 q) fun us s3 more => ?_) hst hpl
  obtain ⟨vs, H2, I3, rv, q2⟩ := more
  exact ⟨I3.kIn, wpAny_call (run_fnR F hr hx I3 rv q2)⟩
end
end Ax
set_option maxHeartbeats 4000000
/-! == and != of instances by their class's own __eq__, whatever it answers. -/
namespace Ax
open PySem PySem.Spec PyProof.Rows L2
section
variable {X : Cx} {CX : CXT} {n : Nat} {C D f : Addr} {fd : FuncData} {ps : List Str} {sp : Sp} {E : XK} {pins : List (Addr × Obj)} {σ : L2.St} {H : Hp} {s : Shared} {Q : VK} {A : Around}
/-- a def called below the running body -/
theorem run_in {us : List Value} {vs : List V} (F : FnOk X.prog X.w X.K X.mg X.base CX n f fd ps sp) (hb : Binds X.K fd ps []) (hx : Passes CX X E) (sb : L2.Sub X n A)
    (I : Inv X pins σ H s) (r : Vals vs us) (h : sp vs H Q E) : wpAny (model X.prog X.w) A (call (.ref f) us) (EP X pins σ Q) X.xe s := by
  have e0 : Env0 X.prog X.w X.K X.mg X.base A X.stack s H := by
    obtain ⟨a1, a2, a3, a4, a5, a6, a7, a8⟩ := I.env0
    exact ⟨by rw [sb.fr]; exact a1, a2, a3, a4, a5, a6, a7, a8⟩
  have hl : us.length = ps.length := by rw [← r.length]; exact F.len _ _ _ _ h
  have bt : BindsTo s fd ⟨us, []⟩ (ps.zip us) := by
    have q := hb s us I.kIn (by rw [List.append_nil]; exact hl)
    rw [List.append_nil] at q
    exact q
  refine wpAny_call (codeAny_mono (F.run A X.stack s H ⟨us, []⟩ us vs Q E sb.room e0 bt r h) fun rr s' hq => ?_)
  cases rr with
  | error er => exact hx pins σ H s er s' I hq
  | ok fl =>
    cases fl with
    | ret u => exact I.after hq
    | next => exact hq.elim
    | brk => exact hq.elim
    | cont => exact hq.elim
/-- what the class must have -/
structure EqC (K : PySem.W.Frag) (C f : Addr) : Prop where
  eq : PySem.W.findIn K (.ref C) "__eq__" = some (some (.ref f))
  fn : PySem.W.isFn K (.ref f) = true
  ne : PySem.W.findIn K (.ref C) "__ne__" = some (some (.builtin "object.__ne__"))
  ob : PySem.W.subIn K (.ref C) (.type "object") = some true
/-- x == y by C's own __eq__, of which sp tells; y an instance of the class at D -/
def rOwnEq (K : PySem.W.Frag) (C : Addr) (sp : Sp) (E : XK) : R2 := fun x y H Q => ∃ (a b D dx dy : Addr) (fs gs : List (Str × V)), x = .ref a ∧ y = .ref b ∧ H a = some (.ins C dx fs) ∧ H b = some (.ins D dy gs) ∧ PySem.W.notFirst K C (.ref D) = true ∧
  sp [x, y] H (fun v H' => ∃ k, v = .bl k ∧ Q (.bl k) H') E
def rOwnNe (K : PySem.W.Frag) (C : Addr) (sp : Sp) (E : XK) : R2 := fun x y H Q => ∃ (a b D dx dy : Addr) (fs gs : List (Str × V)), x = .ref a ∧ y = .ref b ∧ H a = some (.ins C dx fs) ∧ H b = some (.ins D dy gs) ∧ PySem.W.notFirst K C (.ref D) = true ∧
  sp [x, y] H (fun v H' => ∃ k, v = .bl k ∧ Q (.bl (!k)) H') E
theorem op_ownEq (F : FnOk X.prog X.w X.K X.mg X.base CX n f fd ps sp) (hb : Binds X.K fd ps []) (hx : Passes CX X E) (hr : Room n X.A) (c : EqC X.K C f) : OpR X (compareOp .Eq) (rOwnEq X.K C sp E) := by
  intro pins s σ H x y v u Q I rx ry h
  obtain ⟨a, b, D, dx, dy, fs, gs, rfl, rfl, ha, hb', hn, hq⟩ := h
  obtain rfl : v = Value.ref a := rx
  obtain rfl : u = Value.ref b := ry
  obtain ⟨m1, J, _⟩ := ins_get I.hok ha
  obtain ⟨m2, J', _⟩ := ins_get I.hok hb'
  obtain ⟨od, J, _⟩ := J.look
  obtain ⟨od', J', _⟩ := J'.look
  obtain ⟨m, hF⟩ := I.fr
  show wpAny _ _ (richCompare .Eq _ _) _ _ _
  refine PySem.W.cmp_K (op := .Eq) hr.units0 hF I.ok.mod.kin J J'.type hn c.eq c.fn ?_
  refine wpAny_mono (run_in (us := [.ref a, .ref b]) (vs := [V.ref a, V.ref b]) F hb hx ⟨hr, rfl⟩ I (.cons rfl (.cons rfl .nil)) hq) (fun w s' z => ?_) fun _ _ z => z
  obtain ⟨v, H', I', rv, k, ev, q⟩ := z
  subst ev
  obtain rfl : w = Value.bool k := rv
  exact ⟨.bl k, H', I', rfl, q⟩
theorem arg_ne (p q : Value) : argsOk "object.__ne__" ⟨[p, q], []⟩ := PySem.F.cmpArgs_ne p q
theorem op_ownNe (F : FnOk X.prog X.w X.K X.mg X.base CX n f fd ps sp) (hb : Binds X.K fd ps []) (hx : Passes CX X E) (hr : Room (n + 1) X.A) (c : EqC X.K C f) : OpR X (compareOp .NotEq) (rOwnNe X.K C sp E) := by
  intro pins s σ H x y v u Q I rx ry h
  obtain ⟨a, b, D, dx, dy, fs, gs, rfl, rfl, ha, hb', hn, hq⟩ := h
  obtain rfl : v = Value.ref a := rx
  obtain rfl : u = Value.ref b := ry
  obtain ⟨m1, J, _⟩ := ins_get I.hok ha
  obtain ⟨m2, J', _⟩ := ins_get I.hok hb'
  obtain ⟨od, J, _⟩ := J.look
  obtain ⟨od', J', _⟩ := J'.look
  have Xk := I.kIn
  -- the own __eq__, asked by object.__ne__
  have inner : wpAny (model X.prog X.w) X.A.in1 (callSpecialIfBound? (.ref a) "__eq__" [.ref b]) (fun r s' => ∃ k H', r = some (.bool k) ∧ Inv X pins σ H' s' ∧ Q (.bl (!k)) H') X.xe s := by
    refine PySem.W.ifBound_K Xk J c.eq c.fn ?_
    refine wpAny_mono (run_in (us := [.ref a, .ref b]) (vs := [V.ref a, V.ref b]) F hb hx ⟨hr.in1, rfl⟩ I (.cons rfl (.cons rfl .nil)) hq) (fun w s' z => ?_) fun _ _ z => z
    obtain ⟨v, H', I', rv, k, ev, q⟩ := z
    subst ev
    obtain rfl : w = Value.bool k := rv
    exact ⟨k, H', rfl, I', q⟩
  have body : wpAny (model X.prog X.w) X.A.in1 (Builtin.«object.__ne__» ⟨[.ref a, .ref b], []⟩) (fun r s' => ∃ k H', r = .done (.ret (.bool (!k))) ∧ Inv X pins σ H' s' ∧ Q (.bl (!k)) H') X.xe s := by
    unfold Builtin.«object.__ne__»
    repeat (first
      | with_reducible refine wpAny_cRoomFor hr.in1.units0 ?_
      | (refine wpAny_bind (m := callSpecialIfBound? (.ref a) (Str.ofString "__eq__") [.ref b]) (wpAny_mono inner (fun r s' z => ?_) fun _ _ z => z)
         obtain ⟨k, H', er, I', q⟩ := z
         subst er
         repeat (first | exact ⟨k, H', rfl, I', q⟩ | exact wpAny_pure ⟨k, H', rfl, I', q⟩ | (refine wpAny_bind (m := truthy (.bool _)) (wpAny_truthy_bool ?_)) | wp_step))
      | wp_step)
  have obj : PySem.W.Looks (model X.prog X.w) s.heap (isInstance (.ref a) (.type "object")) true := J.type.andThen (PySem.W.looks_subIn Xk c.ob)
  have callNe : wpAny (model X.prog X.w) X.A (call (.builtin "object.__ne__") [.ref a, .ref b]) (fun r s' => ∃ k H', r = .bool (!k) ∧ Inv X pins σ H' s' ∧ Q (.bl (!k)) H') X.xe s := by
    refine wpAny_call (codeAny_call_builtin PySem.F.cmp_object.ne.plain PySem.F.cmpEntry_ne (PySem.W.check_slot PySem.F.cmpKind_ne PySem.F.cmpSplit_ne obj (arg_ne _ _) (wpAny_mono body (fun r s' z => ?_) fun _ _ z => z)))
    obtain ⟨k, H', er, I', q⟩ := z
    subst er
    exact ⟨k, H', rfl, I', q⟩
  have bound : wpAny (model X.prog X.w) X.A (callSpecialIfBound? (.ref a) "__ne__" [.ref b]) (fun r s' => ∃ k H', r = some (.bool (!k)) ∧ Inv X pins σ H' s' ∧ Q (.bl (!k)) H') X.xe s := by
    simp only [callSpecialIfBound?, bindSpecialIfBound?]
    refine wpAny_holding (wpAny_bind (wpAny_bind (wpAny_bind (J.type.here ((PySem.W.looks_findIn Xk c.ne).here ?_)))))
    simp only [PySem.F.cmp_object.ne.bind]
    refine wpAny_bind (wpAny_askSetting (wpAny_ite ?_))
    have fin : wpAny (model X.prog X.w) X.A (call (.builtin "object.__ne__") ([.ref a] ++ [.ref b]) >>= fun v => pure (some v)) (fun r s' => ∃ k H', r = some (.bool (!k)) ∧ Inv X pins σ H' s' ∧ Q (.bl (!k)) H') X.xe s :=
      wpAny_bind (wpAny_mono callNe (fun v s' z => by
        obtain ⟨k, H', er, I', q⟩ := z
        subst er
        exact wpAny_pure ⟨k, H', rfl, I', q⟩) fun _ _ z => z)
    split
    · exact wpAny_bind (wpAny_pure (wpAny_pure fin))
    · exact wpAny_tryCatch (wpAny_bind (wpAny_pure (wpAny_pure fin)))
  show wpAny _ _ (richCompare .NotEq _ _) _ _ _
  have one : wpAny (model X.prog X.w) X.A (tryCompare (.ref a) "__ne__" (.ref b)) (fun r s' => ∃ k H', r = some (.bool (!k)) ∧ Inv X pins σ H' s' ∧ Q (.bl (!k)) H') X.xe s := by
    unfold tryCompare
    refine wpAny_bind (wpAny_mono bound (fun r s' z => ?_) fun _ _ z => z)
    obtain ⟨k, H', er, I', q⟩ := z
    subst er
    exact wpAny_pure ⟨k, H', rfl, I', q⟩
  have fin : ∀ {r : Option Value} {s' : Shared}, (∃ k H', r = some (.bool (!k)) ∧ Inv X pins σ H' s' ∧ Q (.bl (!k)) H') → ∃ v, r = some v ∧ EP X pins σ Q v s' := fun {r s'} z => by
    obtain ⟨k, H', er, I', q⟩ := z
    exact ⟨_, er, .bl (!k), H', I', rfl, q⟩
  unfold richCompare
  simp only [oneThing_ref]
  refine wpAny_holding (wpAny_bind (wpAny_cRoomFor hr.units0 ?_))
  refine wpAny_bind (J.type.here (wpAny_bind (J'.type.here ?_)))
  split
  · rename_i q
    have e : PySem.W.subIn X.K (.ref D) (.ref C) = some false := by
      rcases Bool.or_eq_true_iff.mp hn with e | e
      · rw [beq_iff_eq.mp e] at q
        simp at q
      · exact beq_iff_eq.mp e
    refine wpAny_bind ((PySem.W.looks_subIn Xk e).here ?_)
    simp only [Bool.false_eq_true, if_false]
    refine wpAny_bind (wpAny_mono one (fun r s' z => ?_) fun _ _ e => e)
    obtain ⟨v, rfl, hq⟩ := fin z
    exact wpAny_pure hq
  · refine wpAny_bind (wpAny_pure ?_)
    simp only [Bool.false_eq_true, if_false]
    refine wpAny_bind (wpAny_mono one (fun r s' z => ?_) fun _ _ e => e)
    obtain ⟨v, rfl, hq⟩ := fin z
    exact wpAny_pure hq
end
end Ax
set_option maxHeartbeats 4000000
/-! for x in o, o an instance whose __iter__ is «return iter(self.f)», self.f a tuple. -/
namespace Ax
open PySem PySem.Spec PyProof.Rows L2
/-! ### a def run once, at a given state -/
section
variable {CX : CXT} {P : Program} {w : World} {K : PySem.W.Frag} {mg : Str → Option Value} {base : Heap} {k : Nat} {f : Addr} {name qual : Str} {params : Arguments} {body : List Stmt} {scope : Scope} {dV kV doc pm cdv ct oc : Value} {an od : Option Addr}
  {osl : Array (Option Value)} {N ps : List Str} {A : Around} {outer : List Env} {s : Shared} {H : Hp} {us : List Value} {vs : List V} {Q : VK} {E : XK}
theorem run_at (lk : K.lookup f = some ⟨oc, od, .func (PySem.W.fnOf name qual params body scope dV kV doc pm an cdv ct), osl⟩) (hcd : PySem.W.codeIn K cdv qual = true) (S : FnScope N ps scope) (hr : Room (k + 1) A)
    (e0 : Env0 P w K mg base A outer s H) (hb : BindsTo s (PySem.W.fnOf name qual params body scope dV kV doc pm an cdv ct) ⟨us, []⟩ (ps.zip us)) (hl : vs.length = ps.length) (r : Vals vs us)
    (hbody : Room k (A.deeper (envOfC qual scope s.heap.objs.size f cdv)) → ∃ t, PSs (cxOf CX P w K mg base N qual scope f cdv A outer s H E) body t ∧ t { nx := fun _ H' => Q .non H', rt := Q } (start N vs) H) :
    codeAny (model P w) A (.call (.ref f) ⟨us, []⟩) (CR CX outer P w H s Q E) s := by
  have kin : K.In s.heap := e0.mod.kin.keeps fun b o e => (e0.bs b o e).1
  have nolim : s.heap.NoLimit := e0.mod.nolimit.keeps fun b o e => (e0.bs b o e).1
  refine codeAny_call_function hr.depth (kin _ _ lk) rfl S.co S.gen rfl (PySem.W.codeRec_of kin hcd) (hb _ _ _ _ ?_)
  refine wpAny_newFunctionEnv_cells S.kind (fun y hy => ?_) fun env he s1 x => ?_
  · have hm : y.1 ∈ ps := (List.of_mem_zip hy).1
    cases S.par y.1 hm with
    | inl q => exact .inl q
    | inr q => exact .inr ⟨q, PySem.W.cellsFrom_some _ _ _ (.inl q)⟩
  subst he
  refine ⟨nolim.keeps x.toInCall.keep, codeAny_func ?_⟩
  obtain ⟨t, ht, hq⟩ := hbody (hr.deeper _)
  have I : Inv (cxOf CX P w K mg base N qual scope f cdv A outer s H E) [] (start N vs) H s1 := inv_start S hr.hd e0 hl r x
  refine wpAny_mono (ht.run [] s1 (start N vs) H _ I hq) (fun fl s' hs => ?_) fun _ _ z => z
  cases fl with
  | ret u =>
    obtain ⟨v, _, H', J, rv, q⟩ := hs
    exact ⟨v, H', J.os, J.bare, J.base, J.hok, rv, q⟩
  | next =>
    obtain ⟨_, H', J, q⟩ := hs
    exact ⟨.non, H', J.os, J.bare, J.base, J.hok, rfl, q⟩
  | brk =>
    obtain ⟨_, _, _, q⟩ := hs
    exact q.elim
  | cont =>
    obtain ⟨_, _, _, q⟩ := hs
    exact q.elim
end
/-! ### iter(t), t a tuple -/
/-- at it: an iterator over the tuple at t, at its beginning -/
def ItTup (t it : Addr) : HO := .ext fun h => h.IsTupleIter it t 0
theorem itTup_ok {P : Program} {w : World} {H : Hp} {h : Heap} {t it : Addr} (e : h.IsTupleIter it t 0) : ObjOk P w H h it (ItTup t it) := by
  obtain ⟨o, ho, hc, hd⟩ := id e
  exact ⟨e, ⟨o, ho⟩, fun h1 h2 x k => let ⟨o, ho, r⟩ := x; ⟨o, k o ho, r⟩⟩
def rIterT (K : PySem.W.Frag) (n : Nat) : List V → Hp → VK → Prop := fun xs H Q => ∃ (t : Addr) (zs : List V), xs = [.ref t] ∧ SqT K H t zs ∧ ∀ it, H it = Option.none → n ≤ it → Q (.ref it) (upd H it (ItTup t it))
theorem call_iterT {X : Cx} : CallR X (.builtin "iter") (rIterT X.K X.s_0.heap.objs.size) := by
  intro pins s σ H xs us Q I r h
  obtain ⟨t, zs, rfl, hq, q⟩ := h
  obtain ⟨u, rfl, ru⟩ := vals1 r
  obtain rfl : u = Value.ref t := ru
  obtain ⟨its, rv, p, hz⟩ := I.tuple hq
  refine Calls.call_function_entry (by decide +kernel) (by decide +kernel) PySem.W.kdk_entry_iter (PySem.W.kdk_args_iter _) ?_
  unfold Builtin.«iter»
  refine wpAny_bind (m := someArgs "iter" 1 2 _) (wpAny_of_eq (a := [Value.ref t]) (by first | rfl | kernel_rfl!) ?_)
  show wpAny _ _ (pyIter (.ref t) >>= _) _ _ _
  refine wpAny_bind (PyProof.Rows.iter_tuple (t := t) (items := its.toArray) p ?_)
  exact wpAny_pure ⟨_, rfl, .ref s.heap.objs.size, _, I.laid (t' := s.toks) (fun b u e => Heap.get?_push_of_some _ e) (Nat.le_refl _) (itTup_ok ⟨_, Heap.get?_push_size _ rfl, rfl, rfl⟩), rfl, q _ (I.hok.fresh (Nat.le_refl _)) I.sz⟩
/-! ### the walk -/
/-- C's __iter__ stands at f; its body is read so, wherever it runs -/
structure IterC (P : Program) (w : World) (K : PySem.W.Frag) (mg : Str → Option Value) (base : Heap) (C f : Addr) (fld : Str) : Prop where
  cl : Cls K C
  no : NoAttr K C fld
  it : PySem.W.findIn K (.ref C) "__iter__" = some (some (.ref f))
  fn : PySem.W.isFn K (.ref f) = true
  ex : ∃ (fd : FuncData) (name qual : Str) (params : Arguments) (body : List Stmt) (scope : Scope) (dV kV doc pm cdv ct oc : Value) (an od : Option Addr) (osl : Array (Option Value)),
    fd = PySem.W.fnOf name qual params body scope dV kV doc pm an cdv ct ∧ K.lookup f = some ⟨oc, od, .func fd, osl⟩ ∧ PySem.W.codeIn K cdv qual = true ∧ FnScope ["self"] ["self"] scope ∧
    (∀ (s : Shared) (u : Value), BindsTo s fd ⟨[u], []⟩ [("self", u)]) ∧
    ∀ (A : Around) (outer : List Env) (s : Shared) (H : Hp), PSs (cxOf CX0 P w K mg base ["self"] qual scope f cdv A outer s H E0) body (tRet (tCB (rIterT K s.heap.objs.size) (tCons (tFld K (tVar 0) fld) tNil)))
def iOwn (K : PySem.W.Frag) (C : Addr) (fld : Str) (to : TE) : TI := fun σ H R => to σ H fun x H1 => ∃ (a dx t : Addr) (fs : List (Str × V)), x = .ref a ∧ H1 a = some (.ins C dx fs) ∧ fs.lookup fld = some (.ref t) ∧ (∃ xs, SqT K H1 t xs) ∧ R (Itt K t) H1
section
variable {X : Cx} {o : Expr} {to : TE} {tg : Expr} {C f : Addr} {fld : Str}
theorem pi_own (he : PE X o to) (c : IterC X.prog X.w X.K X.mg X.base C f fld) (hr : Room 1 X.A) : PI X tg o (iOwn X.K C fld to) := by
  obtain ⟨fd, name, qual, params, body, scope, dV, kV, doc, pm, cdv, ct, oc, an, od, osl, rfl, lk, hcd, S, hb, hB⟩ := c.ex
  constructor
  intro pins s σ H R I h
  refine thn (he.run pins s σ H _ I h) fun u s1 got => ?_
  obtain ⟨x, H1, I1, rx, a, dx, t, fs, rfl, ha, hl, ⟨xs, hq⟩, q⟩ := got
  obtain rfl : u = Value.ref a := rx
  obtain ⟨mA, J, _⟩ := ins_get I1.hok ha
  obtain ⟨od', J, _⟩ := J.look
  obtain ⟨m, hF⟩ := I1.fr
  refine PySem.W.owit_iter hF I1.ok.mod.kin J c.it c.fn ?_
  have body_ : codeAny (model X.prog X.w) X.A (.call (.ref f) ⟨[.ref a], []⟩) (CR CX0 X.stack X.prog X.w H1 s1 (fun v H' => ∃ it, v = .ref it ∧ H' = upd H1 it (ItTup t it) ∧ H1 it = none ∧ s1.heap.objs.size ≤ it) E0) s1 := by
    refine run_at (k := 0) (us := [.ref a]) (vs := [V.ref a]) (ps := ["self"]) lk hcd S hr I1.env0 (hb _ _) rfl (.cons rfl .nil) (fun _ => ⟨_, hB X.A X.stack s1 H1, ?_⟩)
    refine ⟨_, rfl, a, C, dx, fs, _, rfl, ha, c.cl, c.no, hl, t, xs, rfl, hq, fun it hit hn => ?_⟩
    exact ⟨it, rfl, rfl, hit, hn⟩
  refine wpAny_call (codeAny_mono body_ fun rr s' hq' => ?_)
  cases rr with
  | error e => exact hq'.elim
  | ok fl =>
    cases fl with
    | next => exact hq'.elim
    | brk => exact hq'.elim
    | cont => exact hq'.elim
    | ret v =>
      obtain ⟨z, H', J', rz, it, ez, eH, hn, hsz⟩ := I1.after hq'
      subst ez
      subst eH
      obtain rfl : v = Value.ref it := rz
      have st : s'.heap.IsTupleIter it t 0 := (J'.hok it _ upd_same).1
      have K1 : Inv X pins σ H1 s' := by
        have z := ItX.inv_drop (φ := fun h => h.IsTupleIter it t 0) J' upd_same
        rw [ItX.dropH_upd hn] at z
        exact z
      unfold PySem.W.OwitIt
      obtain ⟨o', ho', hc', hd'⟩ := id st
      refine wpAny_specialOf (T := "tuple_iterator") ⟨o', ho', hc'⟩ PyProof.Rows.slot_tupleiter_next.lookup ?_
      refine ⟨it, [it], _, _, H1, rfl, K1, turn_tuple t it, st, fun b hb' => ?_, q⟩
      have e : b = it := by simpa using hb'
      rw [e]
      exact I1.fpOk hsz hn
end
end Ax
set_option maxHeartbeats 4000000
/-! Dicts whose keys are nested tuples. -/
namespace Ax
open PySem PySem.Spec PyProof.Rows L2
abbrev NK := NestedKey
mutual
def nkD : NK → PyData
  | .none => .none
  | .num i => .int i
  | .text x => .str x
  | .tup ks => .tuple (nkDs ks)
def nkDs : List NK → List PyData
  | [] => []
  | k :: ks => nkD k :: nkDs ks
end
mutual
theorem dp_ext {K : PySem.W.Frag} {H H' : Hp} (x : ∀ a o, H a = some o → H' a = some o) : ∀ {v : V} {d : PyData}, Dp K H v d → Dp K H' v d
  | _, _, .non => .non
  | _, _, .bl b => .bl b
  | _, _, .int i => .int i
  | _, _, .str s => .str s
  | _, _, .lst h g => .lst (h.ext x) (dpAll_ext x g)
  | _, _, .tup h g => .tup (h.ext x) (dpAll_ext x g)
theorem dpAll_ext {K : PySem.W.Frag} {H H' : Hp} (x : ∀ a o, H a = some o → H' a = some o) : ∀ {vs : List V} {ds : List PyData}, DpAll K H vs ds → DpAll K H' vs ds
  | _, _, .nil => .nil
  | _, _, .cons h g => .cons (dp_ext x h) (dpAll_ext x g)
end
section
variable {X : Cx} {pins : List (Addr × Obj)} {σ : L2.St} {H : Hp} {s : Shared}
mutual
theorem nested_is (I : Inv X pins σ H s) : ∀ (k : NK) (v : V) (u : Value), Dp X.K H v (nkD k) → RelV v u → NestedIs s.heap k u
  | .none, v, u, h, r => by
    cases h
    obtain rfl : u = .none := r
    exact .none
  | .num i, v, u, h, r => by
    cases h
    obtain ⟨t, rfl⟩ := r
    exact .int i t
  | .text x, v, u, h, r => by
    cases h
    obtain ⟨t, rfl⟩ := r
    exact .text x t
  | .tup ks, v, u, h, r => by
    cases h with
    | @tup a xs _ hs ha =>
      obtain rfl : u = .ref a := r
      obtain ⟨its, hv, ht, _⟩ := I.tuple hs
      obtain ⟨o, h1, h2, h3⟩ := ht
      obtain ⟨n, h3⟩ := h3
      exact .tup h1 h2 h3 (by
        have := nested_all I ks xs its ha hv
        simpa using this)
theorem nested_all (I : Inv X pins σ H s) : ∀ (ks : List NK) (vs : List V) (us : List Value), DpAll X.K H vs (nkDs ks) → Vals vs us → NestedAll s.heap ks us
  | [], vs, us, h, r => by
    cases h
    cases r
    exact .nil
  | k :: ks, vs, us, h, r => by
    cases h with
    | cons h1 h2 =>
      cases r with
      | cons r1 r2 => exact .cons (nested_is I k _ _ h1 r1) (nested_all I ks _ _ h2 r2)
end
/-- what stands in such a dict: key, where the key's tuple stands, value -/
abbrev Kvs := List (NK × Addr × V)
def getN (kvs : Kvs) (k : NK) : Option V := (kvs.find? fun p => decide (p.1 = k)).map fun p => p.2.2
def putN (kvs : Kvs) (k : NK) (a : Addr) (v : V) : Kvs := if (getN kvs k).isSome = true then kvs.map fun p => if p.1 = k then (p.1, p.2.1, v) else p else kvs ++ [(k, a, v)]
def KvR (p : NK × Addr × V) (q : NK × Addr × Value) : Prop := p.1 = q.1 ∧ p.2.1 = q.2.1 ∧ RelV p.2.2 q.2.2
def NdO (P : Program) (w : World) (a : Addr) (kvs : Kvs) : HO := .ext fun h => kvs.length ≤ sizeLine ∧ (a == sysModules) = false ∧ ∃ xs : List (NK × Addr × Value), Paired KvR kvs xs ∧ ∃ o es ep, h.get? a = some o ∧ o.ExactDict ∧ o.data = .dict es ep ∧ es.toList = xs.map (entryOfKey (nestedKind P w)) ∧ (xs.map fun x => x.1).Nodup
structure NdAt (K : PySem.W.Frag) (P : Program) (w : World) (H : Hp) (a : Addr) (kvs : Kvs) : Prop where
  at_ : Rd H a (NdO P w a kvs)
  keys : ∀ p ∈ kvs, Dp K H (.ref p.2.1) (nkD p.1) ∧ p.1.depth ≤ 8
theorem NdAt.ext {K : PySem.W.Frag} {P : Program} {w : World} {H H' : Hp} {a : Addr} {kvs : Kvs} (h : NdAt K P w H a kvs) (x : ∀ a o, H a = some o → H' a = some o) : NdAt K P w H' a kvs := ⟨h.at_.elim (fun q => .inl (x _ _ q)) (fun ⟨o, q⟩ => .inr ⟨o, x _ _ q⟩), fun p hp => ⟨dp_ext x (h.keys p hp).1, (h.keys p hp).2⟩⟩
theorem ndO_ok {P : Program} {w : World} {H : Hp} {h : Heap} {a : Addr} {kvs : Kvs} {xs : List (NK × Addr × Value)} (hl : kvs.length ≤ sizeLine) (hm : (a == sysModules) = false) (hp : Paired KvR kvs xs) (hd : Heap.DictOfH (nestedKind P w) h a xs) : ObjOk P w H h a (NdO P w a kvs) := by
  obtain ⟨o, es, ep, h1, h2, h3, h4, h5, h6⟩ := hd
  refine ⟨⟨hl, hm, xs, hp, o, es, ep, h1, h2, h3, h4, h6⟩, ⟨o, h1⟩, ?_⟩
  rintro g1 g2 ⟨a1, a2, ys, a3, o', es', ep', b1, b2, b3, b4, b5⟩ k
  exact ⟨a1, a2, ys, a3, o', es', ep', k _ b1, b2, b3, b4, b5⟩
theorem kvr_get : ∀ {kvs : Kvs} {xs : List (NK × Addr × Value)}, Paired KvR kvs xs → ∀ k, (getN kvs k = none ∧ atKey xs k = none) ∨ ∃ v a u, getN kvs k = some v ∧ atKey xs k = some (a, u) ∧ RelV v u
  | _, _, .nil, k => .inl ⟨rfl, rfl⟩
  | _, _, .cons (a := p) (b := q) (l₁ := l1) (l₂ := l2) h r, k => by
    obtain ⟨e1, e2, rv⟩ := h
    by_cases c : p.1 = k
    · refine .inr ⟨p.2.2, q.2.1, q.2.2, ?_, ?_, rv⟩
      · unfold getN
        rw [List.find?_cons_of_pos (by simpa using c)]
        rfl
      · unfold atKey
        rw [List.find?_cons_of_pos (by rw [← e1]; simpa using c)]
        rfl
    · have g1 : getN (p :: l1) k = getN l1 k := by
        unfold getN
        rw [List.find?_cons_of_neg (by simpa using c)]
      have g2 : atKey (q :: l2) k = atKey l2 k := by
        unfold atKey
        rw [List.find?_cons_of_neg (by rw [← e1]; simpa using c)]
      rw [g1, g2]
      exact kvr_get r k
theorem kvr_len : ∀ {kvs : Kvs} {xs : List (NK × Addr × Value)}, Paired KvR kvs xs → kvs.length = xs.length
  | _, _, .nil => rfl
  | _, _, .cons _ r => congrArg (· + 1) (kvr_len r)
theorem kvr_snoc : ∀ {kvs : Kvs} {xs : List (NK × Addr × Value)} {p : NK × Addr × V} {q : NK × Addr × Value}, Paired KvR kvs xs → KvR p q → Paired KvR (kvs ++ [p]) (xs ++ [q])
  | _, _, _, _, .nil, h => .cons h .nil
  | _, _, _, _, .cons g r, h => .cons g (kvr_snoc r h)
theorem kvr_map : ∀ {kvs : Kvs} {xs : List (NK × Addr × Value)} {k : NK} {v : V} {u : Value}, Paired KvR kvs xs → RelV v u → Paired KvR (kvs.map fun p => if p.1 = k then (p.1, p.2.1, v) else p) (xs.map (putAt k u))
  | _, _, _, _, _, .nil, _ => .nil
  | _, _, k, v, u, .cons (a := p) (b := q) h r, rv => by
    refine .cons ?_ (kvr_map r rv)
    obtain ⟨e1, e2, e3⟩ := h
    unfold putAt
    dsimp only
    by_cases c : p.1 = k
    · rw [if_pos c, if_pos (e1 ▸ c)]
      exact ⟨e1, e2, rv⟩
    · rw [if_neg c, if_neg (e1 ▸ c)]
      exact ⟨e1, e2, e3⟩
theorem kvr_put {kvs : Kvs} {xs : List (NK × Addr × Value)} {k : NK} {a : Addr} {v : V} {u : Value} (h : Paired KvR kvs xs) (rv : RelV v u) : Paired KvR (putN kvs k a v) (storedH xs k a u) := by
  unfold putN storedH
  rcases kvr_get h k with ⟨e1, e2⟩ | ⟨v1, a1, u1, e1, e2, _⟩
  · rw [e1, e2]
    exact kvr_snoc h ⟨rfl, rfl, rv⟩
  · rw [e1, e2]
    exact kvr_map h rv
theorem putN_len (kvs : Kvs) (k : NK) (a : Addr) (v : V) : (putN kvs k a v).length ≤ kvs.length + 1 := by
  unfold putN
  split
  · rw [List.length_map]; omega
  · rw [List.length_append]; exact Nat.le_refl _
theorem putN_keys {kvs : Kvs} {k : NK} {a : Addr} {v : V} {G : NK × Addr → Prop} (h : ∀ p ∈ kvs, G (p.1, p.2.1)) (hk : G (k, a)) : ∀ p ∈ putN kvs k a v, G (p.1, p.2.1) := by
  intro p hp
  unfold putN at hp
  split at hp
  · obtain ⟨q, hq, e⟩ := List.mem_map.mp hp
    have := h q hq
    split at e
    · rw [← e]; exact this
    · rw [← e]; exact this
  · rcases List.mem_append.mp hp with z | z
    · exact h p z
    · rw [List.mem_singleton.mp z]; exact hk
theorem NdAt.tab (I : Inv X pins σ H s) {a : Addr} {kvs : Kvs} (n : NdAt X.K X.prog X.w H a kvs) : kvs.length ≤ sizeLine ∧ (a == sysModules) = false ∧ ∃ xs, Paired KvR kvs xs ∧ Heap.DictOfH (nestedKind X.prog X.w) s.heap a xs := by
  obtain ⟨hl, hm, xs, hp, o, es, ep, h1, h2, h3, h4, h5⟩ := (n.at_.ok I.hok).1
  refine ⟨hl, hm, xs, hp, o, es, ep, h1, h2, h3, h4, ?_, h5⟩
  have key : ∀ {kvs : Kvs} {xs : List (NK × Addr × Value)}, Paired KvR kvs xs → (∀ p ∈ kvs, Dp X.K H (.ref p.2.1) (nkD p.1) ∧ p.1.depth ≤ 8) → ∀ x ∈ xs, (nestedKind X.prog X.w).is s.heap x.1 x.2.1 := by
    intro kvs xs hp
    induction hp with
    | nil => intro _ x hx; cases hx
    | @cons p q l1 l2 g r ih =>
      intro hk x hx
      rcases List.mem_cons.mp hx with z | z
      · rw [z]
        obtain ⟨e1, e2, _⟩ := g
        obtain ⟨d1, d2⟩ := hk p List.mem_cons_self
        rw [← e1, ← e2]
        exact ⟨nested_is I _ _ _ d1 rfl, d2⟩
      · exact ih (fun p hp => hk p (List.mem_cons_of_mem _ hp)) x z
  exact key hp n.keys
theorem nk_room {A : Around} {P : Program} {w : World} (h : A.units + 64 < cLine) : (nestedKind P w).room A.in1 := by
  show A.units + 1 + 8 < cLine
  omega
/-! ### k in d, k not in d -/
def rInN (K : PySem.W.Frag) (P : Program) (w : World) (neg : Bool) : R2 := fun x y H Q => ∃ (t a : Addr) (k : NK) (kvs : Kvs), x = .ref t ∧ y = .ref a ∧ Dp K H (.ref t) (nkD k) ∧ k.depth ≤ 8 ∧ NdAt K P w H a kvs ∧ Q (.bl (if neg then !(getN kvs k).isSome else (getN kvs k).isSome)) H
theorem op_inN (hu : X.A.units + 64 < cLine) : OpR X (compareOp .In) (rInN X.K X.prog X.w false) := by
  intro pins s σ H x y v u Q I rx ry h
  obtain ⟨t, a, k, kvs, rfl, rfl, hk, hd, hn, q⟩ := h
  obtain rfl : v = .ref t := rx
  obtain rfl : u = .ref a := ry
  obtain ⟨hl, hm, xs, hp, ho⟩ := hn.tab I
  refine wpAny_in_heap (nk_room hu) ⟨nested_is I k _ _ hk rfl, hd⟩ hm ho ?_
  refine ⟨.bl (atKey xs k).isSome, H, I.tok _, rfl, ?_⟩
  rcases kvr_get hp k with ⟨e1, e2⟩ | ⟨_, _, _, e1, e2, _⟩
  · rw [e2]
    rw [e1] at q
    exact q
  · rw [e2]
    rw [e1] at q
    exact q
theorem op_notInN (hu : X.A.units + 64 < cLine) : OpR X (compareOp .NotIn) (rInN X.K X.prog X.w true) := by
  intro pins s σ H x y v u Q I rx ry h
  obtain ⟨t, a, k, kvs, rfl, rfl, hk, hd, hn, q⟩ := h
  obtain rfl : v = .ref t := rx
  obtain rfl : u = .ref a := ry
  obtain ⟨hl, hm, xs, hp, ho⟩ := hn.tab I
  refine wpAny_notIn_heap (nk_room hu) ⟨nested_is I k _ _ hk rfl, hd⟩ hm ho ?_
  refine ⟨.bl (!(atKey xs k).isSome), H, I.tok _, rfl, ?_⟩
  rcases kvr_get hp k with ⟨e1, e2⟩ | ⟨_, _, _, e1, e2, _⟩
  · rw [e2]
    rw [e1] at q
    exact q
  · rw [e2]
    rw [e1] at q
    exact q
/-! ### d[k] -/
def rIxN (K : PySem.W.Frag) (P : Program) (w : World) : R2 := fun x y H Q => ∃ (a t : Addr) (k : NK) (kvs : Kvs) (v : V), x = .ref a ∧ y = .ref t ∧ Dp K H (.ref t) (nkD k) ∧ k.depth ≤ 8 ∧ NdAt K P w H a kvs ∧ getN kvs k = some v ∧ Q v H
theorem ix_nd (hu : X.A.units + 64 < cLine) : IxR X (rIxN X.K X.prog X.w) := by
  intro value slice pins s σ H x y v u Q I rx ry h hsub
  obtain ⟨a, t, k, kvs, v1, rfl, rfl, hk, hd, hn, hg, q⟩ := h
  obtain rfl : v = .ref a := rx
  obtain rfl : u = .ref t := ry
  obtain ⟨hl, hm, xs, hp, ho⟩ := hn.tab I
  rcases kvr_get hp k with ⟨e1, e2⟩ | ⟨w1, a1, u1, e1, e2, rv⟩
  · rw [hg] at e1; cases e1
  · rw [hg] at e1
    cases Option.some.inj e1
    refine subscriptTail_builtinR (x := u1) (T := "dict") (id := "dict.__getitem__") ho.typeIs (by kernel_rfl) (wpAny_getItem_heap (knd := nestedKind X.prog X.w) (nk_room hu) ⟨nested_is I k _ _ hk rfl, hd⟩ ho e2 ⟨rfl, v1, H, I.tok _, rv, q⟩) hsub
/-! ### d.get(k), d.get(k, x) -/
def rGetN (K : PySem.W.Frag) (P : Program) (w : World) : V → List V → Hp → VK → Prop := fun x xs H Q => ∃ (a t : Addr) (k : NK) (kvs : Kvs), x = .ref a ∧ xs = [.ref t] ∧ Dp K H (.ref t) (nkD k) ∧ k.depth ≤ 8 ∧ NdAt K P w H a kvs ∧ Q ((getN kvs k).getD .non) H
theorem mt_getN (hu : X.A.units + 64 < cLine) : MtR X "dict.get" (rGetN X.K X.prog X.w) := by
  intro pins s σ H x xs v us Q I rx rs h
  obtain ⟨a, t, k, kvs, rfl, rfl, hk, hd, hn, q⟩ := h
  obtain rfl : v = .ref a := rx
  obtain ⟨u, rfl, ru⟩ := vals1 rs
  obtain rfl : u = .ref t := ru
  obtain ⟨hl, hm, ys, hp, ho⟩ := hn.tab I
  refine get_keyed (knd := nestedKind X.prog X.w) (nk_room hu) ⟨nested_is I k _ _ hk rfl, hd⟩ hm ⟨ys, ho, rfl⟩ ?_
  rw [valueAt_pairsH]
  rcases kvr_get hp k with ⟨e1, e2⟩ | ⟨w1, a1, u1, e1, e2, rv⟩
  · rw [e2]
    rw [e1] at q
    exact ⟨.non, H, I.tok _, rfl, q⟩
  · rw [e2]
    rw [e1] at q
    exact ⟨w1, H, I.tok _, rv, q⟩
def rGetN2 (K : PySem.W.Frag) (P : Program) (w : World) : V → List V → Hp → VK → Prop := fun x xs H Q => ∃ (a t : Addr) (k : NK) (kvs : Kvs) (z : V), x = .ref a ∧ xs = [.ref t, z] ∧ Dp K H (.ref t) (nkD k) ∧ k.depth ≤ 8 ∧ NdAt K P w H a kvs ∧ Q ((getN kvs k).getD z) H
theorem mt_getN2 (hu : X.A.units + 64 < cLine) : MtR X "dict.get" (rGetN2 X.K X.prog X.w) := by
  intro pins s σ H x xs v us Q I rx rs h
  obtain ⟨a, t, k, kvs, z, rfl, rfl, hk, hd, hn, q⟩ := h
  obtain rfl : v = .ref a := rx
  cases rs with
  | @cons _ u _ us2 ru rs2 =>
    obtain ⟨uz, rfl, rz⟩ := vals1 rs2
    obtain rfl : u = .ref t := ru
    obtain ⟨hl, hm, ys, hp, ho⟩ := hn.tab I
    refine getOr_keyed (knd := nestedKind X.prog X.w) (nk_room hu) ⟨nested_is I k _ _ hk rfl, hd⟩ hm ⟨ys, ho, rfl⟩ ?_
    rw [valueAt_pairsH]
    rcases kvr_get hp k with ⟨e1, e2⟩ | ⟨w1, a1, u1, e1, e2, rv⟩
    · rw [e2]
      rw [e1] at q
      exact ⟨z, H, I.tok _, rz, q⟩
    · rw [e2]
      rw [e1] at q
      exact ⟨w1, H, I.tok _, rv, q⟩
/-! ### {} -/
theorem pe_dnewN {pos : Pos} : PE X (.Dict [] [] pos) (fun _ H Q => ∀ p, H p = none → Q (.ref p) (upd H p (NdO X.prog X.w p []))) := by
  constructor
  intro pins s σ H Q I h
  refine wpAny_mono ((pe_dnewK (X := X) (pos := pos)).run pins s σ H (fun v H' => ∃ p, v = .ref p ∧ H p = none ∧ H' = upd H p (.dK [])) I fun p hp => ⟨p, rfl, hp, rfl⟩) (fun u s' got => ?_) fun _ _ z => z
  obtain ⟨v, H', I', rv, p, rfl, hp, rfl⟩ := got
  have ob := I'.hok p _ upd_same
  obtain ⟨_, hm, vs, hv, o, es, ep, h1, h2, h3, h4⟩ := ob
  cases hv
  have he : es.toList = [] := by
    obtain ⟨_, z, _⟩ := h4
    generalize es.toList = l at z ⊢
    cases z
    rfl
  have hu2 : upd (upd H p (.dK [])) p (NdO X.prog X.w p []) = upd H p (NdO X.prog X.w p []) := funext fun a => by
    by_cases c : a = p
    · rw [c, upd_same, upd_same]
    · rw [upd_ne c, upd_ne c, upd_ne c]
  have J := d_write (ob := NdO X.prog X.w p []) (t' := s'.toks) I' (by rw [upd_same]; exact trivial) ⟨rfl, fun _ _ => rfl⟩ ⟨_, h1⟩ (ndO_ok (xs := []) (Nat.zero_le _) hm .nil ⟨o, es, ep, h1, h2, h3, by rw [he]; rfl, (by intro x hx; cases hx), List.nodup_nil⟩)
  rw [hu2] at J
  exact ⟨.ref p, _, J, rv, h p hp⟩
/-! ### d[k] = v -/
def rSetN (K : PySem.W.Frag) (P : Program) (w : World) : TSet := fun o i v H Q => ∃ (a t : Addr) (k : NK) (kvs : Kvs), o = .ref a ∧ i = .ref t ∧ Dp K H (.ref t) (nkD k) ∧ k.depth ≤ 8 ∧ NdAt K P w H a kvs ∧ H a = some (NdO P w a kvs) ∧ kvs.length < sizeLine ∧ Q (upd H a (NdO P w a (putN kvs k t v)))
theorem set_nd (hu : X.A.units + 64 < cLine) : PSet X (rSetN X.K X.prog X.w) := by
  intro pins s σ H o i v ov iv u Q I ro ri rv h
  obtain ⟨a, t, k, kvs, rfl, rfl, hk, hd, hn, hat, hlt, q⟩ := h
  obtain rfl : ov = .ref a := ro
  obtain rfl : iv = .ref t := ri
  obtain ⟨hl, hm, xs, hp, ho⟩ := hn.tab I
  have hxl : xs.length ≤ sizeLine := by rw [← kvr_len hp]; exact hl
  refine wpAny_setItem_heap (knd := nestedKind X.prog X.w) (nk_room hu) ⟨nested_is I k _ _ hk rfl, hd⟩ ho (fun h' hd' hsame => ?_) hxl
  have hp' := kvr_put (k := k) (a := t) hp rv
  have hlen := putN_len kvs k t v
  obtain ⟨o', es', ep', z1, _⟩ := id hd'
  refine ⟨_, d_write (ob := NdO X.prog X.w a (putN kvs k t v)) I (by rw [hat]; exact trivial) hsame ⟨_, z1⟩ (ndO_ok (by omega) hm hp' hd'), q⟩
end
end Ax
set_option maxHeartbeats 4000000
/-! len(d) of a dict with nested tuples as keys; the walk over its keys, the dict locked. -/
namespace Ax
open PySem PySem.Spec PyProof.Rows L2
section
variable {X : Cx}
def rLenN (K : PySem.W.Frag) (P : Program) (w : World) : List V → Hp → VK → Prop := fun xs H Q => ∃ (a : Addr) (kvs : Kvs), xs = [.ref a] ∧ NdAt K P w H a kvs ∧ Q (.int ((kvs.length : Nat) : Int)) H
theorem call_lenN : CallR X (.builtin "len") (rLenN X.K X.prog X.w) := by
  intro pins s σ H xs us Q I r h
  obtain ⟨p, kvs, rfl, hn, q⟩ := h
  obtain ⟨u, rfl, rx⟩ := vals1 r
  obtain rfl : u = .ref p := rx
  obtain ⟨hl, hm, ys, hp, ho⟩ := hn.tab I
  have e := kvr_len hp
  refine call_len_dictH hm ho (by rw [← e]; rw [sizeLine_eq] at hl; omega) ?_
  rw [← e]
  exact ⟨.int ((kvs.length : Nat) : Int), H, I.tok _, ⟨_, rfl⟩, q⟩
end
theorem kvr_at : ∀ {kvs : Kvs} {xs : List (NK × Addr × Value)}, Paired KvR kvs xs → ∀ {i : Nat} {p : NK × Addr × V}, kvs[i]? = some p → ∃ q, xs[i]? = some q ∧ KvR p q
  | _, _, .nil, i, p, e => by simp at e
  | _, _, .cons (a := a) (b := b) r t, i, p, e => by
    cases i with
    | zero =>
      simp only [List.getElem?_cons_zero, Option.some.injEq] at e
      subst e
      exact ⟨b, rfl, r⟩
    | succ j =>
      simp only [List.getElem?_cons_succ] at e ⊢
      exact kvr_at t e
section
variable {X : Cx} {pins : List (Addr × Obj)} {σ : L2.St} {H : Hp} {s : Shared} {d : Addr} {o : Obj}
theorem frzN {kvs : Kvs} (I : Inv X pins σ H s) (h : H d = some (.frz o (NdO X.prog X.w d kvs))) :
    (d == sysModules) = false ∧ s.heap.get? d = some o ∧ o.ExactDict ∧ ∃ (es : Array DictEntry) (ep : Nat), o.data = .dict es ep ∧ es.size = kvs.length ∧
      ∀ (i : Nat) (p : NK × Addr × V), kvs[i]? = some p → ∃ en : DictEntry, es[i]? = some en ∧ en.key = .ref p.2.1 := by
  obtain ⟨hd, ⟨hl, hs, xs, pr, o', es, ep, ho, hx, hdt, he, _⟩, _⟩ := I.hok d _ h
  rw [hd] at ho
  cases ho
  refine ⟨hs, hd, hx, es, ep, hdt, ?_, fun i p e => ?_⟩
  · have l1 : es.size = xs.length := size_of_entries he
    have l2 := kvr_len pr
    omega
  · obtain ⟨b, hb, e1, e2, _⟩ := kvr_at pr e
    have q := entry_at he i
    rw [hb] at q
    exact ⟨_, q, by rw [e2]; rfl⟩
end
/-- the keys of the locked dict at d, each the tuple that stands in it -/
def Itn (P : Program) (w : World) (d : Addr) (o : Obj) (kvs : Kvs) : It :=
  ⟨fun i H => H d = some (.frz o (NdO P w d kvs)) ∧ i < kvs.length, fun i H x H' => H' = H ∧ ∃ p, kvs[i]? = some p ∧ x = .ref p.2.1, fun i H => H d = some (.frz o (NdO P w d kvs)) ∧ kvs.length ≤ i⟩
section
variable {P : Program} {w : World} {K : PySem.W.Frag} {tg : Expr} {d : Addr} {o : Obj} {es : Array DictEntry} {ep : Nat}
theorem turn_keysN {kvs : Kvs} (it : Addr) (hod : o.data = .dict es ep) : Turn P w K tg (Itn P w d o kvs) [it] it (fun i h => h.IsKeyIter it d i kvs.length ep) where
  mem := by simp
  obj := fun i h st b hb => by
    have e : b = it := by simpa using hb
    subst e
    obtain ⟨oi, e, c, dd⟩ := st
    exact ⟨oi, e, fun v z => by rw [dd] at z; cases z⟩
  keep := fun i h h' st k => st.at fun oi e => k it (by simp) oi e
  item := by
    intro X hP hw hK hc i pins s σ H E I hf st hg
    subst hP hw hK
    obtain ⟨hd, hi⟩ := hg
    obtain ⟨f0, f1, f2, f3, f4, f5⟩ := hf it (by simp)
    obtain ⟨hs, hgd, hx, es', ep', hdt, hsz, ent⟩ := frzN I hd
    obtain ⟨rfl, rfl⟩ := dict_ep hod hdt
    obtain ⟨p, hkv⟩ : ∃ p, kvs[i]? = some p := ⟨kvs[i], List.getElem?_eq_getElem hi⟩
    obtain ⟨en, hen, hkey⟩ := ent i p hkv
    refine next_key_item st hgd hdt hsz hen fun h' st' sb => ?_
    have I1 : Inv X pins σ H { s with heap := h' } := I.turned (t' := s.toks) (fun b ob hb e => (sb.2 b hb).trans e) f0 f1 f3 f4 f5
    obtain ⟨oi, e, c, dd⟩ := id st'
    exact ⟨en.key, rfl, go_of (s := { s with heap := h' }) e c dd (by decide) ⟨.ref p.2.1, H, I1, hkey, ⟨rfl, p, hkv, rfl⟩, st', fun b hb => (hf b hb).1⟩⟩
  done := by
    intro X hP hw hK hc i pins s σ H E I hf st hg
    subst hP hw hK
    obtain ⟨hd, hi⟩ := hg
    obtain ⟨f0, f1, f2, f3, f4, f5⟩ := hf it (by simp)
    obtain ⟨hs, hgd, hx, es', ep', hdt, hsz, ent⟩ := frzN I hd
    obtain ⟨rfl, rfl⟩ := dict_ep hod hdt
    exact next_key_end (I.ok.hd hc) st hgd hdt hsz hi fun h' eb => ⟨rfl, I.turned (t' := s.toks) (fun b ob hb e => eb b ob hb e) f0 f1 f3 f4 f5⟩
  self := fun A i s Q E st h => by
    refine wpAny_pyIter_slot st.typeIs F.slot_dict_keyiterator_iter (wpAny_call_entry F.slot_dict_keyiterator_iter st.typeIs F.entry_dict_keyiterator_iter ?_ (F.args_dict_keyiterator_iter_1 _))
    show wpAny _ _ (ret (.ref it)) _ _ s
    exact wpAny_pure ⟨_, rfl, "dict_keyiterator", _, st.typeIs, F.slot_dict_keyiterator_next.lookup, h⟩
end
def iKeysN (P : Program) (w : World) (td : TE) : TI := fun σ H R => td σ H fun x H1 => ∃ d o kvs, x = .ref d ∧ H1 d = some (.frz o (NdO P w d kvs)) ∧ R (Itn P w d o kvs) H1
theorem pi_keysN {X : Cx} {tg e : Expr} {td : TE} (he : PE X e td) : PI X tg e (iKeysN X.prog X.w td) := by
  refine ⟨fun pins s σ H R I h => ?_⟩
  refine thn (he.run pins s σ H _ I h) fun u s1 ⟨x, H1, I1, rx, d, o, kvs, ex, hd, q⟩ => ?_
  subst ex
  obtain rfl : u = Value.ref d := rx
  obtain ⟨hs, hgd, hx, es, ep, hdt, hsz, ent⟩ := frzN I1 hd
  refine iter_keys hs hgd hx hdt (pi_one (tk := s1.toks) I1 _ (turn_keysN _ hdt) ⟨_, Heap.get?_push_size _ rfl, rfl, ?_⟩ q)
  rw [hsz] <;> rfl
end Ax
set_option maxHeartbeats 4000000
/-! sorted of a list of data, any data that compare. -/
namespace Ax
open PySem PySem.Spec PyProof.Rows L2
abbrev VD := V × PyData
def srtD (L : List VD) : List VD := L.mergeSort (PySem.W.dataLe false Prod.snd)
def rSortedD (K : PySem.W.Frag) : List V → Hp → VK → Prop := fun vs H Q => ∃ (a : Addr) (L : List VD), vs = [V.ref a] ∧ SqL K H a (L.map (·.1)) ∧ (∀ p ∈ L, Dp K H p.1 p.2) ∧ PySem.W.AllAlike (L.map (·.2)) ∧ PySem.W.Sortable (L.map (·.2)) ∧ (∀ p ∈ L, p.2.depth ≤ 8) ∧
  ∀ p, H p = none → Q (.ref p) (upd H p (.lst ((srtD L).map (·.1))))
theorem each_vals : ∀ {us : List Value} {L : List VD}, PySem.W.EachIs (fun u (p : VD) => RelV p.1 u) us L → Vals (L.map (·.1)) us
  | _, _, .nil => .nil
  | _, _, .cons h t => .cons h (each_vals t)
theorem vals_each : ∀ {us : List Value} {L : List VD}, Vals (L.map (·.1)) us → PySem.W.EachIs (fun u (p : VD) => RelV p.1 u) us L
  | [], [], _ => .nil
  | _, _ :: _, .cons h t => .cons h (vals_each t)
section
variable {X : Cx}
theorem dp_each {pins : List (Addr × Obj)} {σ : L2.St} {H : Hp} {s : Shared} (I : Inv X pins σ H s) : ∀ {us : List Value} {L : List VD}, PySem.W.EachIs (fun u (p : VD) => RelV p.1 u) us L → (∀ p ∈ L, Dp X.K H p.1 p.2) → PySem.W.EachIs (fun u (p : VD) => ∃ as, Reads s.heap u p.2 as) us L
  | _, _, .nil, _ => .nil
  | _, _, .cons h t, k => .cons (Dp.reads I _ _ _ (k _ List.mem_cons_self) h) (dp_each I t fun p hp => k p (List.mem_cons_of_mem _ hp))
theorem cr_sortedD (hu : X.A.units + 64 < cLine) : CallR X (.builtin "sorted") (rSortedD X.K) := by
  intro pins s σ H vs us Q I r h
  obtain ⟨a, L, rfl, hs, hd, hal, hk, hdep, q⟩ := h
  obtain ⟨its, rv, hl, hz⟩ := I.list hs
  obtain ⟨u, rfl, ru⟩ := vals1 r
  obtain rfl : u = Value.ref a := ru
  have hR := vals_each rv
  have hlen := hR.length
  refine PySem.W.sorted_data (vs := its) (bs := L) (enc := Prod.snd) (R := fun u (p : VD) => RelV p.1 u) hl.isList hR (dp_each I hR hd) hal hk (by rw [List.length_map] at hz; exact hz) (fun b hb => ?_) fun out ho hO => ?_
  · have := hdep b hb
    omega
  · have hv := each_vals hO
    obtain ⟨n, hn⟩ := sortedAll_at s.heap its (List.toArray out)
    have hz2 : L.length ≤ sizeLine := by simpa using hz
    refine ⟨.ref (s.heap.objs.size + 1), upd H _ (.lst ((srtD L).map (·.1))), I.laid (t' := s.toks) (fun b o e => sortedAll_old e) (Nat.le_succ _) ⟨?_, out, n, hv, hn⟩, rfl, q _ (I.hok.fresh (Nat.le_succ _))⟩
    rw [List.length_map, srtD, List.length_mergeSort]
    exact hz2
end
end Ax
set_option maxHeartbeats 4000000
/-! Dict comprehensions whose keys are nested tuples. -/
namespace Ax
open PySem PySem.Spec PyProof.Rows L2
def tDcN (K : PySem.W.Frag) (P : Program) (w : World) (wi : TI) (g : TG) (tt : TT) (tk tv : TE) (vs : List Nat) : TE := fun σ H Q => wi σ H fun J H1 => ∀ D, H1 D = none → ∃ W : Nat → Nat → Hp → Prop, (∃ m, W 0 m (upd H1 D (NdO P w D []))) ∧ ∀ i m H, W i m H →
  (J.stop i H ∧ Q (.ref D) H) ∨ (J.go i H ∧ ∃ Nx : Hp → Prop, (∀ H', Nx H' → ∃ m', m' < m ∧ W (i + 1) m' H') ∧ ∀ x H', J.yld i H x H' → g x (wipe σ vs) H' fun σ2 H2 => wipe σ2 vs = wipe σ vs ∧ tt σ2 H2 fun b H3 =>
    if b = true then tk σ2 H3 fun y H4 => tv σ2 H4 fun z H5 => ∃ (t : Addr) (k : NK) (kvs : Kvs), y = .ref t ∧ Dp K H5 (.ref t) (nkD k) ∧ k.depth ≤ 8 ∧ NdAt K P w H5 D kvs ∧ H5 D = some (NdO P w D kvs) ∧ kvs.length < sizeLine ∧ Nx (upd H5 D (NdO P w D (putN kvs k t z))) else Nx H3)
theorem wipe_cons (σ : L2.St) (i : Nat) (vs : List Nat) : wipe σ (i :: vs) = (wipe σ vs).set i Option.none := rfl
theorem wipe_len (σ : L2.St) : ∀ vs : List Nat, (wipe σ vs).length = σ.length
  | [] => rfl
  | i :: vs => by rw [wipe_cons, List.length_set, wipe_len σ vs]
theorem wipe_get (σ : L2.St) : ∀ (vs : List Nat) (i : Nat) (v : V), (wipe σ vs)[i]? = some (some v) → σ[i]? = some (some v)
  | [], _, _, h => h
  | j :: vs, i, v, h => by
    rw [wipe_cons, List.getElem?_set] at h
    split at h
    · split at h <;> cases h
    · exact wipe_get σ vs i v h
@[reducible] def s3Of (s2 : Shared) : Shared := { s2 with heap := s2.heap.push { cls := .type "dict", data := .dict #[] } }
@[reducible] def blkAt (X : Cx) (s2 : Shared) (H3 : Hp) (scope : PySem.Scope) (fp : List Addr) : Cx := X.blk (s3Of s2) H3 scope (compEnvC scope (cellsFrom ((s3Of s2).heap.objs.size + 1) scope.names (cloFrom X.env.cells scope.names [])) (s3Of s2).heap.objs.size X.env) fp
section
variable {X : Cx} {kx vx tg iter : PySem.Expr} {ifs : List PySem.Expr} {scope : PySem.Scope} {own : List (Str × Nat)} {pos : Pos} {wi : TI} {g : TG} {tt : TT} {tk tv : TE}
theorem pe_dcN (hc : X.calm = true) (hN : X.N.Nodup) (hu : X.A.units + 64 < cLine) (hit : PI X tg iter wi) (ok : BlkOk X.N X.env.scope scope own)
    (hg : ∀ (s : Shared) (H : Hp) (C : Addr) (cl : List (Str × Addr)) (fp : List Addr), PG (X.blk s H scope (compEnvC scope cl C X.env) fp) tg g)
    (ht : ∀ (s : Shared) (H : Hp) (C : Addr) (cl : List (Str × Addr)) (fp : List Addr), PTs (X.blk s H scope (compEnvC scope cl C X.env) fp) ifs tt)
    (hk : ∀ (s : Shared) (H : Hp) (C : Addr) (cl : List (Str × Addr)) (fp : List Addr), PE (X.blk s H scope (compEnvC scope cl C X.env) fp) kx tk)
    (he : ∀ (s : Shared) (H : Hp) (C : Addr) (cl : List (Str × Addr)) (fp : List Addr), PE (X.blk s H scope (compEnvC scope cl C X.env) fp) vx tv)
    (hfold : ∀ x : Value, foldedSetIterable iter X.env x = pure x := by intro _; rfl) :
    PE X (.DictComp kx vx [⟨tg, iter, ifs, 0⟩] scope pos) (tDcN X.K X.prog X.w wi g tt tk tv (own.map (·.2))) := by
  constructor
  intro pins s σ H Q I h
  rw [arm_eval_DictComp]
  have hclo : closureFor scope X.env = pure (cloFrom X.env.cells scope.names []) := closure_ok fun y hy hf => by
    refine I.ok.has y.1 ?_
    rcases ok.free y hy hf with q1 | q1
    · exact .inl q1
    · exact .inr q1
  refine wpAny_comprehension_free (g := ⟨tg, iter, ifs, 0⟩) (gs := []) rfl hfold hclo ok.kind (fun y hy hl => by rw [ok.uniq y hy, hl]) ?_
  refine wpAny_mono (hit.run pins s σ H _ I h) (fun v s1 q => ?_) (fun _ _ z => z)
  refine wpAny_mono q (fun itv s2 pie => ?_) (fun _ _ z => z)
  obtain ⟨it, fp, tn, J, H1, rfl, I2, turn, t0, hfp, hR⟩ := pie
  have D0 : H1 s2.heap.objs.size = none := I2.hok.fresh (Nat.le_refl _)
  obtain ⟨W, ⟨m0, w0⟩, hW⟩ := hR _ D0
  have hms : (s2.heap.objs.size == sysModules) = false := by
    have e0 := I2.big
    exact beq_eq_false_iff_ne.mpr (Nat.ne_of_gt e0)
  unfold newDict newObj newObjAsIs
  dsimp only
  rw [if_neg (show ¬ (#[] : Array DictEntry).size > sizeLine + 1 from Nat.not_lt_zero _)]
  refine wpAny_bind (wpAny_alloc ?_)
  refine wpAny_pure ?_
  have I3 : Inv X pins σ (upd H1 s2.heap.objs.size (NdO X.prog X.w s2.heap.objs.size [])) { s2 with heap := s2.heap.push { cls := .type "dict", data := .dict #[] } } :=
    I2.laid (t' := s2.toks) (fun b u e => Heap.get?_push_of_some _ e) (Nat.le_refl _) (ndO_ok (xs := []) (Nat.zero_le _) hms .nil (Heap.DictOfH.new _))
  refine newEnv_comp ?_
  have hobj := turn.obj 0 _ t0
  have hfp3 : ∀ b, b ∈ fp → FpOk X pins (upd H1 s2.heap.objs.size (NdO X.prog X.w s2.heap.objs.size [])) b ∧ b < (s2.heap.push { cls := .type "dict", data := .dict #[] }).objs.size := by
    intro b hb
    obtain ⟨o, ho, _⟩ := hobj b hb
    have hlt : b < s2.heap.objs.size := by
      rcases Nat.lt_or_ge b s2.heap.objs.size with z | z
      · exact z
      · rw [Heap.get?_none_of_le z] at ho; cases ho
    obtain ⟨f0, f1, f2, f3, f4, f5⟩ := hfp b hb
    refine ⟨⟨?_, f1, f2, f3, f4, f5⟩, ?_⟩
    · rw [upd_ne (Nat.ne_of_lt hlt)]
      exact f0
    · show b < (s2.heap.objs.push _).size
      rw [Array.size_push]
      exact Nat.lt_succ_of_lt hlt
  have I4 := block_start (own := own) (fp := fp) I3 ok hN hfp3
  have hC := I3.fpOk (Nat.le_refl _) (I3.hok.fresh (Nat.le_refl _))
  generalize hH3 : (upd H1 s2.heap.objs.size (NdO X.prog X.w s2.heap.objs.size [])) = H3 at I3 I4 w0 hfp3 hC
  have hcells : ∀ b, b ∈ fp → ∀ o, s2.heap.get? b = some o → (pushCells ((s2.heap.push { cls := .type "dict", data := .dict #[] }).push { cls := .type "dict", data := .dict #[] }) scope.names).get? b = some o := by
    intro b hb o ho
    exact pushCells_keeps _ _ _ _ (Heap.get?_push_of_some _ (Heap.get?_push_of_some _ ho))
  have t0' := turn.keep 0 _ _ t0 hcells
  refine codeAny_compStart_dict ?_ (turn.self _ 0 _ _ _ t0' ?_)
  all_goals
    refine compLoop_anyD (fun n s' => ∃ i H', W i n H' ∧ Inv (blkAt X s2 H3 scope fp) [] (wipe σ (own.map (·.2))) H' s' ∧ tn i s'.heap ∧ ∀ b ∈ fp, H' b = none) ?_ m0 ⟨0, _, w0, I4, t0', fun b hb => (hfp3 b hb).1.1⟩
    rintro n s' ⟨i, H', w, J4, tni, hfree⟩
    have hfpY : ∀ (H2 : Hp), (∀ b ∈ fp, H2 b = none) → ∀ b ∈ fp, FpOk (blkAt X s2 H3 scope fp) [] H2 b := by
      intro H2 hf b hb
      obtain ⟨e1, e2⟩ := J4.ok.exf b hb
      exact ⟨hf b hb, e1, J4.ok.exfs b hb, .inl hb, e2, fun p hp => by cases hp⟩
    rcases hW i n H' w with ⟨hstop, hq⟩ | ⟨hgo, Nx, hNx, hstep⟩
    · refine wpAny_mono (turn.done (blkAt X s2 H3 scope fp) rfl rfl rfl hc i [] s' _ H' (fun _ _ => False) J4 (hfpY H' hfree) tni hstop) (fun r s1 hr => ?_) (fun _ _ z => z.elim)
      obtain ⟨rfl, J5⟩ := hr
      obtain ⟨m, hm, _⟩ := J5.loc
      refine ⟨m, hm, fun h' hsame => ?_⟩
      have J6 : Inv X pins σ H' s1 := I3.call' (ch := fp) J5.os J5.base J5.hok J5.bare (fun b hb => by
        obtain ⟨f0, f1, f2, f3, f4, f5⟩ := (hfp3 b hb).1
        exact ⟨f3, f1, f4, f5⟩)
      obtain ⟨g0, g1, g2, g3, g4, g5⟩ := hC
      exact ⟨.ref _, H', J6.turned (it := (s3Of s2).heap.objs.size) (fun b o hb q => by rw [hsame.2 b hb]; exact q) J5.free g1 g3 g4 g5, rfl, hq⟩
    · refine wpAny_mono (turn.item (blkAt X s2 H3 scope fp) rfl rfl rfl hc i [] s' _ H' (fun _ _ => False) J4 (hfpY H' hfree) tni hgo) (fun r s1 hr => ?_) (fun _ _ z => z.elim)
      obtain ⟨u, rfl, hlet⟩ := hr
      refine wpAny_mono hlet (fun _ s5 hx => ?_) (fun _ _ z => z.elim)
      obtain ⟨x, H5, J5, rx, hy, tn', hfree'⟩ := hx
      have J5p := J5.pinned (fp := fp) (hfpY H5 hfree') (turn.obj (i + 1) _ tn')
      -- what is left of a turn
      have fin : ∀ (s9 : Shared) (σ9 : L2.St) (H9 : Hp), Inv (blkAt X s2 H3 scope fp) ([] ++ pinsAt fp s5.heap) σ9 H9 s9 → wipe σ9 (own.map (·.2)) = wipe σ (own.map (·.2)) → Nx H9 → ∃ m, m < n ∧ ∃ i H', W i m H' ∧ Inv (blkAt X s2 H3 scope fp) [] (wipe σ (own.map (·.2))) H' s9 ∧ tn i s9.heap ∧ ∀ b ∈ fp, H' b = none := by
        intro s9 σ9 H9 J9 hw9 nx9
        obtain ⟨m', hlt, w'⟩ := hNx H9 nx9
        have pin : ∀ b ∈ fp, ∃ o, s5.heap.get? b = some o ∧ s9.heap.get? b = some o ∧ H9 b = none := by
          intro b hb
          obtain ⟨o, ho, _⟩ := turn.obj (i + 1) _ tn' b hb
          have hmem : (b, o) ∈ pinsAt fp s5.heap := List.mem_filterMap.mpr ⟨b, hb, by rw [ho]; rfl⟩
          obtain ⟨p1, p2, _⟩ := J9.pin (b, o) (by simpa using hmem)
          exact ⟨o, ho, p1, p2⟩
        refine ⟨m', hlt, i + 1, H9, w', ?_, turn.keep _ _ _ tn' (fun b hb o ho => ?_), fun b hb => let ⟨_, _, _, z⟩ := pin b hb; z⟩
        · rw [← hw9]
          exact (J9.unpinned (pins := []) (pl := pinsAt fp s5.heap)).weak (wipe_len σ9 _) (fun i v q => wipe_get σ9 _ i v q)
        · obtain ⟨o', h1, h2, _⟩ := pin b hb
          rw [ho] at h1
          cases Option.some.inj h1
          exact h2
      refine wpAny_mono ((hg _ _ _ _ fp).run _ s5 _ H5 x u _ J5p rx (hstep x H5 hy)) (fun _ s6 h6 => ?_) (fun _ _ z => z.elim)
      obtain ⟨σ6, H6, J6, hw6, q6⟩ := h6
      refine wpAny_mono ((ht _ _ _ _ fp).run _ s6 σ6 H6 _ J6 q6) (fun ok7 s7 h7 => ?_) (fun _ _ z => z.elim)
      obtain ⟨H7, J7, q7⟩ := h7
      cases ok7 with
      | false =>
        rw [if_neg (by decide)] at q7 ⊢
        exact fin s7 σ6 H7 J7 hw6 q7
      | true =>
        rw [if_pos rfl] at q7 ⊢
        refine wpAny_mono ((hk _ _ _ _ fp).run _ s7 σ6 H7 _ J7 q7) (fun kv s8 h8 => ?_) (fun _ _ z => z.elim)
        obtain ⟨y, H8, J8, ry, q8⟩ := h8
        refine wpAny_mono ((he _ _ _ _ fp).run _ s8 σ6 H8 _ J8 q8) (fun vv s9 h9 => ?_) (fun _ _ z => z.elim)
        obtain ⟨z, H9, J9, rz, t, k, kvs, rfl, hd, hdep, hn, hat, hlt, nx⟩ := h9
        obtain rfl : kv = .ref t := ry
        obtain ⟨hl, hm, xs, hp, ho⟩ := hn.tab J9
        have hxl : xs.length ≤ sizeLine := by rw [← kvr_len hp]; exact hl
        have hroom : (nestedKind X.prog X.w).room X.A := by
          show X.A.units + 8 < cLine
          omega
        refine wpAny_dictSet_heap hroom ⟨nested_is J9 k _ _ hd rfl, hdep⟩ ho (fun h' hd' hsame => ?_) hxl
        have hp' := kvr_put (k := k) (a := t) hp rz
        have hlen := putN_len kvs k t z
        obtain ⟨o', es', ep', z1, _⟩ := id hd'
        exact fin _ σ6 _ (d_write (ob := NdO X.prog X.w _ (putN kvs k t z)) J9 (by rw [hat]; exact trivial) hsame ⟨_, z1⟩ (ndO_ok (by omega) hm hp' hd')) hw6 nx
end
end Ax
set_option maxHeartbeats 4000000
/-! try: .. with several clauses «except C as n:». -/
namespace Ax
open PySem PySem.Spec PyProof.Rows L2
/-- one clause: the class that it names, the slot of its name, its suite's reading -/
structure Cl where
  c : Value
  i : Nat
  ts : Addr → Value → Option Addr → TS
/-- behind a suite the clause's name is gone -/
def gone (D : Ends) (i : Nat) : Ends := { nx := fun σ H => D.nx (σ.set i Option.none) H, rt := D.rt, bk := fun σ H => D.bk (σ.set i Option.none) H, ct := fun σ H => D.ct (σ.set i Option.none) H }
def wCls (K : PySem.W.Frag) (Wout : WX) (D : Ends) : List Cl → WX
  | [] => Wout
  | k :: r => fun cls d σ H => ∃ b, PySem.W.exmOne K cls k.c = some b ∧ (b = true → ∀ a, H a = Option.none → k.ts a cls d (gone D k.i) (σ.set k.i (some (.ref a))) H) ∧ (b = false → wCls K Wout D r cls d σ H)
inductive ClsOk (X : Cx) : List ExceptHandler → List Cl → Prop
  | nil : ClsOk X [] []
  | cons {x n : Str} {k : Cl} {b0 : Stmt} {suite : List Stmt} {np pos : Pos} {hs : List ExceptHandler} {l : List Cl} (hc : Names X x k.c) (hi : X.N[k.i]? = some n) (hn : X.env.kindOf n = some .local)
      (hsu : ∀ (a : Addr) (oe : Obj) (cls : Value) (d : Option Addr) (pn : List (Addr × Obj)), Zc cls d oe → (∃ vs, oe.data = .fields vs) → PSs (X.suite a ((a, oe) :: pn)) (b0 :: suite) (k.ts a cls d))
      (r : ClsOk X hs l) : ClsOk X (.ExceptHandler (some (.Name x np)) (some n) (b0 :: suite) pos :: hs) (k :: l)
section
variable {X : Cx} {body : List Stmt} {h0 : ExceptHandler} {hs : List ExceptHandler} {l : List Cl} {pos : Pos} {tb : WX → TS} {Wout : WX}
theorem ps_try_cls (hst : X.stack = X.env :: X.outer) (hfr : X.env.frame = some X.env.locals) (hN : X.N.Nodup) (tk : Takes X Wout)
    (hb : ∀ (W : WX) (pn : List (Addr × Obj)) (xe : Value → Shared → Prop), Takes (X.tr pn xe) W → PassesOwn (model X.prog X.w) X.A X.env xe → PSs (X.tr pn xe) body (tb W))
    (hh : ClsOk X (h0 :: hs) l) : PS X (.Try body (h0 :: hs) [] [] pos) (fun D σ H => tb (wCls X.K Wout D l) D σ H) := by
  constructor
  intro pins s σ H D I h
  have ok := I.ok
  have frames : X.A.frames = some (X.env :: X.outer) := by rw [ok.frames, hst]
  refine wpAny_Try_except ?_
  refine wpAny_mono ((hb (wCls X.K Wout D l) (X.pn ++ pins) _ (fun e s' xx => ?_) PassesOwn.looking).run [] s σ H D (I.toTry _) h) (fun f s1 done => ?_) (fun e s1 he => he)
  · obtain ⟨a, B, sI, pins', σ', H', cls, d, rfl, J', nb, up, sky, na, os, ag, w⟩ := xx
    have J : Inv X pins σ' H' sI := J'.ofTry ok
    rw [hst] at sky
    show wpAny (model X.prog X.w) X.A (noteFrame (.ref a) X.env) _ _ _
    refine Sky.land Zc.steady frames hfr sky fun h3 fl3 up3 => ?_
    obtain ⟨oe3, vs3, he3, hz3, hd3⟩ := fl3.there
    have noFrame : a ∉ frs (X.env :: X.outer) := fun hm => by
      obtain ⟨_, o', e', hnf⟩ := (fl3.2.2.1 : h3.FunFrames B (X.env :: X.outer)).mem hm
      rw [he3] at e'
      cases e'
      exact hnf _ hd3
    have nL : a ≠ X.env.locals := fun z => noFrame (List.mem_filterMap.mpr ⟨X.env, List.mem_cons_self, by rw [hfr, z]⟩)
    have nF : a ∉ X.fs := fun hm => by
      obtain ⟨e, he, q⟩ := List.mem_filterMap.mp hm
      exact noFrame (List.mem_filterMap.mpr ⟨e, List.mem_cons_of_mem _ he, q⟩)
    have J3 : Inv X pins σ' H' { s' with heap := h3 } := J.landed nb fl3.1 (up.trans up3) os ag
    have S3 := J3.suite he3 hd3 na nL nF
    -- clause by clause
    have go : ∀ {hs' : List ExceptHandler} {l' : List Cl}, ClsOk X hs' l' → wCls X.K Wout D l' cls d σ' H' → wpAny (model X.prog X.w) X.A (handleBy (.ref a) X.env hs') (SP X pins D) X.xe { s' with heap := h3 } := by
      intro hs' l' ck
      induction ck with
      | nil =>
        intro w
        refine wpAny_handleBy_nil ?_
        obtain ⟨k1, k2, k3, oe, vs, T, oT, ts', he, hz, hd, h1, hr⟩ := id fl3
        unfold PySem.passOn
        refine wpAny_bind (wpAny_field he hd h1 ?_)
        rw [if_neg (show ¬ ((Value.ref T == Value.none) = true) from by simp)]
        have out : wpAny (model X.prog X.w) X.A (setFlight (.ref a) X.env.frame) (fun _ s4 => wpAny (model X.prog X.w) X.A (throw (.ref a) : Sem Flow) (SP X pins D) X.xe s4) X.xe { s' with heap := h3 } := by
          rw [hfr]
          refine HandSPX.setFlight_upZ fl3 fun h4 hh4 up4 => wpAny_throw (tk _ _ ?_)
          exact ⟨a, B, sI, pins, σ', H', cls, d, rfl, J, nb, (up.trans up3).trans up4, .inr (.inr (by rw [hst]; exact hh4)), na, os, ag, w⟩
        first
          | exact wpAny_bind (wpAny_pure (wpAny_bind out))
          | exact wpAny_bind out
      | @cons x n k b0 suite np pos' hs2 l2 hc hi hn hsu r ih =>
        intro w
        obtain ⟨b, hb1, yes, no⟩ := w
        refine wpAny_handleBy_cons (codeAny_handlers_test ?_) (by intro q; cases q)
        have T1 : PySem.W.Looks (model X.prog X.w) h3 (typeOf (.ref a)) cls := fun A Q E s kk q => wpAny_typeOf_ref (kk _ _ he3) (by rw [hz3.1]; exact q)
        have T2 := PySem.W.exm_one (M := model X.prog X.w) J3.kIn T1 hb1
        have ask : ∀ {Q : Value → Shared → Prop} {E : Value → Shared → Prop}, Q k.c { s' with heap := h3 } → wpAny (model X.prog X.w) (X.A.mark (some (.ref a))) (eval (.Name x np) X.env) Q E { s' with heap := h3 } := fun {Q E} q => by
          obtain ⟨g1, g2, g3⟩ := hc
          cases g3 with
          | inl hm => exact ld_glob (X := X.suite a ((a, oe3) :: (X.pn ++ pins))) S3 g1 hm q g2
          | inr hm => exact ld_blt (X := X.suite a ((a, oe3) :: (X.pn ++ pins))) S3 g1 hm.1 hm.2.1 q hm.2.2 g2
        refine ask (T2.here ?_)
        cases b with
        | false =>
          show wpAny _ X.A (handleBy (.ref a) X.env hs2) _ _ _
          exact ih (no rfl)
        | true =>
          refine codeAny_handlers_suite_as ?_
          refine HandSPX.lands_againZ fl3 fun h4 fl4 up4 => ?_
          obtain ⟨oe4, vs4, he4, hz4, hd4⟩ := fl4.there
          have J4 : Inv X pins σ' H' { s' with heap := h4 } := J.landed nb fl4.1 ((up.trans up3).trans up4) os ag
          have S4 := J4.suite he4 hd4 na nL nF
          refine store_ok (X := X.suite a ((a, oe4) :: (X.pn ++ pins))) (v := .ref a) S4 hN hi (.inl hn) rfl (fun s5 S5 => ?_) (.inr hn)
          refine wpAny_mono ((hsu a oe4 cls d (X.pn ++ pins) hz4 ⟨_, hd4⟩).run [] s5 _ H' (gone D k.i) S5 (yes rfl a na)) (fun f s6 res => ?_) (fun _ _ z => z.elim)
          have fin : ∀ {σ6 : L2.St} {H6 : Hp} {Q : Shared → Prop}, Inv (X.suite a ((a, oe4) :: (X.pn ++ pins))) [] σ6 H6 s6 → (∀ s7, Inv X pins (σ6.set k.i Option.none) H6 s7 → Q s7) →
              wpAny (model X.prog X.w) X.A (do bindName X.env n .none; unbindBehindTheSuite X.env n pos') (fun _ s7 => Q s7) X.xe s6 := fun {σ6 H6 Q} S6 hq => gone_ok (S6.unsuite ok) hN hi hn hq
          cases f with
          | next =>
            obtain ⟨σ6, H6, S6, q6⟩ := res
            exact fin S6 fun s7 J7 => ⟨_, _, J7, q6⟩
          | brk =>
            obtain ⟨σ6, H6, S6, q6⟩ := res
            exact fin S6 fun s7 J7 => ⟨_, _, J7, q6⟩
          | cont =>
            obtain ⟨σ6, H6, S6, q6⟩ := res
            exact fin S6 fun s7 J7 => ⟨_, _, J7, q6⟩
          | ret u =>
            obtain ⟨v6, σ6, H6, S6, r6, q6⟩ := res
            exact fin S6 fun s7 J7 => ⟨_, _, _, J7, r6, q6⟩
    exact go hh w
  · cases f with
    | next =>
      obtain ⟨σ', H', J', q⟩ := done
      exact wpAny_execs_nil ⟨σ', H', J'.ofTry ok, q⟩
    | brk =>
      obtain ⟨σ', H', J', q⟩ := done
      exact ⟨σ', H', J'.ofTry ok, q⟩
    | cont =>
      obtain ⟨σ', H', J', q⟩ := done
      exact ⟨σ', H', J'.ofTry ok, q⟩
    | ret u =>
      obtain ⟨v, σ', H', J', r, q⟩ := done
      exact ⟨v, σ', H', J'.ofTry ok, r, q⟩
end
end Ax
set_option maxHeartbeats 4000000
/-! Defs as they are called: a promise with where the def stands. -/
namespace Ax
open PySem PySem.Spec PyProof.Rows L2
/-- the def of the module's name x keeps sp -/
def Dn (P : Program) (w : World) (K : PySem.W.Frag) (mg : Str → Option Value) (base : Heap) (CX : CXT) (k : Nat) (x : Str) (ps : List Str) (sp : Sp) : Prop :=
  ∃ (f : Addr) (fd : FuncData), FnOk P w K mg base CX k f fd ps sp ∧ mg x = some (.ref f) ∧ PySem.W.keepIn K (.ref f) = true ∧ Binds K fd ps []
/-- the class of the module's name x: its __init__ keeps sp -/
def Dc (P : Program) (w : World) (K : PySem.W.Frag) (mg : Str → Option Value) (base : Heap) (CX : CXT) (k : Nat) (x : Str) (ps : List Str) (sp : Sp) : Prop :=
  ∃ (f : Addr) (fd : FuncData), FnOk P w K mg base CX k f fd ps sp ∧ mg x = some (.ref (He.ga K x)) ∧ Mk K (He.ga K x) f ∧ Binds K fd ps []
section
variable {X : Cx} {CX : CXT} {k : Nat} {ps : List Str} {sp : Sp} {E : XK} {x : Str} {p pos : Pos} {e : Expr} {es : List Expr} {t : TA}
theorem pe_dn (D : Dn X.prog X.w X.K X.mg X.base CX k x ps sp) (hr : Room k X.A) (hg : Gl X x) (hx : Passes CX X E) (ha : PA X (e :: es) t) (hdb : (x == ("__debug__" : Str)) = false := by decide)
    (he : starEach (e :: es) X.env = (false, eval e X.env) :: starEach es X.env := by rfl) (hpl : (backTo pos (starEach es X.env)).any (·.1) = false := by rfl) :
    PE X (.Call (.Name x p) (e :: es) [] pos) (tCall sp [] E t) := by
  obtain ⟨f, fd, F, hm, hk, hb⟩ := D
  exact pe_call F hr hg hm hk hb .nil hx ha hdb he hpl
theorem pe_dnS {E : L2.St → XK} (D : Dn X.prog X.w X.K X.mg X.base CX k x ps sp) (hr : Room k X.A) (hg : Gl X x) (hx : ∀ σ, PassesAt CX X σ (E σ)) (ha : PA X (e :: es) t) (hdb : (x == ("__debug__" : Str)) = false := by decide)
    (he : starEach (e :: es) X.env = (false, eval e X.env) :: starEach es X.env := by rfl) (hpl : (backTo pos (starEach es X.env)).any (·.1) = false := by rfl) :
    PE X (.Call (.Name x p) (e :: es) [] pos) (tCallS sp E t) := by
  obtain ⟨f, fd, F, hm, hk, hb⟩ := D
  exact pe_callS F hr hg hm hk hb hx ha hdb he hpl
theorem pe_dc (D : Dc X.prog X.w X.K X.mg X.base CX k x ps sp) (hr : Room (k + 1) X.A) (hg : Gl X x) (hx : Passes CX X E) (ha : PA X (e :: es) t) (hdb : (x == ("__debug__" : Str)) = false := by decide)
    (he : starEach (e :: es) X.env = (false, eval e X.env) :: starEach es X.env := by rfl) (hpl : (backTo pos (starEach es X.env)).any (·.1) = false := by rfl) :
    PE X (.Call (.Name x p) (e :: es) [] pos) (tMake (He.ga X.K x) sp [] E t) := by
  obtain ⟨f, fd, F, hm, hk, hb⟩ := D
  exact pe_make hk F hr hg hm hb .nil hx ha hdb he hpl
end
section
variable {P : Program} {w : World} {K : PySem.W.Frag} {mg : Str → Option Value} {base : Heap} {CX : CXT} {k : Nat} {x : Str} {ps : List Str} {sp sp' : Sp}
theorem Dn.mono {j : Nat} (D : Dn P w K mg base CX j x ps sp) (h : j ≤ k) : Dn P w K mg base CX k x ps sp := let ⟨f, fd, F, a, b, c⟩ := D; ⟨f, fd, F.mono h, a, b, c⟩
theorem Dn.imp (D : Dn P w K mg base CX k x ps sp) (h : ∀ vs H Q E, sp' vs H Q E → sp vs H Q E) : Dn P w K mg base CX k x ps sp' := let ⟨f, fd, F, a, b, c⟩ := D; ⟨f, fd, F.imp h, a, b, c⟩
theorem Dc.mono {j : Nat} (D : Dc P w K mg base CX j x ps sp) (h : j ≤ k) : Dc P w K mg base CX k x ps sp := let ⟨f, fd, F, a, b, c⟩ := D; ⟨f, fd, F.mono h, a, b, c⟩
end
/-! ### what grows beside the rest -/
theorem ext_del {H : Hp} {D : Addr} : Ext (del H D) H := fun a o h => by
  by_cases c : a = D
  · rw [c, del_same] at h
    cases h
  · rw [del_ne c] at h
    exact h
theorem ext_delD {H H' : Hp} {D : Addr} (e : Ext H H') : Ext (del H D) (del H' D) := fun a o h => by
  by_cases c : a = D
  · rw [c, del_same] at h
    cases h
  · rw [del_ne c] at h ⊢
    exact e a o h
theorem del_none {H : Hp} {D : Addr} (h : H D = none) : del H D = H := funext fun a => by
  by_cases c : a = D
  · rw [c, del_same, h]
  · rw [del_ne c]
theorem del_upd {H : Hp} {D : Addr} {o : HO} : del (upd H D o) D = del H D := funext fun a => by
  by_cases c : a = D
  · rw [c, del_same, del_same]
  · rw [del_ne c, del_ne c, upd_ne c]
theorem ext_upd_of {H B : Hp} {D : Addr} {o : HO} (e : Ext B H) (h : B D = none) : Ext B (upd H D o) := fun a u q => by
  rw [upd_ne (ne_of_none q h)]
  exact e a u q
theorem ext_del_of {H B : Hp} {D : Addr} (e : Ext B H) (h : B D = none) : Ext B (del H D) := fun a u q => by
  rw [del_ne (ne_of_none q h)]
  exact e a u q
theorem yes_go {σ : L2.St} {H : Hp} {Q : Bool → Hp → Prop} (h : Q true H) : tYes σ H Q := h
section
variable {J : It} {n : Nat} {G : Hp → Prop} {Y : Nat → Hp → V → Hp → Prop}
def Pacc (R : Nat → List V → Hp → Prop) (D : Addr) (i : Nat) (H : Hp) : Prop := ∃ acc, H D = some (.lst acc) ∧ acc.length ≤ i ∧ R i acc (del H D)
theorem acc_add {R : Nat → List V → Hp → Prop} {D : Addr} {i : Nat} {H : Hp} {acc : List V} {y : V} (h : H D = some (.lst acc)) (hl : acc.length ≤ i) (hi : i < sizeLine) (r : R (i + 1) (acc ++ [y]) (del H D)) :
    ∃ acc, H D = some (.lst acc) ∧ acc.length < sizeLine ∧ Pacc R D (i + 1) (upd H D (.lst (acc ++ [y]))) :=
  ⟨acc, h, by omega, acc ++ [y], upd_same, by simp; omega, by rw [del_upd]; exact r⟩
theorem acc_skip {R : Nat → List V → Hp → Prop} {D : Addr} {i : Nat} {H : Hp} {acc : List V} (h : H D = some (.lst acc)) (hl : acc.length ≤ i) (r : R (i + 1) acc (del H D)) : Pacc R D (i + 1) H := ⟨acc, h, by omega, r⟩
/-- a comprehension whose new list is told apart from the rest -/
theorem lc_acc (w : Walk J n G Y) {g : TG} {tt : TT} {te : TE} {vs : List Nat} {σ : L2.St} {H1 : Hp} {D : Addr} {Qd : Hp → Prop} (hD : H1 D = none) (R : Nat → List V → Hp → Prop) (r0 : R 0 [] H1)
    (hG : ∀ i acc H, i ≤ n → H D = some (.lst acc) → R i acc (del H D) → G H)
    (hs : ∀ i x H H' acc, i < n → H D = some (.lst acc) → acc.length ≤ i → R i acc (del H D) → Y i H x H' → g x (wipe σ vs) H' fun σ2 H2 => wipe σ2 vs = wipe σ vs ∧ tt σ2 H2 fun b H3 =>
      if b = true then te σ2 H3 fun y H4 => ∃ acc, H4 D = some (.lst acc) ∧ acc.length < sizeLine ∧ Pacc R D (i + 1) (upd H4 D (.lst (acc ++ [y]))) else Pacc R D (i + 1) H3)
    (hd : ∀ H acc, H D = some (.lst acc) → acc.length ≤ n → R n acc (del H D) → Qd H) :
    ∃ W : Nat → Nat → Hp → Prop, (∃ m, W 0 m (upd H1 D (.lst []))) ∧ ∀ i m H, W i m H →
      (J.stop i H ∧ Qd H) ∨ (J.go i H ∧ ∃ Nx : Hp → Prop, (∀ H', Nx H' → ∃ m', m' < m ∧ W (i + 1) m' H') ∧ ∀ x H', J.yld i H x H' → g x (wipe σ vs) H' fun σ2 H2 => wipe σ2 vs = wipe σ vs ∧ tt σ2 H2 fun b H3 =>
        if b = true then te σ2 H3 fun y H4 => ∃ acc, H4 D = some (.lst acc) ∧ acc.length < sizeLine ∧ Nx (upd H4 D (.lst (acc ++ [y]))) else Nx H3) :=
  lc_it w (Pacc R D) ⟨[], upd_same, Nat.le_refl _, by rw [del_upd, del_none hD]; exact r0⟩ (fun i H hi ⟨acc, h1, h2, h3⟩ => hG i acc H hi h1 h3)
    (fun i x H H' hi ⟨acc, h1, h2, h3⟩ y => hs i x H H' acc hi h1 h2 h3 y) (fun H ⟨acc, h1, h2, h3⟩ => hd H acc h1 h2 h3)
end
end Ax
set_option maxHeartbeats 2000000
/-! t.count(x): a tuple of texts. -/
namespace Ax
open PySem PySem.Spec PyProof.Rows L2
variable {X : Cx}
theorem dpAll_strs {K : PySem.W.Frag} {H : Hp} : ∀ ys : List Str, DpAll K H (ys.map V.str) (ys.map PyData.str)
  | [] => .nil
  | y :: ys => .cons (.str y) (dpAll_strs ys)
theorem plain_strs : ∀ ys : List Str, PyData.plainAll (ys.map PyData.str) = true
  | [] => rfl
  | y :: ys => by
    show (PyData.plain (.str y) && PyData.plainAll (ys.map PyData.str)) = true
    rw [plain_strs ys]
    rfl
theorem depth_strs : ∀ ys : List Str, PyData.depthAll (ys.map PyData.str) = 0
  | [] => rfl
  | y :: ys => by
    show max (PyData.depth (.str y)) (PyData.depthAll (ys.map PyData.str)) = 0
    rw [depth_strs ys]
    rfl
theorem eqv_strs (y k : Str) : PyData.eqv (.str y) (.str k) = (y == k) := by
  first | rfl | (unfold PyData.eqv; rfl) | simp [PyData.eqv]
def rCntS (K : PySem.W.Frag) : V → List V → Hp → VK → Prop := fun x xs H Q => ∃ (p : Addr) (ys : List Str) (k : Str), x = .ref p ∧ xs = [.str k] ∧ SqT K H p (ys.map V.str) ∧ Q (.int (ys.count k : Nat)) H
theorem mt_tcountS (hu : X.A.units + 64 < cLine) : MtR X "tuple.count" (rCntS X.K) := by
  intro pins s σ H x xs v us Q I rx rxs h
  obtain ⟨p, ys, k, rfl, rfl, hs, q⟩ := h
  cases rx
  obtain ⟨u, rfl, ru⟩ := rxs.one
  obtain ⟨its, rv, p1, hlen⟩ := I.tuple hs
  obtain ⟨as, h4⟩ := Dp.readsAll I _ _ its (dpAll_strs ys) rv
  obtain ⟨bs, r1⟩ := Dp.reads I (.str k) (.str k) u (.str k) ru
  refine SeqAt.count_tuple_data (l := p) (vs := its.toArray) (xs := ys.map PyData.str) (d := .str k) p1 (show ReadsAll s.heap its.toArray.toList (ys.map PyData.str) as from h4) r1 (plain_strs ys) rfl ?_ ?_
  · have e := depth_strs ys
    omega
  · have ec : (ys.map PyData.str).countP (fun y => PyData.eqv y (.str k)) = ys.count k := by
      rw [List.countP_map]
      unfold List.count
      congr 1
    rw [ec]
    exact ⟨.int (ys.count k : Nat), H, I.tok _, ⟨s.toks, rfl⟩, q⟩
/-! ### tuples that have no dict -/
/-- tuple(l), told as the object itself -/
def rTupZ (K : PySem.W.Frag) : List V → Hp → VK → Prop := fun xs H Q => ∃ (p : Addr) (ys : List V), xs = [.ref p] ∧ SqL K H p ys ∧ ∀ (l : Addr) (ob : Obj), H l = none → ob.cls = .type "tuple" → (ob.dict = none ∧ ob.slots = #[]) → Q (.ref l) (upd H l (.frz ob (.tup ys)))
theorem call_tupZ : CallR X (.type "tuple") (rTupZ X.K) := by
  intro pins s σ H xs us Q I r h
  obtain ⟨p, ys, rfl, hq, q⟩ := h
  obtain ⟨u, rfl, rx⟩ := vals1 r
  cases rx
  obtain ⟨its, r', pl, hz⟩ := I.list hq
  have hlen := r'.length
  refine call_tuple_list pl.isList (fun h' kp => ?_) (by simp only [List.size_toArray] <;> omega)
  have I1 : Inv X pins σ H { s with heap := h' } := I.kept (t' := s.toks) kp
  have I2 : Inv X pins σ (upd H h'.objs.size (.frz { cls := .type "tuple", data := .seq its.toArray } (.tup ys))) { s with heap := h'.push { cls := .type "tuple", data := .seq its.toArray } } :=
    I1.laid (t' := s.toks) (fun b o e => Heap.get?_push_of_some _ e) (Nat.le_refl _)
      (show ObjOk X.prog X.w _ _ _ (.frz { cls := .type "tuple", data := .seq its.toArray } (.tup ys)) from ⟨Heap.get?_push_size _ rfl, hz, its, r', IsTup.new _ _⟩)
  exact ⟨.ref h'.objs.size, _, I2, rfl, q _ _ (I1.hok.fresh (Nat.le_refl _)) rfl ⟨rfl, rfl⟩⟩
/-- o.m(e), o such a tuple -/
def tTM (r : V → List V → Hp → VK → Prop) (to : TE) (t : TA) : TE := fun σ H Q => to σ H fun x H1 => (∃ (p : Addr) (ob : Obj) (xs : List V), x = .ref p ∧ H1 p = some (.frz ob (.tup xs)) ∧ ob.cls = .type "tuple" ∧ ob.dict = none) ∧ t σ H1 fun xs H2 => r x xs H2 Q
section
variable {o e : Expr} {es : List Expr} {to : TE} {t : TA} {name : Str} {apos cpos : Pos} {id : String} {r : V → List V → Hp → VK → Prop}
theorem pe_tm (slot : Slot "tuple" name id) (hty : typeOf (.builtin id) = pure (.type "method_descriptor")) (hm : MtR X id r) (ho : PE X o to) (ha : PA X (e :: es) t)
    (hbase : attributeBase o name X.env (eval o X.env) = eval o X.env := by rfl)
    (hfew : ((backTo cpos (starEach (e :: es) X.env)).all (fun x => !x.1) && (backToKw cpos (keywordEach [] X.env)).all (fun x => x.1.isSome)
      && decide ((e :: es).length + ([] : List Keyword).length + (if ([] : List Keyword).isEmpty then 0 else 1) < 30)) = true := by rfl)
    (hline : (apos.endLine == cpos.line) = true := by rfl) (hs : starEach (e :: es) X.env = (false, eval e X.env) :: starEach es X.env := by rfl) (hplain : (backTo cpos (starEach es X.env)).any (·.1) = false := by rfl) :
    PE X (.Call (.Attribute o name apos) (e :: es) [] cpos) (tTM r to t) := by
  refine ⟨fun pins s σ H Q I h => ?_⟩
  refine wpAny_Call_method_late hbase hfew hline rfl (thn (ho.run pins s σ H _ I h) fun v s1 ⟨x, H1, I1, r1, ty, q1⟩ => ?_)
  obtain ⟨p, ob, xs, rfl, hp, hc, hd⟩ := ty
  obtain rfl : v = Value.ref p := r1
  have hh : s1.heap.get? p = some ob := (I1.hok p _ hp).1
  refine ⟨"tuple", id, PySem.F.plainAttrs_tuple, slot, hty, ⟨ob, hh, hc⟩, fun a e => by cases e; exact ⟨ob, hh, hd⟩, ?_⟩
  have hA := ha.run cpos pins s1 σ H1 _ I1 q1
  rw [hs] at hA ⊢
  refine Calls.callWith_builtin (by show (false || (backTo cpos (starEach es X.env)).any (·.1)) = false; rw [hplain] <;> rfl) (Calls.evalArgs_plain ?_)
  exact thn hA fun us s2 ⟨vs, H2, I2, r2, q2⟩ => hm pins s2 σ H2 (.ref p) vs (.ref p) us Q I2 rfl r2 q2
end
end Ax
set_option maxHeartbeats 4000000
/-! enumerate over a tuple; a list extended by a tuple. -/
namespace PySem
open Sem (wp)
theorem ax_enum1 {v : Value} {o : Obj} {H : Heap → Prop} (B : Begins v o H) :
    Meets (Builtin.«enumerate.__new__» ⟨[.type "enumerate", v], []⟩) (fun _ R s => H s.heap ∧
      R (.ok (.ret (.ref (s.heap.push o).objs.size))) { s with heap := (s.heap.push o).push { cls := .type "enumerate", data := .fields #[.none, .bool false, .ref s.heap.objs.size, rawInt 0, .none, .none] } }) :=
  .of_wp fun prog w A R s h => by
    obtain ⟨hp, g, d, tk, os⟩ := s
    obtain ⟨h1, h⟩ := h
    have hsub := sub_enumerate
    have start : ∀ {A' : Around} {E : Value → Shared → Prop} {Q : Value → Shared → Prop}, Q (.ref hp.objs.size) ⟨hp.push o, g, d, tk, os⟩ → wpAny (model prog w) A' (pyIter v) Q E ⟨hp, g, d, tk, os⟩ :=
      fun q => B.iter prog w _ _ ⟨hp, g, d, tk, os⟩ _ h1 q
    wp_walk using start
    refine wpAny_stack_any fun st => wpAny_pure ?_
    split
    · rename_i c _ _ _ _ _
      cases (c == Value.type "enumerate") <;> (wp_walk using start; exact ⟨_, rfl, h⟩)
    · wp_walk using start
      exact ⟨_, rfl, h⟩
section
variable {prog : Program} {w : World} {A : Around} {E : Value → Shared → Prop} {s : Shared}
theorem ax_enumCall {v : Value} {o : Obj} {H : Heap → Prop} {Q : Value → Shared → Prop} (B : Begins v o H) (h1 : H s.heap)
    (h : ∀ h', IsEnum h' (s.heap.objs.size + 1) s.heap.objs.size 0 .none → h'.get? s.heap.objs.size = some o → (∀ b u, s.heap.get? b = some u → h'.get? b = some u) → Q (.ref (s.heap.objs.size + 1)) { s with heap := h' }) :
    wpAny (model prog w) A (call (.type "enumerate") [v]) Q E s := by
  have hz : (s.heap.push o).objs.size = s.heap.objs.size + 1 := Heap.size_push ..
  have at_ := Heap.get?_push_size (s.heap.push o) (o := ({ cls := .type "enumerate", data := .fields #[.none, .bool false, .ref s.heap.objs.size, rawInt 0, .none, .none] } : Obj)) rfl
  refine callType_new F.called_enumerate (by decide) (F.typeCall_enumerate_1 _) (F.newCall_enumerate_1 _) (fun obj => F.args_object_init_2 obj _) F.entry_enumerate_new (ax_enum1 B) ⟨h1, ?_⟩
  show _ ∧ _
  rw [hz] at at_ ⊢
  exact ⟨⟨_, at_, rfl⟩, h _ at_ (Heap.get?_push_of_some _ (Heap.get?_push_size _ B.free)) fun b u x => Heap.get?_push_of_some _ (Heap.get?_push_of_some _ x)⟩
end
end PySem
namespace Ax
open PySem PySem.Spec PyProof.Rows L2
def IteT (K : PySem.W.Frag) (a : Addr) : It :=
  ⟨fun i H => ∃ (xs : List V) (x : V), SqT K H a xs ∧ xs[i]? = some x, fun i H v H' => ∃ T x, v = .ref T ∧ H T = none ∧ H' = upd H T (.tup [.int (i : Nat), x]) ∧ ∀ xs, SqT K H a xs → xs[i]? = some x, fun i H => ∃ xs : List V, SqT K H a xs ∧ xs.length ≤ i⟩
theorem apart1 {h : Heap} {a e : Addr} {its : Array Value} {o : Obj} (p : h.IsTuple a its) (q : h.get? e = some o) (n : o.cls ≠ .type "tuple") : e ≠ a := fun z => by
  obtain ⟨u, hu, hc, _⟩ := p
  rw [z, hu] at q
  rw [← Option.some.inj q] at n
  exact n hc
theorem turn_enumT {P : Program} {w : World} {K : PySem.W.Frag} {elts : List Expr} {kk : Nat} {tpos : Pos} (a e it : Addr) :
    Turn P w K (.Tuple elts kk tpos) (IteT K a) [e, it] e (fun i h => (∃ old, IsEnum h e it ((i : Nat) : Int) old) ∧ h.IsTupleIter it a i ∧ e ≠ it) where
  mem := List.mem_cons_self
  obj := fun i h st b hb => by
    obtain ⟨⟨old, he⟩, ⟨o, ho, hc, hd⟩, _⟩ := st
    rcases List.mem_cons.mp hb with z | z
    · subst z
      exact ⟨_, he, fun v q => nomatch q⟩
    · have z2 := List.mem_singleton.mp z
      subst z2
      exact ⟨o, ho, fun v q => by rw [hd] at q; cases q⟩
  keep := fun i h h' st k => by
    obtain ⟨⟨old, he⟩, hi, hne⟩ := st
    exact ⟨⟨old, k e List.mem_cons_self _ he⟩, hi.at fun o q => k it (List.mem_cons_of_mem _ List.mem_cons_self) o q, hne⟩
  item := by
    intro X hP hw hK hc i pins s σ H E I hf st hg
    subst hP hw hK
    obtain ⟨⟨old, he⟩, hit, hne⟩ := st
    obtain ⟨xs, x, hq, hx⟩ := hg
    obtain ⟨its, rv, p, hz⟩ := I.tuple hq
    obtain ⟨u, hu, ru⟩ := rv.get hx
    have hel : e < s.heap.objs.size := Heap.lt_size he
    obtain ⟨oi, hoi, hci, hdi⟩ := id hit
    have hil : it < s.heap.objs.size := Heap.lt_size hoi
    have hea : e ≠ a := apart1 p he (by simp)
    have hia : it ≠ a := apart1 p hoi (by rw [hci]; simp)
    have hlt : i < its.toArray.size := by
      have := (List.getElem?_eq_some_iff.mp hu).1
      simpa using this
    refine wpAny_pyNext_enum_itemD (Draws.tuple (show X.A.in1.handled = none from I.ok.hd hc) it a (Ne.symm hia) its.toArray) he ⟨hit, p⟩ hlt hne (by simp [hne, hea]) fun y h' tk hPy ho hst hT hsz hk => ?_
    have hyu : y = u := by
      have e1 : its.toArray[i]? = some y := hPy
      rw [List.getElem?_toArray, hu] at e1
      exact (Option.some.inj e1).symm
    subst hyu
    refine ⟨_, rfl, wpAny_letOwnedTupleGo_enum (s := { s with heap := h', toks := tk + 1 }) ho fun h'' he' sb => ?_⟩
    have hT2 : h''.get? s.heap.objs.size = some { cls := .type "tuple", data := .seq #[.int i tk, y] } := (sb.2 _ (Nat.ne_of_gt hel)).trans hT
    have new : ObjOk X.prog X.w (upd H s.heap.objs.size (.tup [.int (i : Nat), x])) h'' s.heap.objs.size (.tup [.int (i : Nat), x]) :=
      ⟨by show 2 ≤ sizeLine; decide, [.int i tk, y], .cons ⟨_, rfl⟩ (.cons ru .nil), ⟨_, hT2, rfl, _, rfl⟩⟩
    have I1 : Inv X pins σ (upd H s.heap.objs.size (.tup [.int (i : Nat), x])) { s with heap := h'', toks := tk + 1 } :=
      I.turnedNew (ch := [e, it]) (fun b ob hb q => (sb.2 b (fun z => hb (by simp [z]))).trans (hk b ob (fun z => hb (by simp [z])) (fun z => hb (by simp [z])) q)) hf (Nat.le_refl _) new
    have e1 : ((i + 1 : Nat) : Int) = (i : Int) + 1 := by omega
    refine ⟨.ref s.heap.objs.size, _, I1, rfl, ⟨_, x, rfl, I.hok.fresh (Nat.le_refl _), rfl, fun ys hy => by rw [I.tuple_inj hy hq]; exact hx⟩, ⟨⟨y, by rw [e1]; exact he'⟩, hst.1.at fun o q => (sb.2 it (Ne.symm hne)).trans q, hne⟩, fun b hb => ?_⟩
    have hb' : b < s.heap.objs.size := by
      rcases List.mem_cons.mp hb with z | z
      · rw [z]; exact hel
      · rw [List.mem_singleton.mp z]; exact hil
    rw [upd_ne (Nat.ne_of_lt hb')]
    exact (hf b hb).1
  done := by
    intro X hP hw hK hc i pins s σ H E I hf st hg
    subst hP hw hK
    obtain ⟨⟨old, he⟩, hit, hne⟩ := st
    obtain ⟨xs, hq, hx⟩ := hg
    obtain ⟨its, rv, p, hz⟩ := I.tuple hq
    have hh : X.A.in1.handled = none := I.ok.hd hc
    have hl := rv.length
    have hnone : its.toArray[i]? = none := by
      rw [List.getElem?_toArray]
      exact List.getElem?_eq_none (by omega)
    have D : Draws X.prog X.w X.A.in1 it [it, a] i (fun _ _ => True) (fun j h => j = i ∧ h.IsTupleIter it a i ∧ h.IsTuple a its.toArray) :=
      { live := fun _ _ st => let ⟨_, ⟨o, ho, _⟩, _⟩ := st; ⟨o, ho⟩
        frame := fun _ _ _ st hk => ⟨st.1, st.2.1.at fun o e => hk it List.mem_cons_self o e, st.2.2.at fun o e => hk a (List.mem_cons_of_mem _ List.mem_cons_self) o e⟩
        item := fun j s Q E hj st _ => absurd st.1 (Nat.ne_of_lt hj)
        done := fun s Q E st hE => wpAny_nextOf_tuple_end hh st.2.1 st.2.2 hnone hE }
    obtain ⟨f0, f1, f2, f3, f4, f5⟩ := hf it (List.mem_cons_of_mem _ List.mem_cons_self)
    exact wpAny_pyNext_enum_endD D he ⟨rfl, hit, p⟩ fun h' eb => ⟨rfl, I.turned (t' := s.toks) (fun b o hb q => eb b o hb q) f0 f1 f3 f4 f5⟩
  self := fun A i s Q E st h => let ⟨⟨_, he⟩, _⟩ := st; wpAny_pyIter_enum he h
def iEnumT (K : PySem.W.Frag) (ta : TA) : TI := fun σ H R => ta σ H fun vs H1 => ∃ a xs, vs = [.ref a] ∧ SqT K H1 a xs ∧ R (IteT K a) H1
theorem pi_enumT {X : Cx} {e : Expr} {ta : TA} {p pos tpos : Pos} {elts : List Expr} {kk : Nat} (hg : Gl X "enumerate") (hm : X.mg "enumerate" = none) (ha : PA X [e] ta) (hs : starEach [e] X.env = [(false, eval e X.env)] := by rfl) :
    PI X (.Tuple elts kk tpos) (.Call (.Name "enumerate" p) [e] [] pos) (iEnumT X.K ta) := by
  constructor
  intro pins s σ H R I h
  refine Call_ (ld_blt I hg hm boot_enumerate (PyProof.Rows.callWith_type1 (thn (ha.run pos pins s σ H _ I h) fun us s1 got => ?_) hs rfl))
  obtain ⟨vs, H1, I1, r1, a, xs, rfl, hq, q⟩ := got
  obtain ⟨u, rfl, ru⟩ := vals1 r1
  obtain rfl : u = Value.ref a := ru
  obtain ⟨its, rv, pt, hz⟩ := I1.tuple hq
  refine ax_enumCall (begins_tuple a its.toArray) pt fun h' he hi hk => wpAny_pyIter_enum he ?_
  have I2 : Inv X pins σ H1 { s1 with heap := h' } := I1.kept (t' := s1.toks) hk
  refine ⟨s1.heap.objs.size + 1, [s1.heap.objs.size + 1, s1.heap.objs.size], _, _, H1, rfl, I2, turn_enumT a (s1.heap.objs.size + 1) s1.heap.objs.size, ⟨⟨.none, he⟩, ⟨_, hi, rfl, rfl⟩, Nat.succ_ne_self _⟩, fun b hb => ?_, q⟩
  have hle : s1.heap.objs.size ≤ b := by
    rcases List.mem_cons.mp hb with z | z
    · rw [z]; exact Nat.le_add_right _ _
    · rw [List.mem_singleton.mp z]; exact Nat.le_refl _
  exact I1.fpOk hle (I1.hok.fresh hle)
theorem walk_enumT {K : PySem.W.Frag} {a : Addr} {xs : List V} : Walk (IteT K a) xs.length (fun H => SqT K H a xs) (YPair (fun i => some (.int (i : Nat))) (fun i => xs[i]?)) := by
  refine ⟨fun i _ hi q => ⟨xs, xs[i], q, List.getElem?_eq_getElem hi⟩, fun _ q => ⟨xs, q, Nat.le_refl _⟩, fun i H v H' _ q y => ?_⟩
  obtain ⟨T, x, h1, h2, h3, h4⟩ := y
  exact ⟨T, _, x, h1, h2, h3, rfl, h4 xs q⟩
/-! ### xs.extend(t) -/
def rExtT : V → List V → Hp → VK → Prop := fun x vs H Q => ∃ (l b : Addr) (xs zs : List V) (ob : Obj), x = .ref l ∧ vs = [.ref b] ∧ H l = some (.lst xs) ∧ H b = some (.frz ob (.tup zs)) ∧ ob.cls = .type "tuple" ∧ (ob.dict = none ∧ ob.slots = #[]) ∧ xs.length + zs.length ≤ sizeLine ∧ Q .non (upd H l (.lst (xs ++ zs)))
theorem mt_extendT {X : Cx} : MtM X "list.extend" rExtT := by
  intro pins s σ H x vs v us Q I rx rv h
  obtain ⟨l, b, xs, zs, ob, rfl, rfl, hH, hB, hc, ⟨hd, hs⟩, hz, q⟩ := h
  cases rx
  obtain ⟨u, rfl, ru⟩ := rv.one
  cases ru
  obtain ⟨z, its, n, r, hl, e⟩ := I.lstM hH
  obtain ⟨e2, z2, its2, r2, ob2, e3, hc2, n2, hd2⟩ := I.hok b _ hB
  rw [e2] at e3
  cases Option.some.inj e3
  have l1 := r.length
  have l2 := r2.length
  have eo : ob = { cls := .type "tuple", dict := none, data := .seq its2.toArray n2, slots := #[] } := by
    obtain ⟨oc, od, dt, sl⟩ := ob
    dsimp only at hc hd hs hd2
    rw [hc, hd, hs, hd2]
  rw [eo] at e2
  have hsz : its.toArray.size + its2.toArray.size ≤ sizeLine := by
    rw [List.size_toArray, List.size_toArray]
    omega
  have few : ¬ (!its.toArray.isEmpty && Builtin.List.listTooLong (its.toArray.size + its2.toArray.size)) = true := by
    rw [notLongL hsz, Bool.and_false]
    exact Bool.false_ne_true
  refine call_meets F.slot_list_extend ⟨_, e, rfl⟩ F.entry_list_extend (F.args_list_extend_2 _ _) (AutoSeq1.list_extend_list_tuple_0 l its.toArray n b its2.toArray n2 few (by omega) (by omega)) ⟨e, e2, ?_⟩
  refine ⟨.non, _, I.lset (its' := its ++ its2) hH e (by simp) (r.append r2) ?_, rfl, q⟩
  rw [List.length_append]
  omega
end Ax
set_option maxHeartbeats 2000000
/-! A layer of data over the hand layer: values as data, lists of a def's own, the law's bag; what a step leaves. -/
namespace DL
open PySem PySem.Spec PyProof.Rows L2 Ax
inductive D where
  | non | bl (b : Bool) | int (i : Int) | str (x : Str) | lst (ds : List D) | tup (ds : List D) | ins (C : Str) (ks : List Str) (ds : List D)
mutual
def toP : D → PyData
  | .non => .none
  | .bl b => .bool b
  | .int i => .int i
  | .str x => .str x
  | .lst ds => .list (toPs ds)
  | .tup ds => .tuple (toPs ds)
  | .ins _ _ _ => .dict []
def toPs : List D → List PyData
  | [] => []
  | d :: ds => toP d :: toPs ds
end
mutual
/-- no instance within -/
def pureD : D → Bool
  | .lst ds => pureA ds
  | .tup ds => pureA ds
  | .ins _ _ _ => false
  | _ => true
def pureA : List D → Bool
  | [] => true
  | d :: ds => pureD d && pureA ds
end
theorem toPs_map : ∀ ds : List D, toPs ds = ds.map toP
  | [] => by simp [toPs]
  | d :: ds => by simp [toPs, toPs_map ds]
mutual
inductive Rp (K : PySem.W.Frag) (B : Hp) : V → D → Prop
  | non : Rp K B .non .non
  | bl (b : Bool) : Rp K B (.bl b) (.bl b)
  | int (i : Int) : Rp K B (.int i) (.int i)
  | str (x : Str) : Rp K B (.str x) (.str x)
  | lst {a : Addr} {xs : List V} {ds : List D} : B a = some (.lst xs) → RpA K B xs ds → Rp K B (.ref a) (.lst ds)
  | tup {a : Addr} {xs : List V} {ds : List D} : SqT K B a xs → RpA K B xs ds → Rp K B (.ref a) (.tup ds)
  | ins {a dx : Addr} {C : Str} {ks : List Str} {xs : List V} {ds : List D} : B a = some (.ins (He.ga K C) dx (ks.zip xs)) → xs.length = ks.length → RpA K B xs ds → Rp K B (.ref a) (.ins C ks ds)
inductive RpA (K : PySem.W.Frag) (B : Hp) : List V → List D → Prop
  | nil : RpA K B [] []
  | cons {v : V} {vs : List V} {d : D} {ds : List D} : Rp K B v d → RpA K B vs ds → RpA K B (v :: vs) (d :: ds)
end
section
variable {K : PySem.W.Frag} {B B' : Hp}
mutual
theorem Rp.ext (x : Ext B B') : ∀ {v : V} {d : D}, Rp K B v d → Rp K B' v d
  | _, _, .non => .non
  | _, _, .bl b => .bl b
  | _, _, .int i => .int i
  | _, _, .str s => .str s
  | _, _, .lst h g => .lst (x _ _ h) (RpA.ext x g)
  | _, _, .tup h g => .tup (h.ext x) (RpA.ext x g)
  | _, _, .ins h e g => .ins (x _ _ h) e (RpA.ext x g)
theorem RpA.ext (x : Ext B B') : ∀ {vs : List V} {ds : List D}, RpA K B vs ds → RpA K B' vs ds
  | _, _, .nil => .nil
  | _, _, .cons h g => .cons (Rp.ext x h) (RpA.ext x g)
end
mutual
theorem Rp.dp : ∀ {v : V} {d : D}, Rp K B v d → pureD d = true → Dp K B v (toP d)
  | _, _, .non, _ => .non
  | _, _, .bl b, _ => .bl b
  | _, _, .int i, _ => .int i
  | _, _, .str s, _ => .str s
  | _, _, .lst h g, p => .lst (SqL.of h) (RpA.dp g (by simpa [pureD] using p))
  | _, _, .tup h g, p => .tup h (RpA.dp g (by simpa [pureD] using p))
  | _, _, .ins _ _ _, p => by simp [pureD] at p
theorem RpA.dp : ∀ {vs : List V} {ds : List D}, RpA K B vs ds → pureA ds = true → DpAll K B vs (toPs ds)
  | _, _, .nil, _ => by simp only [toPs]; exact .nil
  | _, _, .cons h g, p => by
    simp only [pureA, Bool.and_eq_true] at p
    simp only [toPs]
    exact .cons (Rp.dp h p.1) (RpA.dp g p.2)
end
theorem RpA.len : ∀ {vs : List V} {ds : List D}, RpA K B vs ds → vs.length = ds.length
  | _, _, .nil => rfl
  | _, _, .cons _ g => congrArg (· + 1) (RpA.len g)
theorem RpA.get : ∀ {vs : List V} {ds : List D}, RpA K B vs ds → ∀ {i : Nat} {v : V}, vs[i]? = some v → ∃ d, ds[i]? = some d ∧ Rp K B v d
  | _, _, .nil, i, v, h => by simp at h
  | _, _, .cons h g, 0, v, e => by
    simp only [List.getElem?_cons_zero, Option.some.injEq] at e
    subst e
    exact ⟨_, by simp, h⟩
  | _, _, .cons h g, i + 1, v, e => by
    simp only [List.getElem?_cons_succ] at e ⊢
    exact RpA.get g e
theorem RpA.getD : ∀ {vs : List V} {ds : List D}, RpA K B vs ds → ∀ {i : Nat} {d : D}, ds[i]? = some d → ∃ v, vs[i]? = some v ∧ Rp K B v d
  | _, _, .nil, i, v, h => by simp at h
  | _, _, .cons h g, 0, v, e => by
    simp only [List.getElem?_cons_zero, Option.some.injEq] at e
    subst e
    exact ⟨_, by simp, h⟩
  | _, _, .cons h g, i + 1, v, e => by
    simp only [List.getElem?_cons_succ] at e ⊢
    exact RpA.getD g e
theorem RpA.app : ∀ {vs ws : List V} {ds es : List D}, RpA K B vs ds → RpA K B ws es → RpA K B (vs ++ ws) (ds ++ es)
  | _, _, _, _, .nil, g => g
  | _, _, _, _, .cons h t, g => .cons h (RpA.app t g)
theorem RpA.snoc {vs : List V} {ds : List D} {v : V} {d : D} (h : RpA K B vs ds) (g : Rp K B v d) : RpA K B (vs ++ [v]) (ds ++ [d]) := h.app (.cons g .nil)
theorem RpA.take : ∀ {vs : List V} {ds : List D} (n : Nat), RpA K B vs ds → RpA K B (vs.take n) (ds.take n)
  | _, _, 0, _ => .nil
  | _, _, _ + 1, .nil => .nil
  | _, _, n + 1, .cons h t => .cons h (RpA.take n t)
theorem RpA.drop : ∀ {vs : List V} {ds : List D} (n : Nat), RpA K B vs ds → RpA K B (vs.drop n) (ds.drop n)
  | _, _, 0, h => h
  | _, _, _ + 1, .nil => .nil
  | _, _, n + 1, .cons _ t => RpA.drop n t
theorem RpA.erase : ∀ {vs : List V} {ds : List D} (n : Nat), RpA K B vs ds → RpA K B (vs.eraseIdx n) (ds.eraseIdx n)
  | _, _, _, .nil => .nil
  | _, _, 0, .cons _ t => t
  | _, _, n + 1, .cons h t => .cons h (RpA.erase n t)
theorem RpA.set {v : V} {d : D} (r : Rp K B v d) : ∀ {vs : List V} {ds : List D} (n : Nat), RpA K B vs ds → RpA K B (vs.set n v) (ds.set n d)
  | _, _, _, .nil => .nil
  | _, _, 0, .cons _ t => .cons r t
  | _, _, n + 1, .cons h t => .cons h (RpA.set r n t)
theorem RpA.rev : ∀ {vs : List V} {ds : List D}, RpA K B vs ds → RpA K B vs.reverse ds.reverse
  | _, _, .nil => .nil
  | _, _, .cons h t => by
    rw [List.reverse_cons, List.reverse_cons]
    exact (RpA.rev t).snoc h
end
/-! ### keys of dicts as data -/
mutual
def dN : NK → D
  | .none => .non
  | .num i => .int i
  | .text x => .str x
  | .tup ks => .tup (dNs ks)
def dNs : List NK → List D
  | [] => []
  | k :: ks => dN k :: dNs ks
end
mutual
theorem toP_dN : ∀ k : NK, toP (dN k) = nkD k
  | .none => by simp [dN, toP, nkD]
  | .num i => by simp [dN, toP, nkD]
  | .text x => by simp [dN, toP, nkD]
  | .tup ks => by simp [dN, toP, nkD, toPs_dN ks]
theorem toPs_dN : ∀ ks : List NK, toPs (dNs ks) = nkDs ks
  | [] => by simp [dNs, toPs, nkDs]
  | k :: ks => by simp [dNs, toPs, nkDs, toP_dN k, toPs_dN ks]
end
mutual
theorem pure_dN : ∀ k : NK, pureD (dN k) = true
  | .none => by simp [dN, pureD]
  | .num i => by simp [dN, pureD]
  | .text x => by simp [dN, pureD]
  | .tup ks => by simp [dN, pureD, pure_dNs ks]
theorem pure_dNs : ∀ ks : List NK, pureA (dNs ks) = true
  | [] => by simp [dNs, pureA]
  | k :: ks => by simp [dNs, pureA, pure_dN k, pure_dNs ks]
end
/-! ### what a def knows: its slots as data -/
inductive En where
  | val (d : D) | own (ds : List D) | dct (kvs : List (NK × D)) | dck (kvs : List (L2.Key × D)) | bag
def En.isOwn : En → Bool
  | .own _ => true
  | .dct _ => true
  | .dck _ => true
  | _ => false
structure Stt where
  r : List (Option En)
  n : Nat
inductive W where
  | dat (d : D) | loc (i : Nat) | new (ds : List D)
structure Bd where
  P : Program
  w : World
  K : PySem.W.Frag
instance : CoeOut Bd PySem.W.Frag := ⟨fun b => b.K⟩
structure Fx where
  bd : Bd
  b : Addr
  c : Addr
  ms : List Int
  on : Bool
abbrev Fx.P (F : Fx) : Program := F.bd.P
abbrev Fx.w (F : Fx) : World := F.bd.w
abbrev Fx.K (F : Fx) : PySem.W.Frag := F.bd.K
def BagAt (H : Hp) (b c : Addr) (ms : List Int) (n : Nat) : Prop := ∃ t r : Int, H b = some (.lst [.ref c, .int t, .int r]) ∧ H c = some (.lst (ms.map V.int)) ∧ b ≠ c ∧ 0 ≤ t ∧ t ≤ n ∧ 0 ≤ r ∧ ms ≠ [] ∧ ms.length ≤ 63 ∧ ∀ m ∈ ms, 0 ≤ m
theorem BagAt.ext {H H' : Hp} {b c : Addr} {ms : List Int} {n : Nat} (h : BagAt H b c ms n) (x : Ext H H') : BagAt H' b c ms n := by
  obtain ⟨t, r, h1, h2, h3⟩ := h
  exact ⟨t, r, x _ _ h1, x _ _ h2, h3⟩
theorem BagAt.mono {H : Hp} {b c : Addr} {ms : List Int} {n m : Nat} (h : BagAt H b c ms n) (x : n ≤ m) : BagAt H b c ms m := by
  obtain ⟨t, r, h1, h2, h3, h4, h5, h6⟩ := h
  exact ⟨t, r, h1, h2, h3, h4, by omega, h6⟩
theorem BagAt.at_ {H H' : Hp} {b c : Addr} {ms : List Int} {n : Nat} (h : BagAt H b c ms n) (e1 : H' b = H b) (e2 : H' c = H c) : BagAt H' b c ms n := by
  obtain ⟨t, r, h1, h2, h3⟩ := h
  exact ⟨t, r, e1.trans h1, e2.trans h2, h3⟩
structure Cf where
  B : Hp
  H : Hp
  σ : L2.St
  s : Stt
def Own (c : Cf) (a : Addr) : Prop := ∃ (i : Nat) (e : En), c.s.r[i]? = some (some e) ∧ e.isOwn = true ∧ c.σ[i]? = some (some (V.ref a))
def MutA (F : Fx) (c : Cf) (a : Addr) : Prop := Own c a ∨ (F.on = true ∧ a = F.b)
/-- an entry of a dict with tuples as keys, of one with whole numbers and texts -/
def KtR (K : PySem.W.Frag) (B : Hp) (p : NK × Addr × V) (q : NK × D) : Prop := p.1 = q.1 ∧ p.1.depth ≤ 8 ∧ Rp K B (.ref p.2.1) (dN q.1) ∧ Rp K B p.2.2 q.2
def KkR (K : PySem.W.Frag) (B : Hp) (p : L2.Key × V) (q : L2.Key × D) : Prop := p.1 = q.1 ∧ Rp K B p.2 q.2
/-- what stands at l, a thing of one's own -/
def OwR (F : Fx) (B : Hp) (l : Addr) : En → HO → Prop
  | .own ds, o => ∃ vs, o = .lst vs ∧ RpA F.K B vs ds
  | .dct kvs, o => ∃ ks, o = NdO F.P F.w l ks ∧ Paired (KtR F.K B) ks kvs
  | .dck kvs, o => ∃ ks, o = .dK ks ∧ Paired (KkR F.K B) ks kvs
  | _, _ => False
theorem Paired.imp' {α β : Type} {R S : α → β → Prop} (h : ∀ a b, R a b → S a b) : ∀ {as : List α} {bs : List β}, Paired R as bs → Paired S as bs
  | _, _, .nil => .nil
  | _, _, .cons r t => .cons (h _ _ r) (Paired.imp' h t)
theorem OwR.ext {F : Fx} {B B' : Hp} {l : Addr} {e : En} {o : HO} (h : OwR F B l e o) (x : Ext B B') : OwR F B' l e o := by
  cases e with
  | own ds => obtain ⟨vs, h1, h2⟩ := h; exact ⟨vs, h1, h2.ext x⟩
  | dct kvs => obtain ⟨ks, h1, h2⟩ := h; exact ⟨ks, h1, Paired.imp' (fun p q ⟨a, c, d, e⟩ => ⟨a, c, d.ext x, e.ext x⟩) h2⟩
  | dck kvs => obtain ⟨ks, h1, h2⟩ := h; exact ⟨ks, h1, Paired.imp' (fun p q ⟨a, e⟩ => ⟨a, e.ext x⟩) h2⟩
  | _ => exact h.elim
theorem OwR.isOwn {F : Fx} {B : Hp} {l : Addr} {e : En} {o : HO} (h : OwR F B l e o) : e.isOwn = true := by
  cases e with
  | own ds => rfl
  | dct kvs => rfl
  | dck kvs => rfl
  | _ => exact h.elim
def OwE (F : Fx) (c : Cf) (i : Nat) (e : En) : Prop := ∃ l o, c.σ[i]? = some (some (.ref l)) ∧ c.H l = some o ∧ OwR F c.B l e o ∧ c.B l = none ∧ (F.on = true → l ≠ F.b ∧ l ≠ F.c)
def EnR (F : Fx) (c : Cf) (i : Nat) (e : En) : Prop := match e with
  | .val d => ∃ v, c.σ[i]? = some (some v) ∧ Rp F.K c.B v d
  | .bag => F.on = true ∧ c.σ[i]? = some (some (.ref F.b))
  | .own ds => OwE F c i (.own ds)
  | .dct kvs => OwE F c i (.dct kvs)
  | .dck kvs => OwE F c i (.dck kvs)
theorem EnR.own {F : Fx} {c : Cf} {i : Nat} {e : En} (h : EnR F c i e) (o : e.isOwn = true) : OwE F c i e := by
  cases e with
  | val d => cases o
  | bag => cases o
  | _ => exact h
structure Rep (F : Fx) (c : Cf) : Prop where
  le : Ext c.B c.H
  len : c.σ.length = c.s.r.length
  at_ : ∀ (i : Nat) (e : En), c.s.r[i]? = some (some e) → EnR F c i e
  sep : ∀ (i j : Nat) (ei ej : En) (l : Addr), c.s.r[i]? = some (some ei) → ei.isOwn = true → c.s.r[j]? = some (some ej) → ej.isOwn = true → c.σ[i]? = some (some (V.ref l)) → c.σ[j]? = some (some (V.ref l)) → i = j
  bag : F.on = true → BagAt c.H F.b F.c F.ms c.s.n ∧ c.B F.b = none ∧ c.B F.c = none
structure Go (F : Fx) (c c' : Cf) : Prop where
  b : Ext c.B c'.B
  fr : ∀ a o, c.H a = some o → ¬ MutA F c a → c'.H a = some o
  nb : ∀ a, c'.B a ≠ none → c.B a = none → c.H a = none ∨ Own c a
  ow : ∀ a, Own c' a → Own c a ∨ c.H a = none
  dom : ∀ a, c.H a ≠ none → c'.H a ≠ none
theorem Go.rfl' {F : Fx} {c : Cf} : Go F c c := ⟨Ext.rfl', fun _ _ h _ => h, fun a h q => absurd q h, fun _ h => .inl h, fun _ h => h⟩
theorem Go.trans {F : Fx} {c c1 c2 : Cf} (g : Go F c c1) (h : Go F c1 c2) : Go F c c2 where
  b := g.b.trans h.b
  fr a o e n := h.fr a o (g.fr a o e n) fun m => by
    rcases m with m | m
    · rcases g.ow a m with q | q
      · exact n (.inl q)
      · rw [q] at e; cases e
    · exact n (.inr m)
  nb a e n := by
    by_cases q : c1.B a = none
    · rcases h.nb a e q with z | z
      · left
        cases e2 : c.H a with
        | none => rfl
        | some o => exact absurd z (g.dom a (by rw [e2]; exact fun x => nomatch x))
      · rcases g.ow a z with y | y
        · exact .inr y
        · exact .inl y
    · exact g.nb a q n
  ow a m := by
    rcases h.ow a m with q | q
    · exact g.ow a q
    · right
      cases e2 : c.H a with
      | none => rfl
      | some o => exact absurd q (g.dom a (by rw [e2]; exact fun x => nomatch x))
  dom a e := h.dom a (g.dom a e)
theorem Go.hnone {F : Fx} {c c' : Cf} (g : Go F c c') {a : Addr} (h : c'.H a = none) : c.H a = none := by
  cases e2 : c.H a with
  | none => rfl
  | some o => exact absurd h (g.dom a (by rw [e2]; exact fun x => nomatch x))
structure GoE (F : Fx) (c c' : Cf) : Prop where
  go : Go F c c'
  σ : c'.σ = c.σ
  kp : ∀ (i : Nat) (e : En), c.s.r[i]? = some (some e) → ∃ e', c'.s.r[i]? = some (some e')
theorem GoE.rfl' {F : Fx} {c : Cf} : GoE F c c := ⟨Go.rfl', rfl, fun _ e h => ⟨e, h⟩⟩
theorem GoE.trans {F : Fx} {c c1 c2 : Cf} (g : GoE F c c1) (h : GoE F c1 c2) : GoE F c c2 :=
  ⟨g.go.trans h.go, h.σ.trans g.σ, fun i e q => let ⟨e', q'⟩ := g.kp i e q; h.kp i e' q'⟩
/-- what a value is; H0: the heap at the beginning -/
def Den (F : Fx) (H0 : Hp) (c : Cf) (v : V) : W → Prop
  | .dat d => Rp F.K c.B v d
  | .loc i => c.σ[i]? = some (some v) ∧ ∃ e, c.s.r[i]? = some (some e)
  | .new ds => ∃ l vs, v = .ref l ∧ c.H l = some (.lst vs) ∧ RpA F.K c.B vs ds ∧ c.B l = none ∧ ¬ Own c l ∧ (F.on = true → l ≠ F.b ∧ l ≠ F.c) ∧ H0 l = none
theorem Den.keep {F : Fx} {H0 : Hp} {c c' : Cf} {v : V} {w : W} (h : Den F H0 c v w) (g : GoE F c c') : Den F H0 c' v w := by
  cases w with
  | dat d => exact Rp.ext g.go.b h
  | loc i =>
    obtain ⟨h1, e, h2⟩ := h
    exact ⟨by rw [g.σ]; exact h1, g.kp i e h2⟩
  | new ds =>
    obtain ⟨l, vs, h1, h2, h3, h4, h5, h6, h7⟩ := h
    refine ⟨l, vs, h1, g.go.fr l _ h2 (fun m => ?_), h3.ext g.go.b, ?_, fun m => ?_, h6, h7⟩
    · rcases m with m | ⟨m1, m2⟩
      · exact h5 m
      · exact (h6 m1).1 m2
    · cases q : c'.B l with
      | none => rfl
      | some o =>
        rcases g.go.nb l (by rw [q]; exact fun x => nomatch x) h4 with z | z
        · rw [h2] at z; cases z
        · exact absurd z h5
    · rcases g.go.ow l m with z | z
      · exact h5 z
      · rw [h2] at z; cases z
theorem Den.back {F : Fx} {c c1 c' : Cf} {v : V} {w : W} (h : Den F c1.H c' v w) (g : Go F c c1) : Den F c.H c' v w := by
  cases w with
  | dat d => exact h
  | loc i => exact h
  | new ds =>
    obtain ⟨l, vs, h1, h2, h3, h4, h5, h6, h7⟩ := h
    exact ⟨l, vs, h1, h2, h3, h4, h5, h6, g.hnone h7⟩
/-- a value as data, as it stands now -/
def rd : W → Stt → Option D
  | .dat d, _ => some d
  | .loc i, s => match s.r[i]? with
    | some (some (.val d)) => some d
    | some (some (.own ds)) => some (.lst ds)
    | _ => none
  | .new ds, _ => some (.lst ds)
/-- a value that reads as data: told for good, or a list of one's own -/
def Rq (F : Fx) (c : Cf) (v : V) (d : D) : Prop := Rp F.K c.B v d ∨ ∃ l vs ds, v = .ref l ∧ d = .lst ds ∧ c.H l = some (.lst vs) ∧ RpA F.K c.B vs ds
theorem rd_ok {F : Fx} {H0 : Hp} {c : Cf} {v : V} {w : W} {d : D} (R : Rep F c) (h : Den F H0 c v w) (e : rd w c.s = some d) : Rq F c v d := by
  cases w with
  | dat d' =>
    cases Option.some.inj e
    exact .inl h
  | loc i =>
    obtain ⟨h1, en, h2⟩ := h
    simp only [rd, h2] at e
    have q := R.at_ i en h2
    cases en with
    | val d' =>
      cases Option.some.inj e
      obtain ⟨v', q1, q2⟩ := q
      rw [h1] at q1
      cases q1
      exact .inl q2
    | own ds =>
      cases Option.some.inj e
      obtain ⟨l, o, q1, q2, ⟨vs, rfl, q3⟩, _⟩ := q
      rw [h1] at q1
      cases q1
      exact .inr ⟨l, vs, ds, rfl, rfl, q2, q3⟩
    | _ => cases e
  | new ds =>
    cases Option.some.inj e
    obtain ⟨l, vs, h1, h2, h3, _⟩ := h
    exact .inr ⟨l, vs, ds, h1, rfl, h2, h3⟩
theorem Rq.rp {F : Fx} {c : Cf} {v : V} {d : D} (R : Rep F c) (h : Rq F c v d) : Rp F.K c.H v d := by
  rcases h with h | ⟨l, vs, ds, rfl, rfl, h1, h2⟩
  · exact h.ext R.le
  · exact .lst h1 (h2.ext R.le)
theorem Rq.lst {F : Fx} {c : Cf} {v : V} {ds : List D} (R : Rep F c) (h : Rq F c v (.lst ds)) : ∃ a vs, v = .ref a ∧ c.H a = some (.lst vs) ∧ RpA F.K c.B vs ds := by
  rcases h with h | ⟨l, vs, ds', rfl, e, h1, h2⟩
  · cases h with
    | lst h1 h2 => exact ⟨_, _, rfl, R.le _ _ h1, h2⟩
  · cases e
    exact ⟨l, vs, rfl, h1, h2⟩
theorem Rq.tup {F : Fx} {c : Cf} {v : V} {ds : List D} (R : Rep F c) (h : Rq F c v (.tup ds)) : ∃ a vs, v = .ref a ∧ SqT F.K c.H a vs ∧ RpA F.K c.B vs ds := by
  rcases h with h | ⟨l, vs, ds', rfl, e, h1, h2⟩
  · cases h with
    | tup h1 h2 => exact ⟨_, _, rfl, h1.ext R.le, h2⟩
  · cases e
theorem Rq.int {F : Fx} {c : Cf} {v : V} {i : Int} (h : Rq F c v (.int i)) : v = .int i := by
  rcases h with h | ⟨l, vs, ds', rfl, e, h1, h2⟩
  · cases h; rfl
  · cases e
theorem Rq.bl {F : Fx} {c : Cf} {v : V} {i : Bool} (h : Rq F c v (.bl i)) : v = .bl i := by
  rcases h with h | ⟨l, vs, ds', rfl, e, h1, h2⟩
  · cases h; rfl
  · cases e
theorem Rq.str {F : Fx} {c : Cf} {v : V} {i : Str} (h : Rq F c v (.str i)) : v = .str i := by
  rcases h with h | ⟨l, vs, ds', rfl, e, h1, h2⟩
  · cases h; rfl
  · cases e
theorem Rq.non {F : Fx} {c : Cf} {v : V} (h : Rq F c v .non) : v = .non := by
  rcases h with h | ⟨l, vs, ds', rfl, e, h1, h2⟩
  · cases h; rfl
  · cases e
/-! ### new things -/
section
variable {F : Fx} {c : Cf}
theorem Own.ofEq {c c' : Cf} {a : Addr} (h : Own c' a) (e1 : c'.σ = c.σ) (e2 : c'.s = c.s) : Own c a := by
  obtain ⟨i, ds, h1, h0, h2⟩ := h
  exact ⟨i, ds, by rw [← e2]; exact h1, h0, by rw [← e1]; exact h2⟩
/-- a new thing told for good -/
theorem Rep.putB (R : Rep F c) {p : Addr} {o : HO} (hp : c.H p = none) : Rep F { c with B := upd c.B p o, H := upd c.H p o } ∧ GoE F c { c with B := upd c.B p o, H := upd c.H p o } := by
  have hB : c.B p = none := by
    cases q : c.B p with
    | none => rfl
    | some u => rw [R.le _ _ q] at hp; cases hp
  have xB : Ext c.B (upd c.B p o) := Ext.upd hB
  have xH : Ext c.H (upd c.H p o) := Ext.upd hp
  refine ⟨⟨?_, R.len, ?_, R.sep, ?_⟩, ⟨⟨xB, fun a u e _ => xH a u e, fun a e n => ?_, fun a h => .inl (h.ofEq rfl rfl), fun a h => ?_⟩, rfl, fun i e h => ⟨e, h⟩⟩⟩
  · intro a u e
    show (upd c.H p o) a = some u
    by_cases z : a = p
    · have e' : (upd c.B p o) a = some u := e
      rw [z, upd_same] at e' ⊢
      exact e'
    · have e' : (upd c.B p o) a = some u := e
      rw [upd_ne z] at e' ⊢
      exact R.le a u e'
  · intro i e h
    have q := R.at_ i e h
    cases e with
    | val d => obtain ⟨v, q1, q2⟩ := q; exact ⟨v, q1, q2.ext xB⟩
    | bag => exact q
    | _ =>
      obtain ⟨l, vs, q1, q2, q3, q4, q5⟩ := q
      refine ⟨l, vs, q1, xH _ _ q2, q3.ext xB, ?_, q5⟩
      show (upd c.B p o) l = none
      rw [upd_ne (ne_of_none q2 hp)]
      exact q4
  · intro on
    obtain ⟨q1, q2, q3⟩ := R.bag on
    obtain ⟨t, r, h1, h2, _⟩ := id q1
    refine ⟨q1.ext xH, ?_, ?_⟩
    · show (upd c.B p o) F.b = none
      rw [upd_ne (ne_of_none h1 hp)]
      exact q2
    · show (upd c.B p o) F.c = none
      rw [upd_ne (ne_of_none h2 hp)]
      exact q3
  · left
    have e' : (upd c.B p o) a ≠ none := e
    by_cases z : a = p
    · rw [z]; exact hp
    · rw [upd_ne z] at e'
      exact absurd n e'
  · show (upd c.H p o) a ≠ none
    by_cases z : a = p
    · rw [z, upd_same]; exact fun x => nomatch x
    · rw [upd_ne z]; exact h
/-- a new thing that is not told of yet -/
theorem Rep.putH (R : Rep F c) {p : Addr} {o : HO} (hp : c.H p = none) : Rep F { c with H := upd c.H p o } ∧ GoE F c { c with H := upd c.H p o } := by
  have xH : Ext c.H (upd c.H p o) := Ext.upd hp
  refine ⟨⟨R.le.trans xH, R.len, ?_, R.sep, ?_⟩, ⟨⟨Ext.rfl', fun a u e _ => xH a u e, fun a e n => absurd n e, fun a h => .inl (h.ofEq rfl rfl), fun a h => ?_⟩, rfl, fun i e h => ⟨e, h⟩⟩⟩
  · intro i e h
    have q := R.at_ i e h
    cases e with
    | val d => exact q
    | bag => exact q
    | _ =>
      obtain ⟨l, vs, q1, q2, q3, q4, q5⟩ := q
      exact ⟨l, vs, q1, xH _ _ q2, q3, q4, q5⟩
  · intro on
    obtain ⟨q1, q2, q3⟩ := R.bag on
    exact ⟨q1.ext xH, q2, q3⟩
  · show (upd c.H p o) a ≠ none
    by_cases z : a = p
    · rw [z, upd_same]; exact fun x => nomatch x
    · rw [upd_ne z]; exact h
theorem Rep.notB (R : Rep F c) {p : Addr} (hp : c.H p = none) : c.B p = none := by
  cases q : c.B p with
  | none => rfl
  | some u => rw [R.le _ _ q] at hp; cases hp
theorem Rep.notOwn (R : Rep F c) {p : Addr} (hp : c.H p = none) : ¬ Own c p := fun ⟨i, ds, h1, h0, h2⟩ => by
  obtain ⟨l, vs, q1, q2, _⟩ := (R.at_ i _ h1).own h0
  rw [h2] at q1
  cases q1
  rw [hp] at q2
  cases q2
theorem Rep.notBag (R : Rep F c) {p : Addr} (hp : c.H p = none) (on : F.on = true) : p ≠ F.b ∧ p ≠ F.c := by
  obtain ⟨⟨t, r, h1, h2, _⟩, _, _⟩ := R.bag on
  exact ⟨(ne_of_none h1 hp).symm, (ne_of_none h2 hp).symm⟩
theorem Rep.newT (R : Rep F c) {p : Addr} {vs : List V} {ds : List D} (hp : c.H p = none) (hv : RpA F.K c.B vs ds) :
    ∃ c', c'.H = upd c.H p (.tup vs) ∧ c'.s = c.s ∧ Rep F c' ∧ GoE F c c' ∧ Rp F.K c'.B (.ref p) (.tup ds) := by
  obtain ⟨R', G⟩ := R.putB (o := .tup vs) hp
  exact ⟨{ c with B := upd c.B p (.tup vs), H := upd c.H p (.tup vs) }, rfl, rfl, R', G, .tup (SqT.of upd_same) (hv.ext G.go.b)⟩
theorem Rep.newL (R : Rep F c) {p : Addr} {vs : List V} {ds : List D} (hp : c.H p = none) (hv : RpA F.K c.B vs ds) :
    ∃ c', c'.H = upd c.H p (.lst vs) ∧ c'.s = c.s ∧ c'.B = c.B ∧ Rep F c' ∧ GoE F c c' ∧ Den F c.H c' (.ref p) (.new ds) := by
  obtain ⟨R', G⟩ := R.putH (o := .lst vs) hp
  exact ⟨{ c with H := upd c.H p (.lst vs) }, rfl, rfl, rfl, R', G, p, vs, rfl, upd_same, hv, R.notB hp, fun m => R.notOwn hp (m.ofEq rfl rfl), R.notBag hp, hp⟩
/-- a new list is told for good from now on -/
theorem Rep.fixN (R : Rep F c) {c0 : Cf} (g : GoE F c0 c) {v : V} {ds : List D} (h : Den F c0.H c v (.new ds)) :
    ∃ c', c'.H = c.H ∧ c'.s = c.s ∧ c'.σ = c.σ ∧ Ext c.B c'.B ∧ Rep F c' ∧ GoE F c0 c' ∧ Rp F.K c'.B v (.lst ds) := by
  obtain ⟨l, vs, rfl, h2, h3, h4, h5, h6, h7⟩ := h
  have xB : Ext c.B (upd c.B l (.lst vs)) := Ext.upd h4
  refine ⟨{ c with B := upd c.B l (.lst vs) }, rfl, rfl, rfl, xB, ⟨?_, R.len, ?_, R.sep, ?_⟩, ⟨⟨g.go.b.trans xB, g.go.fr, ?_, fun a h => g.go.ow a (h.ofEq rfl rfl), g.go.dom⟩, g.σ, g.kp⟩, .lst upd_same (h3.ext xB)⟩
  · intro a u e
    have e' : (upd c.B l (.lst vs)) a = some u := e
    show c.H a = some u
    by_cases z : a = l
    · rw [z, upd_same] at e'
      rw [z, h2]; exact e'
    · rw [upd_ne z] at e'
      exact R.le a u e'
  · intro i e h
    have q := R.at_ i e h
    cases e with
    | val d => obtain ⟨v, q1, q2⟩ := q; exact ⟨v, q1, q2.ext xB⟩
    | bag => exact q
    | _ =>
      obtain ⟨l', vs', q1, q2, q3, q4, q5⟩ := q
      refine ⟨l', vs', q1, q2, q3.ext xB, ?_, q5⟩
      show (upd c.B l (.lst vs)) l' = none
      rw [upd_ne (fun z => h5 ⟨i, _, h, rfl, by rw [← z]; exact q1⟩)]
      exact q4
  · intro on
    obtain ⟨q1, q2, q3⟩ := R.bag on
    refine ⟨q1, ?_, ?_⟩
    · show (upd c.B l (.lst vs)) F.b = none
      rw [upd_ne (h6 on).1.symm]; exact q2
    · show (upd c.B l (.lst vs)) F.c = none
      rw [upd_ne (h6 on).2.symm]; exact q3
  · intro a e n
    have e' : (upd c.B l (.lst vs)) a ≠ none := e
    by_cases z : a = l
    · rw [z]; exact .inl h7
    · rw [upd_ne z] at e'
      exact g.go.nb a e' n
/-- a list of one's own is told for good from now on -/
theorem Rep.fixL (R : Rep F c) {i : Nat} {ds : List D} {v : V} (h : c.s.r[i]? = some (some (.own ds))) (hv : c.σ[i]? = some (some v)) :
    ∃ c', c'.H = c.H ∧ c'.s = { c.s with r := c.s.r.set i (some (.val (.lst ds))) } ∧ Rep F c' ∧ GoE F c c' ∧ Rp F.K c'.B v (.lst ds) := by
  obtain ⟨l, o, q1, q2, ⟨vs, rfl, q3⟩, q4, q5⟩ := R.at_ i _ h
  rw [hv] at q1
  cases q1
  have hi : i < c.s.r.length := (List.getElem?_eq_some_iff.mp h).1
  have xB : Ext c.B (upd c.B l (.lst vs)) := Ext.upd q4
  have own' : ∀ (j : Nat) (e : En), (c.s.r.set i (some (.val (.lst ds))))[j]? = some (some e) → e.isOwn = true → j ≠ i ∧ c.s.r[j]? = some (some e) := by
    intro j ds' hj ho
    by_cases z : j = i
    · rw [z, List.getElem?_set_self hi] at hj
      cases hj
      cases ho
    · rw [List.getElem?_set_ne (Ne.symm z)] at hj
      exact ⟨z, hj⟩
  refine ⟨{ c with B := upd c.B l (.lst vs), s := { c.s with r := c.s.r.set i (some (.val (.lst ds))) } }, rfl, rfl, ⟨?_, ?_, ?_, ?_, ?_⟩, ⟨⟨xB, fun a u e _ => e, ?_, ?_, fun _ e => e⟩, rfl, ?_⟩, .lst upd_same (q3.ext xB)⟩
  · intro a u e
    have e' : (upd c.B l (.lst vs)) a = some u := e
    show c.H a = some u
    by_cases z : a = l
    · rw [z, upd_same] at e'
      rw [z, q2]; exact e'
    · rw [upd_ne z] at e'
      exact R.le a u e'
  · show c.σ.length = (c.s.r.set i _).length
    rw [List.length_set]; exact R.len
  · intro j e hj
    have hj' : (c.s.r.set i (some (.val (.lst ds))))[j]? = some (some e) := hj
    by_cases z : j = i
    · rw [z, List.getElem?_set_self hi] at hj'
      cases hj'
      rw [z]
      exact ⟨_, hv, .lst upd_same (q3.ext xB)⟩
    · rw [List.getElem?_set_ne (Ne.symm z)] at hj'
      have q := R.at_ j e hj'
      cases e with
      | val d => obtain ⟨v, q1, q2⟩ := q; exact ⟨v, q1, q2.ext xB⟩
      | bag => exact q
      | _ =>
        obtain ⟨l', vs', p1, p2, p3, p4, p5⟩ := q
        refine ⟨l', vs', p1, p2, p3.ext xB, ?_, p5⟩
        show (upd c.B l (.lst vs)) l' = none
        rw [upd_ne (fun y => z (R.sep j i _ _ l hj' rfl h rfl (by rw [← y]; exact p1) hv))]
        exact p4
  · intro j k dj dk l' h1 o1 h2 o2 h3 h4
    exact R.sep j k dj dk l' (own' j dj h1 o1).2 o1 (own' k dk h2 o2).2 o2 h3 h4
  · intro on
    obtain ⟨p1, p2, p3⟩ := R.bag on
    refine ⟨p1, ?_, ?_⟩
    · show (upd c.B l (.lst vs)) F.b = none
      rw [upd_ne (q5 on).1.symm]; exact p2
    · show (upd c.B l (.lst vs)) F.c = none
      rw [upd_ne (q5 on).2.symm]; exact p3
  · intro a e n
    have e' : (upd c.B l (.lst vs)) a ≠ none := e
    by_cases z : a = l
    · rw [z]; exact .inr ⟨i, _, h, rfl, hv⟩
    · rw [upd_ne z] at e'
      exact absurd n e'
  · rintro a ⟨j, ds', h1, h0, h2⟩
    exact .inl ⟨j, ds', (own' j ds' h1 h0).2, h0, h2⟩
  · intro j e hj
    show ∃ e', (c.s.r.set i (some (.val (.lst ds))))[j]? = some (some e')
    by_cases z : j = i
    · rw [z, List.getElem?_set_self hi]; exact ⟨_, rfl⟩
    · rw [List.getElem?_set_ne (Ne.symm z)]; exact ⟨e, hj⟩
end
/-- a value told for good -/
def frz : W → Stt → Option (D × Stt)
  | .dat d, s => some (d, s)
  | .loc i, s => match s.r[i]? with
    | some (some (.val d)) => some (d, s)
    | some (some (.own ds)) => some (.lst ds, { s with r := s.r.set i (some (.val (.lst ds))) })
    | _ => none
  | .new ds, s => some (.lst ds, s)
theorem frz_ok {F : Fx} {c c0 : Cf} {v : V} {w : W} {d : D} {s' : Stt} (R : Rep F c) (g : GoE F c0 c) (h : Den F c0.H c v w) (e : frz w c.s = some (d, s')) :
    ∃ c', c'.H = c.H ∧ c'.s = s' ∧ c'.σ = c.σ ∧ Ext c.B c'.B ∧ Rep F c' ∧ GoE F c0 c' ∧ Rp F.K c'.B v d := by
  cases w with
  | dat d' =>
    simp only [frz, Option.some.injEq, Prod.mk.injEq] at e
    obtain ⟨rfl, rfl⟩ := e
    exact ⟨c, rfl, rfl, rfl, Ext.rfl', R, g, h⟩
  | loc i =>
    obtain ⟨h1, en, h2⟩ := h
    simp only [frz, h2] at e
    cases en with
    | val d' =>
      simp only [Option.some.injEq, Prod.mk.injEq] at e
      obtain ⟨rfl, rfl⟩ := e
      obtain ⟨v', q1, q2⟩ := R.at_ i _ h2
      rw [h1] at q1
      cases q1
      exact ⟨c, rfl, rfl, rfl, Ext.rfl', R, g, q2⟩
    | own ds =>
      simp only [Option.some.injEq, Prod.mk.injEq] at e
      obtain ⟨rfl, rfl⟩ := e
      obtain ⟨c', e1, e2, R', G, r⟩ := R.fixL h2 h1
      exact ⟨c', e1, e2, G.σ, G.go.b, R', g.trans G, r⟩
    | _ => cases e
  | new ds =>
    simp only [frz, Option.some.injEq, Prod.mk.injEq] at e
    obtain ⟨rfl, rfl⟩ := e
    exact R.fixN g h
end DL
set_option maxHeartbeats 2000000
/-! Readings told over data: expressions, tests, arguments, statements, loops. -/
namespace DL
open PySem PySem.Spec PyProof.Rows L2 Ax
abbrev GX := Stt → (W → Stt → Prop) → Prop
abbrev GB := Stt → (Bool → Stt → Prop) → Prop
abbrev GA := Stt → (List W → Stt → Prop) → Prop
abbrev GI := Stt → (List D → Stt → Prop) → Prop
structure EndsD where
  nx : Stt → Prop
  rt : W → Stt → Prop
  bk : Stt → Prop := fun _ => False
  ct : Stt → Prop := fun _ => False
abbrev GS := Stt → EndsD → Prop
def SE (K : Bd) (t : TE) (g : GX) : Prop := ∀ F : Fx, F.bd = K → ∀ (c : Cf) (Φ : W → Stt → Prop) (Q : VK), Rep F c → g c.s Φ → (∀ c' v w, Rep F c' → GoE F c c' → Den F c.H c' v w → Φ w c'.s → Q v c'.H) → t c.σ c.H Q
def SB (K : Bd) (t : TT) (g : GB) : Prop := ∀ F : Fx, F.bd = K → ∀ (c : Cf) (Φ : Bool → Stt → Prop) (Q : Bool → Hp → Prop), Rep F c → g c.s Φ → (∀ c' b, Rep F c' → GoE F c c' → Φ b c'.s → Q b c'.H) → t c.σ c.H Q
def Den2 (F : Fx) (c : Cf) (v : V) : W → Prop
  | .dat d => Rp F.K c.B v d
  | .loc i => c.σ[i]? = some (some v) ∧ ∃ e, c.s.r[i]? = some (some e)
  | .new _ => False
theorem Den2.keep {F : Fx} {c c' : Cf} {v : V} {w : W} (h : Den2 F c v w) (g : GoE F c c') : Den2 F c' v w := by
  cases w with
  | dat d => exact Rp.ext g.go.b h
  | loc i => exact ⟨by rw [g.σ]; exact h.1, let ⟨_, e, q⟩ := h; g.kp i e q⟩
  | new ds => exact h.elim
theorem Den2.den {F : Fx} {H0 : Hp} {c : Cf} {v : V} {w : W} (h : Den2 F c v w) : Den F H0 c v w := by
  cases w with
  | dat d => exact h
  | loc i => exact h
  | new ds => exact h.elim
abbrev DenA (F : Fx) (c : Cf) : List V → List W → Prop := Paired (Den2 F c)
theorem DenA.keep {F : Fx} {c c' : Cf} (g : GoE F c c') : ∀ {vs : List V} {ws : List W}, DenA F c vs ws → DenA F c' vs ws
  | _, _, .nil => .nil
  | _, _, .cons h t => .cons (h.keep g) (DenA.keep g t)
def SA (K : Bd) (t : TA) (g : GA) : Prop := ∀ F : Fx, F.bd = K → ∀ (c : Cf) (Φ : List W → Stt → Prop) (Q : List V → Hp → Prop), Rep F c → g c.s Φ → (∀ c' vs ws, Rep F c' → GoE F c c' → DenA F c' vs ws → Φ ws c'.s → Q vs c'.H) → t c.σ c.H Q
structure EndsOk (F : Fx) (c : Cf) (E : Ends) (De : EndsD) : Prop where
  nx : ∀ c', Rep F c' → Go F c c' → De.nx c'.s → E.nx c'.σ c'.H
  rt : ∀ c' v w, Rep F c' → Go F c c' → Den F c.H c' v w → De.rt w c'.s → E.rt v c'.H
  bk : ∀ c', Rep F c' → Go F c c' → De.bk c'.s → E.bk c'.σ c'.H
  ct : ∀ c', Rep F c' → Go F c c' → De.ct c'.s → E.ct c'.σ c'.H
def SS (K : Bd) (t : TS) (g : GS) : Prop := ∀ F : Fx, F.bd = K → ∀ (c : Cf) (E : Ends) (De : EndsD), Rep F c → g c.s De → EndsOk F c E De → t E c.σ c.H
theorem EndsOk.go {F : Fx} {c c1 : Cf} {E : Ends} {De : EndsD} (h : EndsOk F c E De) (g : Go F c c1) : EndsOk F c1 E De :=
  ⟨fun c' r g' q => h.nx c' r (g.trans g') q, fun c' v w r g' d q => h.rt c' v w r (g.trans g') (d.back g) q, fun c' r g' q => h.bk c' r (g.trans g') q, fun c' r g' q => h.ct c' r (g.trans g') q⟩
section
variable {K : Bd}
theorem SE.run {t : TE} {g : GX} (h : SE K t g) {F : Fx} (hK : F.bd = K) {c : Cf} {σ : L2.St} (e : c.σ = σ) {Φ : W → Stt → Prop} {Q : VK} (R : Rep F c) (p : g c.s Φ) (q : ∀ c' v w, Rep F c' → GoE F c c' → Den F c.H c' v w → Φ w c'.s → Q v c'.H) : t σ c.H Q := by
  subst e
  exact h F hK c Φ Q R p q
theorem SB.run {t : TT} {g : GB} (h : SB K t g) {F : Fx} (hK : F.bd = K) {c : Cf} {σ : L2.St} (e : c.σ = σ) {Φ : Bool → Stt → Prop} {Q : Bool → Hp → Prop} (R : Rep F c) (p : g c.s Φ) (q : ∀ c' b, Rep F c' → GoE F c c' → Φ b c'.s → Q b c'.H) : t σ c.H Q := by
  subst e
  exact h F hK c Φ Q R p q
theorem SA.run {t : TA} {g : GA} (h : SA K t g) {F : Fx} (hK : F.bd = K) {c : Cf} {σ : L2.St} {H : Hp} (e : c.σ = σ) (eH : c.H = H) {Φ : List W → Stt → Prop} {Q : List V → Hp → Prop} (R : Rep F c) (p : g c.s Φ) (q : ∀ c' vs ws, Rep F c' → GoE F c c' → DenA F c' vs ws → Φ ws c'.s → Q vs c'.H) : t σ H Q := by
  subst e eH
  exact h F hK c Φ Q R p q
theorem SS.run {t : TS} {g : GS} (h : SS K t g) {F : Fx} (hK : F.bd = K) {c : Cf} {σ : L2.St} (e : c.σ = σ) {E : Ends} {De : EndsD} (R : Rep F c) (p : g c.s De) (ok : EndsOk F c E De) : t E σ c.H := by
  subst e
  exact h F hK c E De R p ok
theorem EndsOk.nxE {F : Fx} {c c' : Cf} {E : Ends} {De : EndsD} (ok : EndsOk F c E De) (R : Rep F c') (g : GoE F c c') (p : De.nx c'.s) : E.nx c.σ c'.H := by
  have q := ok.nx c' R g.go p
  rw [g.σ] at q
  exact q
/-! ### expressions -/
def gName (i : Nat) : GX := fun s Φ => match s.r[i]? with
  | some (some (.val d)) => Φ (.dat d) s
  | some (some _) => Φ (.loc i) s
  | _ => False
theorem se_name (i : Nat) : SE K (tVar i) (gName i) := by
  intro F hK c Φ Q R h q
  unfold gName at h
  split at h
  · rename_i d e
    obtain ⟨v, h1, h2⟩ := R.at_ i _ e
    exact ⟨v, h1, q c v (.dat d) R GoE.rfl' h2 h⟩
  · rename_i en e1 e
    have z := R.at_ i _ e
    cases en with
    | val d => exact absurd rfl (e1 d)
    | bag => exact ⟨_, z.2, q c _ (.loc i) R GoE.rfl' ⟨z.2, _, e⟩ h⟩
    | _ =>
      obtain ⟨l, vs, h1, _⟩ := z
      exact ⟨_, h1, q c _ (.loc i) R GoE.rfl' ⟨h1, _, e⟩ h⟩
  · exact h.elim
def gDat (d : D) : GX := fun s Φ => Φ (.dat d) s
theorem se_const {v : V} {d : D} (h : ∀ B : Hp, Rp K B v d) : SE K (tC v) (gDat d) := by
  intro F hK c Φ Q R p q
  exact q c v (.dat d) R GoE.rfl' (by subst hK; exact h c.B) p
theorem se_int {i : Int} : SE K (tC (.int i)) (gDat (.int i)) := se_const fun _ => .int i
theorem se_str {x : Str} : SE K (tC (.str x)) (gDat (.str x)) := se_const fun _ => .str x
theorem se_non : SE K (tC .non) (gDat .non) := se_const fun _ => .non
theorem se_bl {b : Bool} : SE K (tC (.bl b)) (gDat (.bl b)) := se_const fun _ => .bl b
/-- a two-place operation -/
def OpS (K : Bd) (r : R2) (f : D → D → Option W) : Prop := ∀ F : Fx, F.bd = K → ∀ (c : Cf) (x y : V) (d e : D) (w : W) (Q : VK), Rep F c → Rq F c x d → Rq F c y e → f d e = some w →
  (∀ c' v, Rep F c' → GoE F c c' → c'.s = c.s → Den F c.H c' v w → Q v c'.H) → r x y c.H Q
def gBin (f : D → D → Option W) (g1 g2 : GX) : GX := fun s Φ => g1 s fun w1 s1 => g2 s1 fun w2 s2 => ∃ d e w, rd w1 s2 = some d ∧ rd w2 s2 = some e ∧ f d e = some w ∧ Φ w s2
theorem se_bin {r : R2} {f : D → D → Option W} {ta tb : TE} {g1 g2 : GX} (ho : OpS K r f) (ha : SE K ta g1) (hb : SE K tb g2) : SE K (tOp r ta tb) (gBin f g1 g2) := by
  intro F hK c Φ Q R p q
  refine ha F hK c _ _ R p fun c1 v1 w1 R1 G1 D1 p1 => ?_
  refine hb.run hK G1.σ R1 p1 fun c2 v2 w2 R2 G2 D2 p2 => ?_
  obtain ⟨d, e, w, e1, e2, e3, p3⟩ := p2
  refine ho F hK c2 _ _ d e w _ R2 (rd_ok R2 (D1.keep G2) e1) (rd_ok R2 D2 e2) e3 fun c3 v R3 G3 es D3 => ?_
  exact q c3 v w R3 ((G1.trans G2).trans G3) (D3.back (G1.trans G2).go) (es ▸ p3)
/-- a one-place operation -/
def UnS (K : Bd) (r : V → Hp → VK → Prop) (f : D → Option W) : Prop := ∀ F : Fx, F.bd = K → ∀ (c : Cf) (x : V) (d : D) (w : W) (Q : VK), Rep F c → Rq F c x d → f d = some w →
  (∀ c' v, Rep F c' → GoE F c c' → c'.s = c.s → Den F c.H c' v w → Q v c'.H) → r x c.H Q
def gUn (f : D → Option W) (g1 : GX) : GX := fun s Φ => g1 s fun w1 s1 => ∃ d w, rd w1 s1 = some d ∧ f d = some w ∧ Φ w s1
theorem se_un {r : V → Hp → VK → Prop} {f : D → Option W} {ta : TE} {g1 : GX} (ho : UnS K r f) (ha : SE K ta g1) : SE K (tUn r ta) (gUn f g1) := by
  intro F hK c Φ Q R p q
  refine ha F hK c _ _ R p fun c1 v1 w1 R1 G1 D1 p1 => ?_
  obtain ⟨d, w, e1, e3, p3⟩ := p1
  refine ho F hK c1 _ d w _ R1 (rd_ok R1 D1 e1) e3 fun c3 v R3 G3 es D3 => ?_
  exact q c3 v w R3 (G1.trans G3) (D3.back G1.go) (es ▸ p3)
def gAnd (g1 g2 : GX) : GX := fun s Φ => g1 s fun w s1 => ∃ b, rd w s1 = some (.bl b) ∧ if b = true then g2 s1 Φ else Φ (.dat (.bl false)) s1
def gOr (g1 g2 : GX) : GX := fun s Φ => g1 s fun w s1 => ∃ b, rd w s1 = some (.bl b) ∧ if b = true then Φ (.dat (.bl true)) s1 else g2 s1 Φ
theorem se_and {ta tb : TE} {g1 g2 : GX} (ha : SE K ta g1) (hb : SE K tb g2) : SE K (tAndV ta tb) (gAnd g1 g2) := by
  intro F hK c Φ Q R p q
  refine ha F hK c _ _ R p fun c1 v1 w1 R1 G1 D1 p1 => ?_
  obtain ⟨b, e, p1⟩ := p1
  refine ⟨b, (rd_ok R1 D1 e).bl, ?_⟩
  cases b with
  | true => exact hb.run hK G1.σ R1 p1 fun c2 v w R2 G2 D2 p2 => q c2 v w R2 (G1.trans G2) (D2.back G1.go) p2
  | false => exact q c1 _ (.dat (.bl false)) R1 G1 (Rp.bl false) p1
theorem se_or {ta tb : TE} {g1 g2 : GX} (ha : SE K ta g1) (hb : SE K tb g2) : SE K (tOrV ta tb) (gOr g1 g2) := by
  intro F hK c Φ Q R p q
  refine ha F hK c _ _ R p fun c1 v1 w1 R1 G1 D1 p1 => ?_
  obtain ⟨b, e, p1⟩ := p1
  refine ⟨b, (rd_ok R1 D1 e).bl, ?_⟩
  cases b with
  | false => exact hb.run hK G1.σ R1 p1 fun c2 v w R2 G2 D2 p2 => q c2 v w R2 (G1.trans G2) (D2.back G1.go) p2
  | true => exact q c1 _ (.dat (.bl true)) R1 G1 (Rp.bl true) p1
def gNot (g1 : GX) : GX := fun s Φ => g1 s fun w s1 => ∃ b, rd w s1 = some (.bl b) ∧ Φ (.dat (.bl (!b))) s1
theorem se_not {ta : TE} {g1 : GX} (ha : SE K ta g1) : SE K (tNotV ta) (gNot g1) := by
  intro F hK c Φ Q R p q
  refine ha F hK c _ _ R p fun c1 v1 w1 R1 G1 D1 p1 => ?_
  obtain ⟨b, e, p1⟩ := p1
  exact ⟨b, (rd_ok R1 D1 e).bl, q c1 _ (.dat (.bl (!b))) R1 G1 (Rp.bl (!b)) p1⟩
def isNonD : D → Bool
  | .non => true
  | _ => false
def gIsN (g1 : GX) : GX := fun s Φ => g1 s fun w s1 => ∃ d, rd w s1 = some d ∧ Φ (.dat (.bl (isNonD d))) s1
def gNotN (g1 : GX) : GX := fun s Φ => g1 s fun w s1 => ∃ d, rd w s1 = some d ∧ Φ (.dat (.bl (!isNonD d))) s1
theorem non_iff {F : Fx} {c : Cf} {v : V} {d : D} (h : Rq F c v d) : decide (v = .non) = isNonD d := by
  rcases h with h | ⟨l, vs, ds, rfl, rfl, _⟩
  · cases h <;> rfl
  · rfl
theorem se_isN {ta : TE} {g1 : GX} (ha : SE K ta g1) : SE K (tIsN ta) (gIsN g1) := by
  intro F hK c Φ Q R p q
  refine ha F hK c _ _ R p fun c1 v1 w1 R1 G1 D1 p1 => ?_
  obtain ⟨d, e, p1⟩ := p1
  rw [non_iff (rd_ok R1 D1 e)]
  exact q c1 _ (.dat (.bl (isNonD d))) R1 G1 (Rp.bl _) p1
theorem se_notN {ta : TE} {g1 : GX} (ha : SE K ta g1) : SE K (tNotN ta) (gNotN g1) := by
  intro F hK c Φ Q R p q
  refine ha F hK c _ _ R p fun c1 v1 w1 R1 G1 D1 p1 => ?_
  obtain ⟨d, e, p1⟩ := p1
  rw [non_iff (rd_ok R1 D1 e)]
  exact q c1 _ (.dat (.bl (!isNonD d))) R1 G1 (Rp.bl _) p1
def gIf (gt : GB) (g1 g2 : GX) : GX := fun s Φ => gt s fun b s1 => if b = true then g1 s1 Φ else g2 s1 Φ
theorem se_if {tt : TT} {ta tb : TE} {gt : GB} {g1 g2 : GX} (ht : SB K tt gt) (ha : SE K ta g1) (hb : SE K tb g2) : SE K (tIf tt ta tb) (gIf gt g1 g2) := by
  intro F hK c Φ Q R p q
  refine ht F hK c _ _ R p fun c1 b R1 G1 p1 => ?_
  cases b with
  | true => exact ha.run hK G1.σ R1 p1 fun c2 v w R2 G2 D2 p2 => q c2 v w R2 (G1.trans G2) (D2.back G1.go) p2
  | false => exact hb.run hK G1.σ R1 p1 fun c2 v w R2 G2 D2 p2 => q c2 v w R2 (G1.trans G2) (D2.back G1.go) p2
/-! ### tests -/
def gTv (g : GX) : GB := fun s Φ => g s fun w s1 => ∃ b, rd w s1 = some (.bl b) ∧ Φ b s1
theorem sb_val {t : TE} {g : GX} (h : SE K t g) : SB K (tB t) (gTv g) := by
  intro F hK c Φ Q R p q
  refine h F hK c _ _ R p fun c1 v1 w1 R1 G1 D1 p1 => ?_
  obtain ⟨b, e, p1⟩ := p1
  exact ⟨b, (rd_ok R1 D1 e).bl, q c1 b R1 G1 p1⟩
theorem sb_test {t : TE} {g : GX} (h : SE K t g) : SB K (tTest t) (gTv g) := by
  intro F hK c Φ Q R p q
  refine h F hK c _ _ R p fun c1 v1 w1 R1 G1 D1 p1 => ?_
  obtain ⟨b, e, p1⟩ := p1
  exact ⟨b, (rd_ok R1 D1 e).bl, q c1 b R1 G1 p1⟩
def gTAnd (g1 g2 : GB) : GB := fun s Φ => g1 s fun b s1 => if b = true then g2 s1 Φ else Φ false s1
def gTOr (g1 g2 : GB) : GB := fun s Φ => g1 s fun b s1 => if b = true then Φ true s1 else g2 s1 Φ
def gTNot (g1 : GB) : GB := fun s Φ => g1 s fun b s1 => Φ (!b) s1
def gYes : GB := fun s Φ => Φ true s
theorem sb_and {t u : TT} {g1 g2 : GB} (ha : SB K t g1) (hb : SB K u g2) : SB K (tAnd t u) (gTAnd g1 g2) := by
  intro F hK c Φ Q R p q
  refine ha F hK c _ _ R p fun c1 b R1 G1 p1 => ?_
  cases b with
  | true => exact hb.run hK G1.σ R1 p1 fun c2 b R2 G2 p2 => q c2 b R2 (G1.trans G2) p2
  | false => exact q c1 false R1 G1 p1
theorem sb_or {t u : TT} {g1 g2 : GB} (ha : SB K t g1) (hb : SB K u g2) : SB K (tOr t u) (gTOr g1 g2) := by
  intro F hK c Φ Q R p q
  refine ha F hK c _ _ R p fun c1 b R1 G1 p1 => ?_
  cases b with
  | false => exact hb.run hK G1.σ R1 p1 fun c2 b R2 G2 p2 => q c2 b R2 (G1.trans G2) p2
  | true => exact q c1 true R1 G1 p1
theorem sb_not {t : TT} {g1 : GB} (ha : SB K t g1) : SB K (tNot t) (gTNot g1) := by
  intro F hK c Φ Q R p q
  exact ha F hK c _ _ R p fun c1 b R1 G1 p1 => q c1 _ R1 G1 p1
theorem sb_yes : SB K tYes gYes := by
  intro F hK c Φ Q R p q
  exact q c true R GoE.rfl' p
/-! ### arguments -/
def fixW : W → W
  | .new ds => .dat (.lst ds)
  | w => w
def gaNil : GA := fun s Φ => Φ [] s
def gaCons (g : GX) (ga : GA) : GA := fun s Φ => g s fun w s1 => ga s1 fun ws s2 => Φ (fixW w :: ws) s2
theorem sa_nil : SA K tNil gaNil := by
  intro F hK c Φ Q R p q
  exact q c [] [] R GoE.rfl' .nil p
theorem fix_ok {F : Fx} {c c0 : Cf} {v : V} {w : W} (R : Rep F c) (g : GoE F c0 c) (h : Den F c0.H c v w) : ∃ c', c'.H = c.H ∧ c'.s = c.s ∧ c'.σ = c.σ ∧ Rep F c' ∧ GoE F c0 c' ∧ Den2 F c' v (fixW w) := by
  cases w with
  | dat d => exact ⟨c, rfl, rfl, rfl, R, g, h⟩
  | loc i => exact ⟨c, rfl, rfl, rfl, R, g, h⟩
  | new ds =>
    obtain ⟨c', e1, e2, e3, _, R', G, r⟩ := R.fixN g h
    exact ⟨c', e1, e2, e3, R', G, r⟩
theorem sa_cons {ta : TE} {t : TA} {g : GX} {ga : GA} (ha : SE K ta g) (hr : SA K t ga) : SA K (tCons ta t) (gaCons g ga) := by
  intro F hK c Φ Q R p q
  refine ha F hK c _ _ R p fun c1 v1 w1 R1 G1 D1 p1 => ?_
  obtain ⟨c2, e1, e2, e3, R2, G2, D2⟩ := fix_ok R1 G1 D1
  refine hr.run hK (e3.trans G1.σ) e1 R2 (by rw [e2]; exact p1) fun c3 vs ws R3 G3 D3 p3 => ?_
  exact q c3 _ _ R3 (G2.trans G3) (.cons (D2.keep G3) D3) p3
def rdA : List W → Stt → Option (List D)
  | [], _ => some []
  | w :: ws, s => match rd w s, rdA ws s with
    | some d, some ds => some (d :: ds)
    | _, _ => none
theorem rdA_ok {F : Fx} {c : Cf} (R : Rep F c) : ∀ {vs : List V} {ws : List W} {ds : List D}, DenA F c vs ws → rdA ws c.s = some ds → Paired (Rq F c) vs ds
  | _, _, _, .nil, e => by cases Option.some.inj e; exact .nil
  | _, _, ds, .cons (a := v) (b := w) (l₁ := vs) (l₂ := ws) h t, e => by
    simp only [rdA] at e
    split at e
    · rename_i d ds' e1 e2
      cases Option.some.inj e
      exact .cons (rd_ok R (h.den (H0 := c.H)) e1) (rdA_ok R t e2)
    · cases e
def frzA : List W → Stt → Option (List D × Stt)
  | [], s => some ([], s)
  | w :: ws, s => match frz w s with
    | some (d, s1) => match frzA ws s1 with
      | some (ds, s2) => some (d :: ds, s2)
      | none => none
    | none => none
theorem frz2_ok {F : Fx} {c : Cf} {v : V} {w : W} {d : D} {s' : Stt} (R : Rep F c) (h : Den2 F c v w) (e : frz w c.s = some (d, s')) :
    ∃ c', c'.H = c.H ∧ c'.s = s' ∧ Rep F c' ∧ GoE F c c' ∧ Rp F.K c'.B v d := by
  obtain ⟨c', e1, e2, _, _, R', G, r⟩ := frz_ok R GoE.rfl' (h.den (H0 := c.H)) e
  exact ⟨c', e1, e2, R', G, r⟩
theorem frzA_ok {F : Fx} : ∀ {c : Cf} {vs : List V} {ws : List W} {ds : List D} {s' : Stt}, Rep F c → DenA F c vs ws → frzA ws c.s = some (ds, s') →
    ∃ c', c'.H = c.H ∧ c'.s = s' ∧ Rep F c' ∧ GoE F c c' ∧ RpA F.K c'.B vs ds
  | c, _, _, ds, s', R, .nil, e => by
    simp only [frzA, Option.some.injEq, Prod.mk.injEq] at e
    obtain ⟨rfl, rfl⟩ := e
    exact ⟨c, rfl, rfl, R, GoE.rfl', .nil⟩
  | c, _, _, ds, s', R, .cons (a := v) (b := w) (l₁ := vs) (l₂ := ws) h t, e => by
    simp only [frzA] at e
    split at e
    · rename_i d s1 e1
      split at e
      · rename_i ds' s2 e2
        simp only [Option.some.injEq, Prod.mk.injEq] at e
        obtain ⟨rfl, rfl⟩ := e
        obtain ⟨c1, q1, q2, R1, G1, r1⟩ := frz2_ok R h e1
        obtain ⟨c2, p1, p2, R2, G2, r2⟩ := frzA_ok R1 (DenA.keep G1 t) (by rw [q2]; exact e2)
        exact ⟨c2, p1.trans q1, p2, R2, G1.trans G2, .cons (r1.ext G2.go.b) r2⟩
      · cases e
    · cases e
theorem DenA.len {F : Fx} {c : Cf} {vs : List V} {ws : List W} (h : DenA F c vs ws) : vs.length = ws.length := Paired.length h
def gTup (ga : GA) : GX := fun s Φ => ga s fun ws s1 => ∃ ds s2, frzA ws s1 = some (ds, s2) ∧ ws.length ≤ 1000 ∧ Φ (.dat (.tup ds)) s2
def gLst (ga : GA) : GX := fun s Φ => ga s fun ws s1 => ∃ ds s2, frzA ws s1 = some (ds, s2) ∧ ws.length ≤ 1000 ∧ Φ (.new ds) s2
theorem le_line {n : Nat} (h : n ≤ 1000) : n ≤ sizeLine := by rw [sizeLine_eq]; omega
theorem se_tup {t : TA} {ga : GA} (h : SA K t ga) : SE K (tTup t) (gTup ga) := by
  intro F hK c Φ Q R p q
  refine h F hK c _ _ R p fun c1 vs ws R1 G1 D1 p1 => ?_
  obtain ⟨ds, s2, e, hl, p2⟩ := p1
  refine ⟨le_line (by rw [D1.len]; exact hl), fun p hp => ?_⟩
  obtain ⟨c2, e1, e2, R2, G2, r⟩ := frzA_ok R1 D1 e
  rw [← e1] at hp ⊢
  obtain ⟨c3, e3, e4, R3, G3, r3⟩ := R2.newT hp r
  rw [← e3]
  exact q c3 _ (.dat (.tup ds)) R3 ((G1.trans G2).trans G3) r3 (by rw [e4, e2]; exact p2)
theorem se_lst {t : TA} {ga : GA} (h : SA K t ga) : SE K (tLst t) (gLst ga) := by
  intro F hK c Φ Q R p q
  refine h F hK c _ _ R p fun c1 vs ws R1 G1 D1 p1 => ?_
  obtain ⟨ds, s2, e, hl, p2⟩ := p1
  refine ⟨le_line (by rw [D1.len]; exact hl), fun p hp => ?_⟩
  obtain ⟨c2, e1, e2, R2, G2, r⟩ := frzA_ok R1 D1 e
  rw [← e1] at hp ⊢
  obtain ⟨c3, e3, e4, _, R3, G3, r3⟩ := R2.newL hp r
  rw [← e3]
  exact q c3 _ _ R3 ((G1.trans G2).trans G3) (r3.back (G1.trans G2).go) (by rw [e4, e2]; exact p2)
/-- a built-in called -/
def ClS (K : Bd) (r : List V → Hp → VK → Prop) (f : List D → Option W) : Prop := ∀ F : Fx, F.bd = K → ∀ (c : Cf) (xs : List V) (ds : List D) (w : W) (Q : VK), Rep F c → Paired (Rq F c) xs ds → f ds = some w →
  (∀ c' v, Rep F c' → GoE F c c' → c'.s = c.s → Den F c.H c' v w → Q v c'.H) → r xs c.H Q
def gCl (f : List D → Option W) (ga : GA) : GX := fun s Φ => ga s fun ws s1 => ∃ ds w, rdA ws s1 = some ds ∧ f ds = some w ∧ Φ w s1
theorem se_cl {r : List V → Hp → VK → Prop} {f : List D → Option W} {t : TA} {ga : GA} (ho : ClS K r f) (h : SA K t ga) : SE K (tCB r t) (gCl f ga) := by
  intro F hK c Φ Q R p q
  refine h F hK c _ _ R p fun c1 vs ws R1 G1 D1 p1 => ?_
  obtain ⟨ds, w, e1, e2, p2⟩ := p1
  refine ho F hK c1 vs ds w _ R1 (rdA_ok R1 D1 e1) e2 fun c2 v R2 G2 es D2 => ?_
  exact q c2 v w R2 (G1.trans G2) (D2.back G1.go) (es ▸ p2)
/-! ### statements -/
def gsNil : GS := fun s De => De.nx s
def gsSeq (a b : GS) : GS := fun s De => a s { De with nx := fun s' => b s' De }
theorem ss_nil : SS K tNext gsNil := by
  intro F hK c E De R p ok
  exact ok.nx c R Go.rfl' p
theorem ss_seq {t u : TS} {a b : GS} (h1 : SS K t a) (h2 : SS K u b) : SS K (tSeq t u) (gsSeq a b) := by
  intro F hK c E De R p ok
  refine h1 F hK c _ _ R p ⟨fun c' R' G' p' => ?_, ok.rt, ok.bk, ok.ct⟩
  exact h2 F hK c' E De R' p' (ok.go G')
def gsRet (g : GX) : GS := fun s De => g s De.rt
theorem ss_ret {t : TE} {g : GX} (h : SE K t g) : SS K (tRet t) (gsRet g) := by
  intro F hK c E De R p ok
  exact h F hK c _ _ R p fun c' v w R' G' D' p' => ok.rt c' v w R' G'.go D' p'
def gsRetN : GS := fun s De => De.rt (.dat .non) s
theorem ss_retN : SS K tRetN gsRetN := by
  intro F hK c E De R p ok
  exact ok.rt c .non (.dat .non) R Go.rfl' Rp.non p
def gsIf (gt : GB) (a b : GS) : GS := fun s De => gt s fun k s1 => if k = true then a s1 De else b s1 De
theorem ss_if {tt : TT} {t u : TS} {gt : GB} {a b : GS} (ht : SB K tt gt) (h1 : SS K t a) (h2 : SS K u b) : SS K (tIfS tt t u) (gsIf gt a b) := by
  intro F hK c E De R p ok
  refine ht F hK c _ _ R p fun c1 k R1 G1 p1 => ?_
  cases k with
  | true => exact h1.run hK G1.σ R1 p1 (ok.go G1.go)
  | false => exact h2.run hK G1.σ R1 p1 (ok.go G1.go)
def gsDrop (g : GX) : GS := fun s De => g s fun _ s1 => De.nx s1
theorem ss_drop {t : TE} {g : GX} (h : SE K t g) : SS K (tDrop t) (gsDrop g) := by
  intro F hK c E De R p ok
  refine h F hK c _ _ R p fun c' v w R' G' D' p' => ?_
  exact ok.nxE R' G' p'
def gsBrk : GS := fun s De => De.bk s
def gsCnt : GS := fun s De => De.ct s
theorem ss_brk : SS K tBreak gsBrk := by
  intro F hK c E De R p ok
  exact ok.bk c R Go.rfl' p
theorem ss_cnt : SS K tCont gsCnt := by
  intro F hK c E De R p ok
  exact ok.ct c R Go.rfl' p
/-! ### slots -/
def Stt.put (s : Stt) (i : Nat) (e : En) : Stt := { s with r := s.r.set i (some e) }
theorem get_set {α : Type} {l : List α} {i j : Nat} {x y : α} (h : (l.set i x)[j]? = some y) : (j = i ∧ y = x ∧ i < l.length) ∨ (j ≠ i ∧ l[j]? = some y) := by
  by_cases z : j = i
  · subst z
    by_cases q : j < l.length
    · rw [List.getElem?_set_self q] at h
      exact .inl ⟨rfl, (Option.some.inj h).symm, q⟩
    · rw [List.getElem?_eq_none (by rw [List.length_set]; omega)] at h
      cases h
  · rw [List.getElem?_set_ne (Ne.symm z)] at h
    exact .inr ⟨z, h⟩
/-- slot i holds v from now on, told as e -/
theorem Rep.setE {F : Fx} {c : Cf} {i : Nat} {v : V} {e : En} (R : Rep F c) (hv : i < c.σ.length → EnR F { c with σ := c.σ.set i (some v), s := c.s.put i e } i e)
    (hs : ∀ l, e.isOwn = true → v = .ref l → ¬ Own c l) : Rep F { c with σ := c.σ.set i (some v), s := c.s.put i e } ∧ (∀ a, Own { c with σ := c.σ.set i (some v), s := c.s.put i e } a → Own c a ∨ (e.isOwn = true ∧ v = .ref a)) := by
  have at1 : ∀ {j : Nat} {x : En}, (c.s.r.set i (some e))[j]? = some (some x) → (j = i ∧ x = e ∧ i < c.σ.length) ∨ (j ≠ i ∧ c.s.r[j]? = some (some x)) := by
    intro j x h
    rcases get_set h with ⟨a, b, q⟩ | q
    · exact .inl ⟨a, Option.some.inj b, by rw [R.len]; exact q⟩
    · exact .inr q
  have σ1 : ∀ {j : Nat}, j ≠ i → (c.σ.set i (some v))[j]? = c.σ[j]? := fun z => List.getElem?_set_ne (Ne.symm z)
  have σ2 : i < c.σ.length → (c.σ.set i (some v))[i]? = some (some v) := fun q => List.getElem?_set_self q
  refine ⟨⟨R.le, ?_, ?_, ?_, R.bag⟩, ?_⟩
  · show (c.σ.set i (some v)).length = (c.s.r.set i (some e)).length
    rw [List.length_set, List.length_set, R.len]
  · intro j x h
    rcases at1 h with ⟨rfl, rfl, q⟩ | ⟨z, q⟩
    · exact hv q
    · have y := R.at_ j x q
      cases x with
      | val d => obtain ⟨u, y1, y2⟩ := y; exact ⟨u, (σ1 z).trans y1, y2⟩
      | bag => exact ⟨y.1, (σ1 z).trans y.2⟩
      | _ => obtain ⟨l, vs, y1, y2⟩ := y; exact ⟨l, vs, (σ1 z).trans y1, y2⟩
  · intro j k dj dk l h1 o1 h2 o2 h3 h4
    rcases at1 h1 with ⟨rfl, e1, q1⟩ | ⟨z1, q1⟩ <;> rcases at1 h2 with ⟨rfl, e2, q2⟩ | ⟨z2, q2⟩
    · rfl
    · have h3' : (c.σ.set j (some v))[j]? = some (some (V.ref l)) := h3
      have h4' : (c.σ.set j (some v))[k]? = some (some (V.ref l)) := h4
      rw [σ2 q1] at h3'
      rw [σ1 z2] at h4'
      cases h3'
      exact absurd ⟨k, dk, q2, o2, h4'⟩ (hs _ (e1 ▸ o1) rfl)
    · have h3' : (c.σ.set k (some v))[j]? = some (some (V.ref l)) := h3
      have h4' : (c.σ.set k (some v))[k]? = some (some (V.ref l)) := h4
      rw [σ2 q2] at h4'
      rw [σ1 z1] at h3'
      cases h4'
      exact absurd ⟨j, dj, q1, o1, h3'⟩ (hs _ (e2 ▸ o2) rfl)
    · exact R.sep j k dj dk l q1 o1 q2 o2 ((σ1 z1).symm.trans h3) ((σ1 z2).symm.trans h4)
  · rintro a ⟨j, ds, h1, h0, h2⟩
    rcases at1 h1 with ⟨rfl, e1, q1⟩ | ⟨z1, q1⟩
    · have h2' : (c.σ.set j (some v))[j]? = some (some (V.ref a)) := h2
      rw [σ2 q1] at h2'
      cases h2'
      exact .inr ⟨e1 ▸ h0, rfl⟩
    · exact .inl ⟨j, ds, q1, h0, (σ1 z1).symm.trans h2⟩
theorem Rep.setV {F : Fx} {c : Cf} {i : Nat} {v : V} {d : D} (R : Rep F c) (hv : Rp F.K c.B v d) : Rep F { c with σ := c.σ.set i (some v), s := c.s.put i (.val d) } ∧ Go F c { c with σ := c.σ.set i (some v), s := c.s.put i (.val d) } := by
  obtain ⟨h1, h2⟩ := R.setE (i := i) (v := v) (e := .val d) (fun q => ⟨v, List.getElem?_set_self q, hv⟩) (fun l e => by cases e)
  refine ⟨h1, ⟨Ext.rfl', fun a o e _ => e, fun a e n => absurd n e, fun a m => ?_, fun a e => e⟩⟩
  rcases h2 a m with q | ⟨e, _⟩
  · exact .inl q
  · cases e
def gsSet (i : Nat) (g : GX) : GS := fun s De => g s fun w s1 => ∃ d s2, frz w s1 = some (d, s2) ∧ De.nx (s2.put i (.val d))
theorem ss_set {i : Nat} {t : TE} {g : GX} (h : SE K t g) : SS K (tAsg t (L2.gName i)) (gsSet i g) := by
  intro F hK c E De R p ok
  refine h F hK c _ _ R p fun c1 v w R1 G1 D1 p1 => ?_
  obtain ⟨d, s2, e, p2⟩ := p1
  obtain ⟨c2, e1, e2, e3, _, R2, G2, r⟩ := frz_ok R1 G1 D1 e
  obtain ⟨R3, G3⟩ := R2.setV (i := i) r
  have q := ok.nx _ R3 (G2.go.trans G3) (by rw [e2]; exact p2)
  show E.nx (c.σ.set i (some v)) c1.H
  rw [← G1.σ, ← e3, ← e1]
  exact q
def gsOwn (i : Nat) (g : GX) : GS := fun s De => g s fun w s1 => ∃ ds, w = .new ds ∧ De.nx (s1.put i (.own ds))
theorem ss_own {i : Nat} {t : TE} {g : GX} (h : SE K t g) : SS K (tAsg t (L2.gName i)) (gsOwn i g) := by
  intro F hK c E De R p ok
  refine h F hK c _ _ R p fun c1 v w R1 G1 D1 p1 => ?_
  obtain ⟨ds, rfl, p2⟩ := p1
  obtain ⟨l, vs, rfl, h2, h3, h4, h5, h6, h7⟩ := D1
  obtain ⟨R3, hO⟩ := R1.setE (i := i) (v := .ref l) (e := .own ds) (fun q => ⟨l, .lst vs, List.getElem?_set_self q, h2, ⟨vs, rfl, h3⟩, h4, h6⟩) (fun l' _ e => by cases e; exact h5)
  have q := ok.nx { c1 with σ := c1.σ.set i (some (.ref l)), s := c1.s.put i (.own ds) } R3 ⟨G1.go.b, G1.go.fr, G1.go.nb, fun a m => by
    rcases hO a m with z | ⟨_, z⟩
    · exact G1.go.ow a z
    · cases z; exact .inr h7, G1.go.dom⟩ p2
  show E.nx (c.σ.set i (some (.ref l))) c1.H
  rw [← G1.σ]
  exact q
/-- the thing of slot i becomes another one -/
theorem Rep.updE {F : Fx} {c : Cf} {i : Nat} {l : Addr} {e e' : En} {o' : HO} (R : Rep F c) (hi : c.s.r[i]? = some (some e)) (ho : e.isOwn = true) (hl : c.σ[i]? = some (some (.ref l))) (hv : OwR F c.B l e' o') :
    Rep F { c with H := upd c.H l o', s := c.s.put i e' } ∧ GoE F c { c with H := upd c.H l o', s := c.s.put i e' } := by
  obtain ⟨l1, vs, q1, q2, q3, q4, q5⟩ := (R.at_ i _ hi).own ho
  rw [hl] at q1
  cases q1
  have ho' := hv.isOwn
  have hlen : i < c.s.r.length := (List.getElem?_eq_some_iff.mp hi).1
  have at1 : ∀ {j : Nat} {x : En}, (c.s.r.set i (some e'))[j]? = some (some x) → (j = i ∧ x = e') ∨ (j ≠ i ∧ c.s.r[j]? = some (some x)) := by
    intro j x h
    rcases get_set h with ⟨a, b, q⟩ | q
    · exact .inl ⟨a, Option.some.inj b⟩
    · exact .inr q
  have own1 : ∀ {j : Nat} {x : En}, (c.s.r.set i (some e'))[j]? = some (some x) → x.isOwn = true → ∃ y, c.s.r[j]? = some (some y) ∧ y.isOwn = true := by
    intro j dj h hx
    rcases at1 h with ⟨rfl, _⟩ | ⟨_, q⟩
    · exact ⟨_, hi, ho⟩
    · exact ⟨_, q, hx⟩
  have R' : Rep F { c with H := upd c.H l o', s := c.s.put i e' } := by
    refine ⟨?_, ?_, ?_, ?_, ?_⟩
    · intro a u e
      show (upd c.H l o') a = some u
      rw [upd_ne (ne_of_none e q4)]
      exact R.le a u e
    · show c.σ.length = (c.s.r.set i _).length
      rw [List.length_set]; exact R.len
    · intro j x h
      rcases at1 h with ⟨rfl, rfl⟩ | ⟨z, q⟩
      · have key : OwE F { c with H := upd c.H l o', s := c.s.put j x } j x := ⟨l, o', hl, upd_same, hv, q4, q5⟩
        cases x with
        | val d => cases ho'
        | bag => cases ho'
        | _ => exact key
      · have y := R.at_ j x q
        cases x with
        | val d => exact y
        | bag => exact y
        | _ =>
          obtain ⟨l', vsj, y1, y2, y3⟩ := y
          refine ⟨l', vsj, y1, ?_, y3⟩
          show (upd c.H l o') l' = some vsj
          rw [upd_ne (fun e => z (R.sep j i _ _ l q rfl hi ho (by rw [← e]; exact y1) hl))]
          exact y2
    · intro j k dj dk l' h1 o1 h2 o2 h3 h4
      obtain ⟨_, z1, z1'⟩ := own1 h1 o1
      obtain ⟨_, z2, z2'⟩ := own1 h2 o2
      exact R.sep j k _ _ l' z1 z1' z2 z2' h3 h4
    · intro on
      obtain ⟨p1, p2, p3⟩ := R.bag on
      refine ⟨p1.at_ ?_ ?_, p2, p3⟩
      · show (upd c.H l o') F.b = c.H F.b
        rw [upd_ne (q5 on).1.symm]
      · show (upd c.H l o') F.c = c.H F.c
        rw [upd_ne (q5 on).2.symm]
  have G : Go F c { c with H := upd c.H l o', s := c.s.put i e' } := by
    refine ⟨Ext.rfl', fun a u q n => ?_, fun a e n => absurd n e, ?_, fun a q => ?_⟩
    · show (upd c.H l o') a = some u
      rw [upd_ne (fun z => n (.inl ⟨i, e, hi, ho, by rw [z]; exact hl⟩))]
      exact q
    · rintro a ⟨j, dj, h1, h0, h2⟩
      obtain ⟨dk, z, z'⟩ := own1 h1 h0
      exact .inl ⟨j, dk, z, z', h2⟩
    · show (upd c.H l o') a ≠ none
      by_cases z : a = l
      · rw [z, upd_same]; exact fun x => nomatch x
      · rw [upd_ne z]; exact q
  refine ⟨R', G, rfl, fun j e1 h => ?_⟩
  by_cases z : j = i
  · subst z
    exact ⟨e', List.getElem?_set_self hlen⟩
  · exact ⟨e1, (List.getElem?_set_ne (Ne.symm z)).trans h⟩
end
end DL
set_option maxHeartbeats 2000000
/-! Targets, walks, loops, comprehensions over data. -/
namespace DL
open PySem PySem.Spec PyProof.Rows L2 Ax
section
variable {K : Bd}
/-! ### targets -/
structure ST (K : Bd) (tg : TG) (is : List Nat) (f : D → Stt → Option Stt) : Prop where
  run : ∀ F : Fx, F.bd = K → ∀ (c : Cf) (v : V) (d : D) (s' : Stt) (Q : L2.St → Hp → Prop), Rep F c → Rp F.K c.B v d → f d c.s = some s' →
    (∀ c', Rep F c' → Go F c c' → c'.s = s' → c'.H = c.H → c'.σ.length = c.σ.length → (∀ j, j ∉ is → c'.σ[j]? = c.σ[j]?) → Q c'.σ c'.H) → tg v c.σ c.H Q
  keep : ∀ d s s', f d s = some s' → s'.n = s.n ∧ s'.r.length = s.r.length ∧ ∀ j, j ∉ is → s'.r[j]? = s.r[j]?
structure STs (K : Bd) (tg : TGs) (is : List Nat) (f : List D → Stt → Option Stt) : Prop where
  run : ∀ F : Fx, F.bd = K → ∀ (c : Cf) (vs : List V) (ds : List D) (s' : Stt) (Q : L2.St → Hp → Prop), Rep F c → RpA F.K c.B vs ds → f ds c.s = some s' →
    (∀ c', Rep F c' → Go F c c' → c'.s = s' → c'.H = c.H → c'.σ.length = c.σ.length → (∀ j, j ∉ is → c'.σ[j]? = c.σ[j]?) → Q c'.σ c'.H) → tg vs c.σ c.H Q
  keep : ∀ ds s s', f ds s = some s' → s'.n = s.n ∧ s'.r.length = s.r.length ∧ ∀ j, j ∉ is → s'.r[j]? = s.r[j]?
def tgName (i : Nat) : D → Stt → Option Stt := fun d s => some (s.put i (.val d))
theorem st_name (i : Nat) : ST K (L2.gName i) [i] (tgName i) := by
  refine ⟨fun F hK c v d s' Q R hv e q => ?_, fun d s s' e => ?_⟩
  · cases Option.some.inj e
    obtain ⟨R1, G1⟩ := R.setV (i := i) hv
    refine q _ R1 G1 rfl rfl (by simp) fun j hj => ?_
    exact List.getElem?_set_ne (fun z => hj (by simp [z]))
  · cases Option.some.inj e
    exact ⟨rfl, by simp [Stt.put], fun j hj => List.getElem?_set_ne (fun z => hj (by simp [z]))⟩
def tgNil : List D → Stt → Option Stt
  | [], s => some s
  | _, _ => none
def tgCons (f : D → Stt → Option Stt) (g : List D → Stt → Option Stt) : List D → Stt → Option Stt
  | d :: ds, s => match f d s with
    | some s1 => g ds s1
    | none => none
  | [], _ => none
theorem st_nil : STs K gNil [] tgNil := by
  refine ⟨fun F hK c vs ds s' Q R hv e q => ?_, fun ds s s' e => ?_⟩
  · cases hv with
    | nil =>
      cases Option.some.inj e
      exact ⟨rfl, q c R Go.rfl' rfl rfl rfl fun _ _ => rfl⟩
    | cons h t => cases e
  · cases ds with
    | nil => cases Option.some.inj e; exact ⟨rfl, rfl, fun _ _ => rfl⟩
    | cons d ds => cases e
theorem st_cons {t : TG} {u : TGs} {is js : List Nat} {f : D → Stt → Option Stt} {g : List D → Stt → Option Stt} (h1 : ST K t is f) (h2 : STs K u js g) : STs K (gCons t u) (is ++ js) (tgCons f g) := by
  refine ⟨fun F hK c vs ds s' Q R hv e q => ?_, fun ds s s' e => ?_⟩
  · cases hv with
    | nil => cases e
    | @cons v vs d ds h t =>
      simp only [tgCons] at e
      split at e
      · rename_i s1 e1
        refine ⟨v, vs, rfl, h1.run F hK c v d s1 _ R h e1 fun c1 R1 G1 q1 qH q2 q3 => ?_⟩
        refine h2.run F hK c1 vs ds s' _ R1 (t.ext G1.b) (by rw [q1]; exact e) fun c2 R2 G2 p1 pH p2 p3 => ?_
        refine q c2 R2 (G1.trans G2) p1 (pH.trans qH) (p2.trans q2) fun j hj => ?_
        rw [List.mem_append, not_or] at hj
        exact (p3 j hj.2).trans (q3 j hj.1)
      · cases e
  · cases ds with
    | nil => cases e
    | cons d ds =>
      simp only [tgCons] at e
      split at e
      · rename_i s1 e1
        obtain ⟨a1, a2, a3⟩ := h1.keep _ _ _ e1
        obtain ⟨b1, b2, b3⟩ := h2.keep _ _ _ e
        refine ⟨b1.trans a1, b2.trans a2, fun j hj => ?_⟩
        rw [List.mem_append, not_or] at hj
        exact (b3 j hj.2).trans (a3 j hj.1)
      · cases e
def tgTup (n : Nat) (g : List D → Stt → Option Stt) : D → Stt → Option Stt
  | .tup ds, s => if ds.length = n then g ds s else none
  | _, _ => none
theorem st_tup {n : Nat} {u : TGs} {is : List Nat} {g : List D → Stt → Option Stt} (h : STs K u is g) : ST K (L2.gTup K n u) is (tgTup n g) := by
  refine ⟨fun F hK c v d s' Q R hv e q => ?_, fun d s s' e => ?_⟩
  · cases hv with
    | @tup a xs ds h1 h2 =>
      simp only [tgTup] at e
      split at e
      · rename_i hl
        refine ⟨a, xs, rfl, by rw [← hK]; exact h1.ext R.le, by rw [h2.len]; exact hl, ?_⟩
        exact h.run F hK c xs ds s' Q R h2 e q
      · cases e
    | _ => cases e
  · cases d with
    | tup ds =>
      simp only [tgTup] at e
      split at e
      · exact h.keep _ _ _ e
      · cases e
    | _ => cases e
/-- x, y = e -/
def gsAsg (f : D → Stt → Option Stt) (g : GX) : GS := fun s De => g s fun w s1 => ∃ d s2 s3, frz w s1 = some (d, s2) ∧ f d s2 = some s3 ∧ De.nx s3
theorem ss_asg {t : TE} {tg : TG} {is : List Nat} {f : D → Stt → Option Stt} {g : GX} (h : SE K t g) (ht : ST K tg is f) : SS K (tAsg t tg) (gsAsg f g) := by
  intro F hK c E De R p ok
  refine h F hK c _ _ R p fun c1 v w R1 G1 D1 p1 => ?_
  obtain ⟨d, s2, s3, e, e', p2⟩ := p1
  obtain ⟨c2, e1, e2, e3, _, R2, G2, r⟩ := frz_ok R1 G1 D1 e
  have key := ht.run F hK c2 v d s3 E.nx R2 r (by rw [e2]; exact e') fun c3 R3 G3 q1 qH _ _ => ok.nx c3 R3 (G2.go.trans G3) (by rw [q1]; exact p2)
  rw [e3, e1, G1.σ] at key
  exact key
/-! ### walks -/
structure WalkD (F : Fx) (B0 : Hp) (J : It) (ds : List D) : Prop where
  ex : ∃ Y, Walk J ds.length (fun H => Ext B0 H) Y ∧ ∀ (i : Nat) (x : V) (c : Cf) (H' : Hp), Rep F c → Ext B0 c.B → i < ds.length → Y i c.H x H' →
    ∃ c' d, c'.H = H' ∧ c'.s = c.s ∧ c'.σ = c.σ ∧ Rep F c' ∧ Go F c c' ∧ ds[i]? = some d ∧ Rp F.K c'.B x d
def SI (K : Bd) (wi : TI) (g : GI) : Prop := ∀ F : Fx, F.bd = K → ∀ (c : Cf) (Φ : List D → Stt → Prop) (R : It → Hp → Prop), Rep F c → g c.s Φ → (∀ c' J ds, Rep F c' → GoE F c c' → WalkD F c'.B J ds → Φ ds c'.s → R J c'.H) → wi c.σ c.H R
theorem SI.run {wi : TI} {g : GI} (h : SI K wi g) {F : Fx} (hK : F.bd = K) {c : Cf} {σ : L2.St} (e : c.σ = σ) {Φ : List D → Stt → Prop} {R : It → Hp → Prop} (Rc : Rep F c) (p : g c.s Φ) (q : ∀ c' J ds, Rep F c' → GoE F c c' → WalkD F c'.B J ds → Φ ds c'.s → R J c'.H) : wi σ c.H R := by
  subst e
  exact h F hK c Φ R Rc p q
def loopF (f : D → Stt → Option Stt) (b : GS) : List D → Stt → EndsD → Prop
  | [], s, De => De.nx s
  | d :: ds, s, De => ∃ s1, f d s = some s1 ∧ b s1 { nx := fun s2 => loopF f b ds s2 De, ct := fun s2 => loopF f b ds s2 De, bk := De.nx, rt := De.rt }
def gsFor (gi : GI) (f : D → Stt → Option Stt) (b : GS) : GS := fun s De => gi s fun ds s1 => loopF f b ds s1 De
theorem ss_for {wi : TI} {tg : TG} {tb : TS} {gi : GI} {is : List Nat} {f : D → Stt → Option Stt} {b : GS} (hi : SI K wi gi) (ht : ST K tg is f) (hb : SS K tb b) : SS K (tFor wi tg tb) (gsFor gi f b) := by
  intro F hK c E De R p ok
  refine hi F hK c _ _ R p fun c1 J ds R1 G1 W p1 => ?_
  obtain ⟨Y, hw, hY⟩ := W.ex
  refine for_it hw (fun i σ H => ∃ c2, c2.σ = σ ∧ c2.H = H ∧ Rep F c2 ∧ Go F c1 c2 ∧ loopF f b (ds.drop i) c2.s De) ⟨c1, G1.σ, rfl, R1, Go.rfl', p1⟩ ?_ ?_ ?_
  · rintro i σ H hi ⟨c2, rfl, rfl, R2, G2, _⟩
    exact G2.b.trans R2.le
  · rintro i x σ H H' hi ⟨c2, rfl, rfl, R2, G2, p2⟩ y
    obtain ⟨c3, d, eH, es, eσ, R3, G3, hd, r⟩ := hY i x c2 H' R2 G2.b hi y
    have hdr : ds.drop i = d :: ds.drop (i + 1) := by
      rw [List.drop_eq_getElem_cons hi]
      have := List.getElem?_eq_getElem hi
      rw [hd] at this
      rw [← Option.some.inj this]
    rw [hdr] at p2
    obtain ⟨s1, e1, p3⟩ := p2
    rw [← eH, ← eσ]
    refine ht.run F hK c3 x d s1 _ R3 r (by rw [es]; exact e1) fun c4 R4 G4 q1 qH _ _ => ?_
    have G14 := (G2.trans G3).trans G4
    refine hb F hK c4 _ _ R4 (by rw [q1]; exact p3) ⟨fun c5 R5 G5 p5 => ⟨c5, rfl, rfl, R5, G14.trans G5, p5⟩, fun c5 v w R5 G5 D5 p5 => ?_, fun c5 R5 G5 p5 => ?_, fun c5 R5 G5 p5 => ⟨c5, rfl, rfl, R5, G14.trans G5, p5⟩⟩
    · exact ok.rt c5 v w R5 ((G1.go.trans G14).trans G5) (D5.back (G1.go.trans G14)) p5
    · exact ok.nx c5 R5 ((G1.go.trans G14).trans G5) p5
  · rintro σ H ⟨c2, rfl, rfl, R2, G2, p2⟩
    rw [List.drop_length] at p2
    exact ok.nx c2 R2 (G1.go.trans G2) p2
/-! ### what is walked -/
def itemsD : D → Option (List D)
  | .lst ds => some ds
  | .tup ds => some ds
  | _ => none
def giSeq (g : GX) : GI := fun s Φ => g s fun w s1 => ∃ d s2 ds, frz w s1 = some (d, s2) ∧ itemsD d = some ds ∧ Φ ds s2
def iSeq (K : PySem.W.Frag) (te : TE) : TI := fun σ H R => te σ H fun x H1 => (∃ a, x = .ref a ∧ (∃ xs, SqL K H1 a xs) ∧ R (Itl K a) H1) ∨ (∃ a, x = .ref a ∧ (∃ xs, SqT K H1 a xs) ∧ R (Itt K a) H1)
theorem pi_seq {X : Cx} {tg l : Expr} {tl : TE} (hl : PE X l tl) : PI X tg l (iSeq X.K tl) := by
  refine ⟨fun pins s σ H R I h => ?_⟩
  have key : wpAny (model X.prog X.w) X.A (eval l X.env) (fun v s1 => (∃ x H1, Inv X pins σ H1 s1 ∧ RelV x v ∧ (∃ a, x = .ref a ∧ (∃ xs, SqL X.K H1 a xs) ∧ R (Itl X.K a) H1)) ∨ (∃ x H1, Inv X pins σ H1 s1 ∧ RelV x v ∧ (∃ a, x = .ref a ∧ (∃ xs, SqT X.K H1 a xs) ∧ R (Itt X.K a) H1))) X.xe s :=
    thn (hl.run pins s σ H _ I h) fun v s1 ⟨x, H1, I1, r, q⟩ => q.elim (fun q => .inl ⟨x, H1, I1, r, q⟩) fun q => .inr ⟨x, H1, I1, r, q⟩
  refine thn key fun v s1 q => ?_
  rcases q with ⟨x, H1, I1, r, q⟩ | ⟨x, H1, I1, r, q⟩
  · obtain ⟨a, rfl, ⟨xs, hs⟩, hR⟩ := q
    obtain rfl : v = Value.ref a := r
    obtain ⟨its, rv, p, hz⟩ := I1.list hs
    refine wpAny_pyIter_list p.isList ?_
    exact pi_one (tk := s1.toks) I1 _ (turn_list a s1.heap.objs.size) ⟨_, Heap.get?_push_size _ rfl, rfl, rfl⟩ hR
  · obtain ⟨a, rfl, ⟨xs, hs⟩, hR⟩ := q
    obtain rfl : v = Value.ref a := r
    obtain ⟨its, rv, p, hz⟩ := I1.tuple hs
    refine wpAny_pyIter_tuple p ?_
    exact pi_one (tk := s1.toks) I1 _ (turn_tuple a s1.heap.objs.size) ⟨_, Heap.get?_push_size _ rfl, rfl, rfl⟩ hR
theorem wd_list {F : Fx} {B : Hp} {a : Addr} {vs : List V} {ds : List D} (h : SqL F.K B a vs) (r : RpA F.K B vs ds) : WalkD F B (Itl F.K a) ds := by
  refine ⟨YAt vs, ?_, fun i x c H' R x0 hi y => ?_⟩
  · rw [← r.len]
    exact walk_list.mono (fun H e => h.ext e) fun _ _ _ _ _ _ y => y
  · obtain ⟨rfl, hx⟩ := y
    obtain ⟨d, h1, h2⟩ := r.get hx
    exact ⟨c, d, rfl, rfl, rfl, R, Go.rfl', h1, h2.ext x0⟩
theorem wd_tup {F : Fx} {B : Hp} {a : Addr} {vs : List V} {ds : List D} (h : SqT F.K B a vs) (r : RpA F.K B vs ds) : WalkD F B (Itt F.K a) ds := by
  refine ⟨YAt vs, ?_, fun i x c H' R x0 hi y => ?_⟩
  · rw [← r.len]
    exact walk_tup.mono (fun H e => h.ext e) fun _ _ _ _ _ _ y => y
  · obtain ⟨rfl, hx⟩ := y
    obtain ⟨d, h1, h2⟩ := r.get hx
    exact ⟨c, d, rfl, rfl, rfl, R, Go.rfl', h1, h2.ext x0⟩
theorem si_seq {t : TE} {g : GX} (h : SE K t g) : SI K (iSeq K t) (giSeq g) := by
  intro F hK c Φ Rr R p q
  refine h F hK c _ _ R p fun c1 v w R1 G1 D1 p1 => ?_
  obtain ⟨d, s2, ds, e, e', p2⟩ := p1
  obtain ⟨c2, e1, e2, e3, _, R2, G2, r⟩ := frz_ok R1 G1 D1 e
  subst hK
  cases r with
  | @lst a xs ds' h1 h2 =>
    cases Option.some.inj e'
    exact .inl ⟨a, rfl, ⟨xs, by rw [← e1]; exact SqL.of (R2.le _ _ h1)⟩, by rw [← e1]; exact q c2 _ ds R2 G2 (wd_list (SqL.of h1) h2) (by rw [e2]; exact p2)⟩
  | @tup a xs ds' h1 h2 =>
    cases Option.some.inj e'
    exact .inr ⟨a, rfl, ⟨xs, by rw [← e1]; exact h1.ext R2.le⟩, by rw [← e1]; exact q c2 _ ds R2 G2 (wd_tup h1 h2) (by rw [e2]; exact p2)⟩
  | _ => cases e'
/-- lo, lo + 1, .. -/
def rangeD (lo : Int) (n : Nat) : List D := (List.range n).map fun i => D.int (lo + (i : Nat))
theorem wd_range {F : Fx} {B : Hp} (lo : Int) (n : Nat) : WalkD F B (Itr lo n) (rangeD lo n) := by
  have hl : (rangeD lo n).length = n := by simp [rangeD]
  refine ⟨YFn fun i => .int (lo + (i : Nat)), ?_, fun i x c H' R x0 hi y => ?_⟩
  · rw [hl]
    exact walk_range.mono (fun H e => trivial) fun _ _ _ _ _ _ y => y
  · obtain ⟨rfl, rfl⟩ := y
    rw [hl] at hi
    exact ⟨c, .int (lo + (i : Nat)), rfl, rfl, rfl, R, Go.rfl', by simp [rangeD, hi], .int _⟩
def giRange1 (ga : GA) : GI := fun s Φ => ga s fun ws s1 => ∃ j : Int, rdA ws s1 = some [.int j] ∧ (-(2 ^ 62) ≤ j ∧ j < 2 ^ 62) ∧ Φ (rangeD 0 j.toNat) s1
theorem si_range1 {t : TA} {ga : GA} (h : SA K t ga) : SI K (iRng1 t) (giRange1 ga) := by
  intro F hK c Φ Rr R p q
  refine h F hK c _ _ R p fun c1 vs ws R1 G1 D1 p1 => ?_
  obtain ⟨j, e, hj, p2⟩ := p1
  have z := rdA_ok R1 D1 e
  cases z with
  | cons a t =>
    cases t
    have a := a.int
    subst a
    exact ⟨j, rfl, hj.1, hj.2, q c1 _ _ R1 G1 (wd_range 0 j.toNat) p2⟩
def giRange2 (ga : GA) : GI := fun s Φ => ga s fun ws s1 => ∃ i j : Int, rdA ws s1 = some [.int i, .int j] ∧ (-(2 ^ 62) ≤ i ∧ i < 2 ^ 62 ∧ -(2 ^ 62) ≤ j ∧ j < 2 ^ 62) ∧ Φ (rangeD i (j - i).toNat) s1
theorem si_range2 {t : TA} {ga : GA} (h : SA K t ga) : SI K (iRng2 t) (giRange2 ga) := by
  intro F hK c Φ Rr R p q
  refine h F hK c _ _ R p fun c1 vs ws R1 G1 D1 p1 => ?_
  obtain ⟨i, j, e, hj, p2⟩ := p1
  have z := rdA_ok R1 D1 e
  cases z with
  | cons a t =>
    cases t with
    | cons b u =>
      cases u
      have a := a.int
      have b := b.int
      subst a b
      exact ⟨i, j, rfl, hj, q c1 _ _ R1 G1 (wd_range i _) p2⟩
/-! ### pairs made in the walk -/
theorem wd_pairs {F : Fx} {B : Hp} {J : It} {n : Nat} {xs ys : Nat → Option V} {ps : List (D × D)} (hn : ps.length = n) (hw : Walk J n (fun H => Ext B H) (YPair xs ys)) (h : ∀ i x y, i < n → xs i = some x → ys i = some y → ∃ p, ps[i]? = some p ∧ Rp F.K B x p.1 ∧ Rp F.K B y p.2) :
    WalkD F B J (ps.map fun p => D.tup [p.1, p.2]) := by
  subst hn
  refine ⟨YPair xs ys, by rw [List.length_map]; exact hw, fun i v c H' R x0 hi z => ?_⟩
  rw [List.length_map] at hi
  obtain ⟨T, x, y, rfl, hT, rfl, h1, h2⟩ := z
  obtain ⟨p, hp, r1, r2⟩ := h i x y hi h1 h2
  obtain ⟨c', e1, e2, R', G, r⟩ := R.newT hT (.cons (r1.ext x0) (.cons (r2.ext x0) .nil))
  exact ⟨c', _, e1, e2, G.σ, R', G.go, by rw [List.getElem?_map, hp]; rfl, r⟩
def enumD (k : Nat) : List D → List (D × D)
  | [] => []
  | d :: ds => (.int (k : Nat), d) :: enumD (k + 1) ds
theorem enumD_get (k : Nat) : ∀ (ds : List D) (i : Nat), (enumD k ds)[i]? = ds[i]?.map fun d => (D.int ((k + i : Nat) : Int), d)
  | [], i => by simp [enumD]
  | d :: ds, 0 => by simp [enumD]
  | d :: ds, i + 1 => by
    simp only [enumD, List.getElem?_cons_succ]
    rw [enumD_get (k + 1) ds i]
    have : k + 1 + i = k + (i + 1) := by omega
    rw [this]
theorem enumD_len (k : Nat) (ds : List D) : (enumD k ds).length = ds.length := by
  induction ds generalizing k with
  | nil => rfl
  | cons d ds ih => simp [enumD, ih]
def giEnum (ga : GA) : GI := fun s Φ => ga s fun ws s1 => ∃ w d s2 ds, ws = [w] ∧ frz w s1 = some (d, s2) ∧ itemsD d = some ds ∧ Φ ((enumD 0 ds).map fun p => D.tup [p.1, p.2]) s2
def iEnumA (K : PySem.W.Frag) (ta : TA) : TI := fun σ H R => ta σ H fun vs H1 => (∃ a xs, vs = [.ref a] ∧ SqL K H1 a xs ∧ R (Ite K a) H1) ∨ (∃ a xs, vs = [.ref a] ∧ SqT K H1 a xs ∧ R (IteT K a) H1)
theorem pi_enumA {X : Cx} {e : Expr} {ta : TA} {p pos tpos : Pos} {elts : List Expr} {kk : Nat} (hg : Gl X "enumerate") (hm : X.mg "enumerate" = none) (ha : PA X [e] ta) (hs : starEach [e] X.env = [(false, eval e X.env)] := by rfl) :
    PI X (.Tuple elts kk tpos) (.Call (.Name "enumerate" p) [e] [] pos) (iEnumA X.K ta) := by
  refine ⟨fun pins s σ H R I h => ?_⟩
  refine Call_ (ld_blt I hg hm boot_enumerate (PyProof.Rows.callWith_type1 (thn (ha.run pos pins s σ H _ I h) fun us s1 ⟨vs, H1, I1, r1, q1⟩ => ?_) hs rfl))
  rcases q1 with ⟨a, xs, rfl, hq, q⟩ | ⟨a, xs, rfl, hq, q⟩
  · obtain ⟨u, rfl, ru⟩ := vals1 r1
    obtain rfl : u = Value.ref a := ru
    obtain ⟨its, rv, p', hz⟩ := I1.list hq
    refine call_enumerate_list p'.isList fun h' he hit hsz hk => wpAny_pyIter_enum he ?_
    have I2 : Inv X pins σ H1 { s1 with heap := h' } := I1.kept (t' := s1.toks) hk
    refine ⟨s1.heap.objs.size + 1, [s1.heap.objs.size + 1, s1.heap.objs.size], _, _, H1, rfl, I2, turn_enum a (s1.heap.objs.size + 1) s1.heap.objs.size, ⟨⟨.none, he⟩, hit, Nat.succ_ne_self _⟩, fun b hb => ?_, q⟩
    have e' : b = s1.heap.objs.size + 1 ∨ b = s1.heap.objs.size := by simpa using hb
    have hle : s1.heap.objs.size ≤ b := by
      rcases e' with z | z
      · rw [z]; exact Nat.le_add_right _ _
      · rw [z]; exact Nat.le_refl _
    exact I1.fpOk hle (I1.hok.fresh hle)
  · obtain ⟨u, rfl, ru⟩ := vals1 r1
    obtain rfl : u = Value.ref a := ru
    obtain ⟨its, rv, pt, hz⟩ := I1.tuple hq
    refine ax_enumCall (begins_tuple a its.toArray) pt fun h' he hi hk => wpAny_pyIter_enum he ?_
    have I2 : Inv X pins σ H1 { s1 with heap := h' } := I1.kept (t' := s1.toks) hk
    refine ⟨s1.heap.objs.size + 1, [s1.heap.objs.size + 1, s1.heap.objs.size], _, _, H1, rfl, I2, turn_enumT a (s1.heap.objs.size + 1) s1.heap.objs.size, ⟨⟨.none, he⟩, ⟨_, hi, rfl, rfl⟩, Nat.succ_ne_self _⟩, fun b hb => ?_, q⟩
    have hle : s1.heap.objs.size ≤ b := by
      rcases List.mem_cons.mp hb with z | z
      · rw [z]; exact Nat.le_add_right _ _
      · rw [List.mem_singleton.mp z]; exact Nat.le_refl _
    exact I1.fpOk hle (I1.hok.fresh hle)
theorem si_enum {t : TA} {ga : GA} (h : SA K t ga) : SI K (iEnumA K t) (giEnum ga) := by
  intro F hK c Φ Rr R p q
  refine h F hK c _ _ R p fun c1 vs ws R1 G1 D1 p1 => ?_
  obtain ⟨w, d, s2, ds, rfl, e, e', p2⟩ := p1
  cases D1 with
  | @cons v _ vs _ dw t =>
    cases t
    obtain ⟨c2, e1, e2, R2, G2, r⟩ := frz2_ok R1 dw e
    subst hK
    cases r with
    | @lst a xs ds' h1 h2 =>
      cases Option.some.inj e'
      refine .inl ⟨a, xs, rfl, by rw [← e1]; exact SqL.of (R2.le _ _ h1), ?_⟩
      rw [← e1]
      refine q c2 _ _ R2 (G1.trans G2) (wd_pairs (n := xs.length) (by rw [enumD_len 0 ds, h2.len]) (walk_enum.mono (fun H e => SqL.of (e _ _ h1)) fun _ _ _ _ _ _ y => y) fun i x y hi hx hy => ?_) (by rw [e2]; exact p2)
      obtain ⟨d', g1, g2⟩ := h2.get hy
      cases Option.some.inj hx
      exact ⟨(D.int ((0 + i : Nat) : Int), d'), by rw [enumD_get 0, g1]; rfl, by show Rp F.K c2.B (.int (i : Nat)) (.int ((0 + i : Nat) : Int)); rw [Nat.zero_add]; exact .int _, g2⟩
    | @tup a xs ds' h1 h2 =>
      cases Option.some.inj e'
      refine .inr ⟨a, xs, rfl, by rw [← e1]; exact h1.ext R2.le, ?_⟩
      rw [← e1]
      refine q c2 _ _ R2 (G1.trans G2) (wd_pairs (n := xs.length) (by rw [enumD_len 0 ds, h2.len]) (walk_enumT.mono (fun H e => h1.ext e) fun _ _ _ _ _ _ y => y) fun i x y hi hx hy => ?_) (by rw [e2]; exact p2)
      obtain ⟨d', g1, g2⟩ := h2.get hy
      cases Option.some.inj hx
      exact ⟨(D.int ((0 + i : Nat) : Int), d'), by rw [enumD_get 0, g1]; rfl, by show Rp F.K c2.B (.int (i : Nat)) (.int ((0 + i : Nat) : Int)); rw [Nat.zero_add]; exact .int _, g2⟩
    | _ => cases e'
end
end DL
set_option maxHeartbeats 2000000
/-! List comprehensions over data. -/
namespace DL
open PySem PySem.Spec PyProof.Rows L2 Ax
def wipeS (r : List (Option En)) : List Nat → List (Option En)
  | [] => r
  | v :: vs => (wipeS r vs).set v none
def backS (r0 r1 : List (Option En)) : List Nat → List (Option En)
  | [] => r1
  | v :: vs => (backS r0 r1 vs).set v ((r0[v]?).getD none)
theorem wipeS_len (r : List (Option En)) : ∀ vs, (wipeS r vs).length = r.length
  | [] => rfl
  | v :: vs => by rw [wipeS, List.length_set, wipeS_len r vs]
theorem backS_len (r0 r1 : List (Option En)) : ∀ vs, (backS r0 r1 vs).length = r1.length
  | [] => rfl
  | v :: vs => by rw [backS, List.length_set, backS_len r0 r1 vs]
theorem set_self' {α : Type} {l : List α} {j : Nat} {x y : α} (h : (l.set j x)[j]? = some y) : y = x := by
  rcases get_set h with ⟨_, e, _⟩ | ⟨z, _⟩
  · exact e
  · exact absurd rfl z
theorem wipeS_get {r : List (Option En)} {j : Nat} {e : En} : ∀ {vs : List Nat}, (wipeS r vs)[j]? = some (some e) → j ∉ vs ∧ r[j]? = some (some e)
  | [], h => ⟨by simp, h⟩
  | v :: vs, h => by
    rw [wipeS] at h
    rcases get_set h with ⟨_, e, _⟩ | ⟨z, q⟩
    · cases e
    · obtain ⟨a, b⟩ := wipeS_get q
      exact ⟨by simp [z, a], b⟩
theorem wipeS_out {r : List (Option En)} {j : Nat} : ∀ {vs : List Nat}, j ∉ vs → (wipeS r vs)[j]? = r[j]?
  | [], _ => rfl
  | v :: vs, h => by
    rw [List.mem_cons, not_or] at h
    rw [wipeS, List.getElem?_set_ne (Ne.symm h.1)]
    exact wipeS_out h.2
theorem backS_out {r0 r1 : List (Option En)} {j : Nat} : ∀ {vs : List Nat}, j ∉ vs → (backS r0 r1 vs)[j]? = r1[j]?
  | [], _ => rfl
  | v :: vs, h => by
    rw [List.mem_cons, not_or] at h
    rw [backS, List.getElem?_set_ne (Ne.symm h.1)]
    exact backS_out h.2
theorem backS_in {r0 r1 : List (Option En)} {j : Nat} (hl : r0.length = r1.length) : ∀ {vs : List Nat}, j ∈ vs → (backS r0 r1 vs)[j]? = r0[j]?
  | v :: vs, h => by
    rw [backS]
    by_cases c : j = v
    · subst c
      by_cases q : j < r0.length
      · rw [List.getElem?_set_self (by rw [backS_len, ← hl]; exact q), List.getElem?_eq_getElem q]
        rfl
      · rw [List.getElem?_eq_none (by rw [List.length_set, backS_len, ← hl]; omega), List.getElem?_eq_none (by omega)]
    · rw [List.getElem?_set_ne (Ne.symm c)]
      rcases List.mem_cons.mp h with z | z
      · exact absurd z c
      · exact backS_in hl z
theorem wipe_out {σ : L2.St} {j : Nat} : ∀ {vs : List Nat}, j ∉ vs → (wipe σ vs)[j]? = σ[j]?
  | [], _ => rfl
  | v :: vs, h => by
    rw [List.mem_cons, not_or] at h
    rw [wipe, List.getElem?_set_ne (Ne.symm h.1)]
    exact wipe_out h.2
theorem wipe_in {σ : L2.St} {j : Nat} : ∀ {vs : List Nat}, j ∈ vs → (wipe σ vs)[j]? = σ[j]?.map fun _ => none
  | v :: vs, h => by
    rw [wipe]
    by_cases c : j = v
    · subst c
      by_cases q : j < σ.length
      · rw [List.getElem?_set_self (by rw [wipe_length]; exact q), List.getElem?_eq_getElem q]
        rfl
      · rw [List.getElem?_eq_none (by rw [List.length_set, wipe_length]; omega), List.getElem?_eq_none (by omega)]
        rfl
    · rw [List.getElem?_set_ne (Ne.symm c)]
      rcases List.mem_cons.mp h with z | z
      · exact absurd z c
      · exact wipe_in z
theorem wipe_same {σ σ' : L2.St} {vs : List Nat} (hl : σ'.length = σ.length) (h : ∀ j, j ∉ vs → σ'[j]? = σ[j]?) : wipe σ' vs = wipe σ vs := by
  apply List.ext_getElem?
  intro j
  by_cases c : j ∈ vs
  · rw [wipe_in c, wipe_in c]
    by_cases q : j < σ.length
    · rw [List.getElem?_eq_getElem q, List.getElem?_eq_getElem (by omega)]
      rfl
    · rw [List.getElem?_eq_none (by omega), List.getElem?_eq_none (by omega)]
  · rw [wipe_out c, wipe_out c]
    exact h j c
theorem wipe_wipe {σ : L2.St} {vs : List Nat} : wipe (wipe σ vs) vs = wipe σ vs := wipe_same (wipe_length _ _) fun j c => wipe_out c
def Stt.wipe (s : Stt) (vs : List Nat) : Stt := { s with r := wipeS s.r vs }
def Stt.back (s0 s1 : Stt) (vs : List Nat) : Stt := { s1 with r := backS s0.r s1.r vs }
def loopC (f : D → Stt → Option Stt) (gc : GB) (ge : GX) (vs : List Nat) : List D → List D → Stt → (List D → Stt → Prop) → Prop
  | [], acc, s, Φ => Φ acc s
  | d :: ds, acc, s, Φ => ∃ s1, f d (s.wipe vs) = some s1 ∧ gc s1 fun b s2 => if b = true then ge s2 fun w s3 => ∃ e s4, frz w s3 = some (e, s4) ∧ loopC f gc ge vs ds (acc ++ [e]) s4 Φ else loopC f gc ge vs ds acc s2 Φ
def gLc (gi : GI) (f : D → Stt → Option Stt) (gc : GB) (ge : GX) (vs : List Nat) : GX := fun s Φ => gi s fun ds s1 => ds.length ≤ 1000000 ∧ loopC f gc ge vs ds [] s1 fun acc s2 => Φ (.new acc) (s1.back s2 vs)
section
variable {K : Bd} {F : Fx}
/-- fewer slots known -/
theorem Rep.wipe {c : Cf} (R : Rep F c) (vs : List Nat) : Rep F { c with σ := L2.wipe c.σ vs, s := c.s.wipe vs } ∧ Go F c { c with σ := L2.wipe c.σ vs, s := c.s.wipe vs } := by
  have g : ∀ {j : Nat} {e : En}, (wipeS c.s.r vs)[j]? = some (some e) → j ∉ vs ∧ c.s.r[j]? = some (some e) := fun h => wipeS_get h
  refine ⟨⟨R.le, ?_, ?_, ?_, R.bag⟩, ⟨Ext.rfl', fun a o e _ => e, fun a e n => absurd n e, ?_, fun a e => e⟩⟩
  · show (L2.wipe c.σ vs).length = (wipeS c.s.r vs).length
    rw [wipe_length, wipeS_len, R.len]
  · intro j e h
    obtain ⟨n, q⟩ := g h
    have y := R.at_ j e q
    have σe : (L2.wipe c.σ vs)[j]? = c.σ[j]? := wipe_out n
    cases e with
    | val d => obtain ⟨v, y1, y2⟩ := y; exact ⟨v, σe.trans y1, y2⟩
    | bag => exact ⟨y.1, σe.trans y.2⟩
    | _ => obtain ⟨l, vs, y1, y2⟩ := y; exact ⟨l, vs, σe.trans y1, y2⟩
  · intro i j di dj l h1 o1 h2 o2 h3 h4
    obtain ⟨n1, q1⟩ := g h1
    obtain ⟨n2, q2⟩ := g h2
    exact R.sep i j di dj l q1 o1 q2 o2 ((wipe_out n1).symm.trans h3) ((wipe_out n2).symm.trans h4)
  · rintro a ⟨j, dj, h1, h0, h2⟩
    obtain ⟨n1, q1⟩ := g h1
    exact .inl ⟨j, dj, q1, h0, (wipe_out n1).symm.trans h2⟩
/-- the own slots come back -/
theorem Rep.back {c0 c1 : Cf} {vs : List Nat} (R0 : Rep F c0) (hσ : L2.wipe c1.σ vs = L2.wipe c0.σ vs) (R1 : Rep F c1) (G : Go F { c0 with σ := L2.wipe c0.σ vs, s := c0.s.wipe vs } { c1 with σ := L2.wipe c1.σ vs, s := c1.s.wipe vs }) (hl : c1.s.r.length = c0.s.r.length) :
    Rep F { c1 with σ := c0.σ, s := c0.s.back c1.s vs } ∧ Go F c0 { c1 with σ := c0.σ, s := c0.s.back c1.s vs } := by
  have σl : c1.σ.length = c0.σ.length := by rw [R1.len, R0.len, hl]
  have σo : ∀ {j : Nat}, j ∉ vs → c1.σ[j]? = c0.σ[j]? := fun {j} n => by
    have := congrArg (fun l => l[j]?) hσ
    simp only [wipe_out n] at this
    exact this
  -- what is not own in the block
  have notIn : ∀ {j : Nat} {dj : En} {l : Addr}, j ∈ vs → c0.s.r[j]? = some (some dj) → dj.isOwn = true → c0.σ[j]? = some (some (.ref l)) → ¬ Own { c0 with σ := L2.wipe c0.σ vs, s := c0.s.wipe vs } l := by
    rintro j dj l hj h1 o1 h2 ⟨i, di, h3, h0, h4⟩
    obtain ⟨n, q⟩ := wipeS_get h3
    have h4' : c0.σ[i]? = some (some (V.ref l)) := (wipe_out n).symm.trans h4
    have := R0.sep i j di dj l q h0 h1 o1 h4' h2
    rw [this] at n
    exact n hj
  have cases1 : ∀ {j : Nat} {e : En}, (backS c0.s.r c1.s.r vs)[j]? = some (some e) → (j ∈ vs ∧ c0.s.r[j]? = some (some e)) ∨ (j ∉ vs ∧ c1.s.r[j]? = some (some e)) := by
    intro j e h
    by_cases c : j ∈ vs
    · rw [backS_in hl.symm c] at h
      exact .inl ⟨c, h⟩
    · rw [backS_out c] at h
      exact .inr ⟨c, h⟩
  -- an own list of a slot that comes back
  have kept : ∀ {j : Nat} {dj : En}, j ∈ vs → c0.s.r[j]? = some (some dj) → dj.isOwn = true → ∃ l ws, c0.σ[j]? = some (some (.ref l)) ∧ c1.H l = some ws ∧ OwR F c1.B l dj ws ∧ c1.B l = none ∧ (F.on = true → l ≠ F.b ∧ l ≠ F.c) ∧ c0.H l = some ws := by
    intro j dj hj h o1
    obtain ⟨l, ws, q1, q2, q3, q4, q5⟩ := (R0.at_ j _ h).own o1
    have nm : ¬ MutA F { c0 with σ := L2.wipe c0.σ vs, s := c0.s.wipe vs } l := fun m => by
      rcases m with m | ⟨m1, m2⟩
      · exact notIn hj h o1 q1 m
      · exact (q5 m1).1 m2
    refine ⟨l, ws, q1, G.fr l _ q2 nm, q3.ext G.b, ?_, q5, q2⟩
    cases q : c1.B l with
    | none => rfl
    | some o =>
      rcases G.nb l (by show c1.B l ≠ none; rw [q]; exact fun x => nomatch x) q4 with z | z
      · have z' : c0.H l = none := z
        rw [q2] at z'; cases z'
      · exact absurd z (notIn hj h o1 q1)
  have ownC : ∀ {j : Nat} {dj : En} {l : Addr}, j ∉ vs → c1.s.r[j]? = some (some dj) → dj.isOwn = true → c0.σ[j]? = some (some (.ref l)) → Own { c1 with σ := L2.wipe c1.σ vs, s := c1.s.wipe vs } l := by
    intro j dj l n h1 o1 h2
    refine ⟨j, dj, (wipeS_out n).trans h1, o1, ?_⟩
    exact (wipe_out n).trans ((σo n).trans h2)
  refine ⟨⟨R1.le, ?_, ?_, ?_, R1.bag⟩, ⟨G.b, fun a o e n => G.fr a o e fun m => n ?_, fun a e n => ?_, ?_, G.dom⟩⟩
  · show c0.σ.length = (backS c0.s.r c1.s.r vs).length
    rw [backS_len, hl, R0.len]
  · intro j e h
    rcases cases1 h with ⟨hj, q⟩ | ⟨n, q⟩
    · cases e with
      | val d =>
        obtain ⟨v, y1, y2⟩ := R0.at_ j _ q
        exact ⟨v, y1, y2.ext G.b⟩
      | bag => exact R0.at_ j _ q
      | _ =>
        obtain ⟨l, ws, y1, y2, y3, y4, y5, _⟩ := kept hj q rfl
        exact ⟨l, ws, y1, y2, y3, y4, y5⟩
    · have y := R1.at_ j e q
      cases e with
      | val d => obtain ⟨v, y1, y2⟩ := y; exact ⟨v, (σo n).symm.trans y1, y2⟩
      | bag => exact ⟨y.1, (σo n).symm.trans y.2⟩
      | _ => obtain ⟨l, ws, y1, y2⟩ := y; exact ⟨l, ws, (σo n).symm.trans y1, y2⟩
  · intro i j di dj l h1 o1 h2 o2 h3 h4
    rcases cases1 h1 with ⟨i1, q1⟩ | ⟨i1, q1⟩ <;> rcases cases1 h2 with ⟨j1, q2⟩ | ⟨j1, q2⟩
    · exact R0.sep i j di dj l q1 o1 q2 o2 h3 h4
    · exfalso
      rcases G.ow l (ownC j1 q2 o2 h4) with z | z
      · exact notIn i1 q1 o1 h3 z
      · obtain ⟨l', ws, y1, _, _, _, _, y6⟩ := kept i1 q1 o1
        have h3' : c0.σ[i]? = some (some (V.ref l)) := h3
        rw [h3'] at y1
        cases y1
        have z' : c0.H l = none := z
        rw [y6] at z'; cases z'
    · exfalso
      rcases G.ow l (ownC i1 q1 o1 h3) with z | z
      · exact notIn j1 q2 o2 h4 z
      · obtain ⟨l', ws, y1, _, _, _, _, y6⟩ := kept j1 q2 o2
        have h4' : c0.σ[j]? = some (some (V.ref l)) := h4
        rw [h4'] at y1
        cases y1
        have z' : c0.H l = none := z
        rw [y6] at z'; cases z'
    · exact R1.sep i j di dj l q1 o1 q2 o2 ((σo i1).trans h3) ((σo j1).trans h4)
  · rcases m with ⟨j, dj, m1, m0, m2⟩ | m
    · obtain ⟨n1, q1⟩ := wipeS_get m1
      exact .inl ⟨j, dj, q1, m0, (wipe_out n1).symm.trans m2⟩
    · exact .inr m
  · rcases G.nb a e n with z | ⟨j, dj, m1, m0, m2⟩
    · exact .inl z
    · obtain ⟨n1, q1⟩ := wipeS_get m1
      exact .inr ⟨j, dj, q1, m0, (wipe_out n1).symm.trans m2⟩
  · rintro a ⟨j, dj, h1, h0, h2⟩
    rcases cases1 h1 with ⟨j1, q1⟩ | ⟨j1, q1⟩
    · exact .inl ⟨j, dj, q1, h0, h2⟩
    · rcases G.ow a (ownC j1 q1 h0 h2) with ⟨i, di, m1, m0, m2⟩ | z
      · obtain ⟨n1, q1⟩ := wipeS_get m1
        exact .inl ⟨i, di, q1, m0, (wipe_out n1).symm.trans m2⟩
      · exact .inr z
/-- a thing beside, left out -/
theorem Rep.del {c : Cf} {p : Addr} (R : Rep F c) (hB : c.B p = none) (hO : ¬ Own c p) (hb : F.on = true → p ≠ F.b ∧ p ≠ F.c) : Rep F { c with H := L2.del c.H p } := by
  refine ⟨?_, R.len, ?_, R.sep, ?_⟩
  · intro a o e
    show (L2.del c.H p) a = some o
    rw [del_ne (ne_of_none e hB)]
    exact R.le a o e
  · intro j e h
    have y := R.at_ j e h
    cases e with
    | val d => exact y
    | bag => exact y
    | _ =>
      obtain ⟨l, ws, y1, y2, y3⟩ := y
      refine ⟨l, ws, y1, ?_, y3⟩
      show (L2.del c.H p) l = some ws
      rw [del_ne (fun z => hO ⟨j, _, h, rfl, by rw [← z]; exact y1⟩)]
      exact y2
  · intro on
    obtain ⟨q1, q2, q3⟩ := R.bag on
    refine ⟨q1.at_ ?_ ?_, q2, q3⟩
    · exact del_ne (hb on).1.symm
    · exact del_ne (hb on).2.symm
theorem Rep.hext {c : Cf} (R : Rep F c) {H' : Hp} (x : Ext c.H H') : Rep F { c with H := H' } := by
  refine ⟨R.le.trans x, R.len, fun j e h => ?_, R.sep, fun on => ?_⟩
  · have y := R.at_ j e h
    cases e with
    | val d => exact y
    | bag => exact y
    | _ =>
      obtain ⟨l, ws, y1, y2, y3⟩ := y
      exact ⟨l, ws, y1, x _ _ y2, y3⟩
  · obtain ⟨q1, q2, q3⟩ := R.bag on
    exact ⟨q1.ext x, q2, q3⟩
theorem Go.hext {c c' : Cf} (g : Go F c c') {H' : Hp} (x : Ext c'.H H') : Go F c { c' with H := H' } := by
  refine ⟨g.b, fun a o e n => x _ _ (g.fr a o e n), g.nb, fun a m => g.ow a (m.ofEq rfl rfl), fun a e => ?_⟩
  have := g.dom a e
  cases q : c'.H a with
  | none => exact absurd q this
  | some o => show H' a ≠ none; rw [x _ _ q]; exact fun z => nomatch z
theorem Go.del {c c' : Cf} {p : Addr} (g : Go F c c') (h : ¬ MutA F c p) : Go F { c with H := L2.del c.H p } { c' with H := L2.del c'.H p } := by
  refine ⟨g.b, fun a o e n => ?_, fun a e n => ?_, fun a m => ?_, fun a e => ?_⟩
  · have e' : (L2.del c.H p) a = some o := e
    show (L2.del c'.H p) a = some o
    by_cases z : a = p
    · rw [z, del_same] at e'; cases e'
    · rw [del_ne z] at e' ⊢
      refine g.fr a o e' fun m => n ?_
      rcases m with m | m
      · exact .inl (m.ofEq rfl rfl)
      · exact .inr m
  · rcases g.nb a e n with z | z
    · left
      show (L2.del c.H p) a = none
      by_cases y : a = p
      · rw [y, del_same]
      · rw [del_ne y]; exact z
    · exact .inr (z.ofEq rfl rfl)
  · rcases g.ow a (m.ofEq rfl rfl) with z | z
    · exact .inl (z.ofEq rfl rfl)
    · right
      show (L2.del c.H p) a = none
      by_cases y : a = p
      · rw [y, del_same]
      · rw [del_ne y]; exact z
  · have e' : (L2.del c.H p) a ≠ none := e
    show (L2.del c'.H p) a ≠ none
    by_cases y : a = p
    · rw [y, del_same] at e'; exact absurd rfl e'
    · rw [del_ne y] at e' ⊢
      exact g.dom a e'
theorem backS_wipe (r0 r1 : List (Option En)) (vs : List Nat) (hl : r0.length = r1.length) : backS r0 (wipeS r1 vs) vs = backS r0 r1 vs := by
  apply List.ext_getElem?
  intro j
  by_cases c : j ∈ vs
  · rw [backS_in (by rw [wipeS_len]; exact hl) c, backS_in hl c]
  · rw [backS_out c, backS_out c, wipeS_out c]
theorem wipeS_wipe (r : List (Option En)) (vs : List Nat) : wipeS (wipeS r vs) vs = wipeS r vs := by
  have key : ∀ (l : List (Option En)) (v : Nat) (ws : List Nat), (∀ j, j ∈ ws → l[j]? = l[j]?.map fun _ => none) → wipeS l ws = l := by
    intro l v ws
    induction ws with
    | nil => intro _; rfl
    | cons w ws ih =>
      intro h
      rw [wipeS, ih fun j hj => h j (List.mem_cons_of_mem _ hj)]
      apply List.ext_getElem?
      intro j
      by_cases c : j = w
      · subst c
        have := h j List.mem_cons_self
        by_cases q : j < l.length
        · rw [List.getElem?_set_self q, this, List.getElem?_eq_getElem q]
          rfl
        · rw [List.getElem?_eq_none (by rw [List.length_set]; omega), List.getElem?_eq_none (by omega)]
      · rw [List.getElem?_set_ne (Ne.symm c)]
  refine key _ 0 vs fun j hj => ?_
  -- in the wiped list the place j holds none, if it is there
  by_cases q : j < r.length
  · have hin : ∀ {ws : List Nat}, j ∈ ws → (wipeS r ws)[j]? = some none := by
      intro ws
      induction ws with
      | nil => intro h; cases h
      | cons w ws ih =>
        intro h
        rw [wipeS]
        by_cases c : j = w
        · subst c
          exact List.getElem?_set_self (by rw [wipeS_len]; exact q)
        · rw [List.getElem?_set_ne (Ne.symm c)]
          rcases List.mem_cons.mp h with z | z
          · exact absurd z c
          · exact ih z
    rw [hin hj]
    rfl
  · rw [List.getElem?_eq_none (by rw [wipeS_len]; omega)]
    rfl
theorem wipeStt (s : Stt) (vs : List Nat) : (s.wipe vs).wipe vs = s.wipe vs := by
  unfold Stt.wipe
  simp only [wipeS_wipe]
theorem se_lc {wi : TI} {tg : TG} {is vs : List Nat} {f : D → Stt → Option Stt} {tt : TT} {te : TE} {gi : GI} {gc : GB} {ge : GX} (hi : SI K wi gi) (ht : ST K tg is f) (hc : SB K tt gc) (he : SE K te ge) (hsub : ∀ i ∈ is, i ∈ vs) :
    SE K (tLc wi tg tt te vs) (gLc gi f gc ge vs) := by
  intro F hK c Φ Q R p q
  refine hi.run hK rfl R p fun c1 J ds R1 G1 Wd p1 => ?_
  obtain ⟨hlen, p1⟩ := p1
  intro D hD
  obtain ⟨Y, hw, hY⟩ := Wd.ex
  obtain ⟨Rw, Gw⟩ := R1.wipe vs
  have hσ1 : c1.σ = c.σ := G1.σ
  rw [← hσ1]
  have hDB : c1.B D = none := R1.notB hD
  refine lc_it hw (fun i H => ∃ (B : Hp) (s : Stt) (acc : List V) (accD : List DL.D), H D = some (.lst acc) ∧ RpA F.K B acc accD ∧ acc.length ≤ i ∧ Rep F ⟨B, L2.del H D, L2.wipe c1.σ vs, s.wipe vs⟩ ∧ Go F ⟨c1.B, c1.H, L2.wipe c1.σ vs, c1.s.wipe vs⟩ ⟨B, L2.del H D, L2.wipe c1.σ vs, s.wipe vs⟩ ∧
    s.r.length = c1.s.r.length ∧ (∀ (j : Nat) (e : En), j ∉ vs → c1.s.r[j]? = some (some e) → ∃ e', s.r[j]? = some (some e')) ∧ loopC f gc ge vs (ds.drop i) accD s fun acc s2 => Φ (.new acc) (c1.s.back s2 vs)) ?_ ?_ ?_ ?_
  · refine ⟨c1.B, c1.s, [], [], upd_same, .nil, Nat.le_refl _, ?_, ?_, rfl, fun j e _ h => ⟨e, h⟩, p1⟩
    · rw [del_upd, del_none hD]; exact Rw
    · rw [del_upd, del_none hD]; exact Go.rfl'
  · rintro i H hi ⟨B, s, acc, accD, h1, h2, h3, R2, G2, _⟩
    exact (G2.b.trans R2.le).trans ext_del
  · rintro i x H H' hi ⟨B, s, acc, accD, h1, h2, h3, R2, G2, hl2, kp2, p2⟩ y
    have R3 : Rep F ⟨B, H, L2.wipe c1.σ vs, s.wipe vs⟩ := R2.hext ext_del
    obtain ⟨c4, d, eH4, es4, eσ4, R4, G4, hd, r⟩ := hY i x ⟨B, H, L2.wipe c1.σ vs, s.wipe vs⟩ H' R3 G2.b hi y
    have hdr : ds.drop i = d :: ds.drop (i + 1) := by
      rw [List.drop_eq_getElem_cons hi]
      have := List.getElem?_eq_getElem hi
      rw [hd] at this
      rw [← Option.some.inj this]
    rw [hdr] at p2
    obtain ⟨s1, e1, p3⟩ := p2
    have eσ4' : c4.σ = L2.wipe c1.σ vs := eσ4
    have notM : ¬ MutA F ⟨B, H, L2.wipe c1.σ vs, s.wipe vs⟩ D := fun m => by
      rcases m with m | ⟨m1, m2⟩
      · exact R2.notOwn (p := D) (show (L2.del H D) D = none from del_same) (m.ofEq rfl rfl)
      · exact (R2.notBag (p := D) (show (L2.del H D) D = none from del_same) m1).1 m2
    have hBD : B D = none := R2.notB (p := D) (show (L2.del H D) D = none from del_same)
    -- behind a turn
    have fin : ∀ c8 : Cf, Rep F c8 → Go F ⟨B, H, L2.wipe c1.σ vs, s.wipe vs⟩ c8 → L2.wipe c8.σ vs = L2.wipe c1.σ vs → c8.H D = some (.lst acc) ∧ Rep F ⟨c8.B, L2.del c8.H D, L2.wipe c1.σ vs, c8.s.wipe vs⟩ ∧ Go F ⟨c1.B, c1.H, L2.wipe c1.σ vs, c1.s.wipe vs⟩ ⟨c8.B, L2.del c8.H D, L2.wipe c1.σ vs, c8.s.wipe vs⟩ := by
      intro c8 R8 G8 eσ
      obtain ⟨Rv, Gv⟩ := R8.wipe vs
      rw [eσ] at Rv Gv
      have G9 := G8.trans Gv
      have h8 : c8.H D = some (.lst acc) := G8.fr D _ h1 notM
      have nO : ¬ Own ⟨c8.B, c8.H, L2.wipe c1.σ vs, c8.s.wipe vs⟩ D := fun m => by
        rcases G9.ow D m with z | z
        · exact notM (.inl z)
        · have z' : H D = none := z
          rw [h1] at z'; cases z'
      have nB : c8.B D = none := by
        cases qB : c8.B D with
        | none => rfl
        | some o =>
          rcases G8.nb D (by rw [qB]; exact fun z => nomatch z) hBD with z | z
          · have z' : H D = none := z
            rw [h1] at z'; cases z'
          · exact absurd (.inl z) notM
      exact ⟨h8, Rv.del nB nO fun on => R2.notBag (p := D) (show (L2.del H D) D = none from del_same) on, G2.trans (G9.del notM)⟩
    rw [← eH4, ← eσ4']
    refine ht.run F hK c4 x d s1 _ R4 r (by rw [es4]; exact e1) fun c5 R5 G5 es5 eH5 len5 out5 => ?_
    have w5 : L2.wipe c5.σ vs = L2.wipe c1.σ vs := by
      rw [wipe_same (σ := c4.σ) len5 fun j hj => out5 j fun z => hj (hsub j z), eσ4', wipe_wipe]
    have l5 : c5.σ.length = c1.s.r.length := by rw [len5, eσ4', wipe_length, R1.len]
    refine ⟨by rw [eσ4']; exact w5, ?_⟩
    have k1 := ht.keep _ _ _ e1
    have kp5 : ∀ (j : Nat) (e : En), j ∉ vs → c1.s.r[j]? = some (some e) → ∃ e', c5.s.r[j]? = some (some e') := by
      intro j e hj h
      obtain ⟨e', h'⟩ := kp2 j e hj h
      refine ⟨e', ?_⟩
      rw [es5, k1.2.2 j fun z => hj (hsub j z)]
      exact (wipeS_out hj).trans h'
    refine hc.run hK rfl R5 (by rw [es5]; exact p3) fun c6 b R6 G6 p6 => ?_
    have G46 := (G4.trans G5).trans G6.go
    cases b with
    | true =>
      refine he.run hK G6.σ R6 p6 fun c7 v w R7 G7 D7 p7 => ?_
      obtain ⟨e, s4, ef, p8⟩ := p7
      obtain ⟨c8, eH8, es8, eσ8, x8, R8, G8, r8⟩ := frz_ok R7 G7 D7 ef
      have w8 : L2.wipe c8.σ vs = L2.wipe c1.σ vs := by rw [G8.σ, G6.σ]; exact w5
      obtain ⟨f1, f2, f3⟩ := fin c8 R8 (G46.trans G8.go) w8
      rw [eH8] at f1 f2 f3
      rw [← eσ4'] at f2 f3
      refine ⟨acc, f1, by rw [sizeLine_eq]; omega, c8.B, c8.s, acc ++ [v], accD ++ [e], upd_same, (h2.ext (G46.b.trans G8.go.b)).snoc r8, by rw [List.length_append]; exact Nat.succ_le_succ h3, ?_, ?_, ?_, ?_, by rw [es8]; exact p8⟩
      · rw [del_upd]; exact f2
      · rw [del_upd]; exact f3
      · rw [← R8.len, G8.σ, G6.σ, l5]
      · intro j e hj h
        obtain ⟨e1, q1⟩ := kp5 j e hj h
        obtain ⟨e2, q2⟩ := G6.kp j e1 q1
        exact G8.kp j e2 q2
    | false =>
      have w6 : L2.wipe c6.σ vs = L2.wipe c1.σ vs := by rw [G6.σ]; exact w5
      obtain ⟨f1, f2, f3⟩ := fin c6 R6 G46 w6
      rw [← eσ4'] at f2 f3
      refine ⟨c6.B, c6.s, acc, accD, f1, h2.ext G46.b, by omega, f2, f3, by rw [← R6.len, G6.σ, l5], fun j e hj h => ?_, p6⟩
      obtain ⟨e1, q1⟩ := kp5 j e hj h
      exact G6.kp j e1 q1
  · rintro H ⟨B, s, acc, accD, h1, h2, h3, R2, G2, hl2, kp2, p2⟩
    rw [List.drop_length] at p2
    have wl : (s.wipe vs).r.length = c1.s.r.length := (wipeS_len s.r vs).trans hl2
    obtain ⟨R3, G3⟩ := R1.back (c1 := ⟨B, L2.del H D, L2.wipe c1.σ vs, s.wipe vs⟩) (vs := vs) wipe_wipe R2 (by
      show Go F _ ⟨B, L2.del H D, L2.wipe (L2.wipe c1.σ vs) vs, (s.wipe vs).wipe vs⟩
      rw [wipe_wipe, wipeStt]
      exact G2) wl
    have eb : c1.s.back (s.wipe vs) vs = c1.s.back s vs := by
      unfold Stt.back Stt.wipe
      simp only
      rw [backS_wipe _ _ _ hl2.symm]
    have R4 := R3.hext (H' := H) ext_del
    have G4 := G3.hext (H' := H) ext_del
    have hn : (L2.del H D) D = none := del_same
    refine q ⟨B, H, c1.σ, c1.s.back (s.wipe vs) vs⟩ (.ref D) (.new accD) R4 ⟨G1.go.trans G4, hσ1, fun j e h => ?_⟩ ⟨D, acc, rfl, h1, h2, R2.notB hn, fun m => R3.notOwn (p := D) hn (m.ofEq rfl rfl), R2.notBag hn, G1.go.hnone hD⟩ (by show Φ _ (c1.s.back (s.wipe vs) vs); rw [eb]; exact p2)
    obtain ⟨e1, q1⟩ := G1.kp j e h
    show ∃ e', (backS c1.s.r (s.wipe vs).r vs)[j]? = some (some e')
    by_cases z : j ∈ vs
    · rw [backS_in wl.symm z]; exact ⟨e1, q1⟩
    · rw [backS_out z]
      obtain ⟨e', q2⟩ := kp2 j e1 z q1
      exact ⟨e', (wipeS_out z).trans q2⟩
end
end DL
set_option maxHeartbeats 2000000
/-! Operations and built-ins over data. -/
namespace DL
open PySem PySem.Spec PyProof.Rows L2 Ax
section
variable {K : Bd}
def okD (d : D) : Bool := pureD d && SeqAt.shaped (toP d)
theorem okD_pure {d : D} (h : okD d = true) : pureD d = true := (Bool.and_eq_true_iff.mp h).1
theorem okD_shaped {d : D} (h : okD d = true) : SeqAt.shaped (toP d) = true := (Bool.and_eq_true_iff.mp h).2
/-! ### whole numbers -/
def fI (g : Int → Int → Int) : D → D → Option W
  | .int i, .int j => some (.dat (.int (g i j)))
  | _, _ => none
def fB (g : Int → Int → Bool) : D → D → Option W
  | .int i, .int j => some (.dat (.bl (g i j)))
  | _, _ => none
def fIc (C : Int → Int → Prop) [∀ i j, Decidable (C i j)] (g : Int → Int → Int) : D → D → Option W
  | .int i, .int j => if C i j then some (.dat (.int (g i j))) else none
  | _, _ => none
theorem os_I (g : Int → Int → Int) : OpS K (rI0 fun i j => .int (g i j)) (fI g) := by
  intro F hK c x y d e w Q R hx hy hf q
  cases d with
  | int i => cases e with
    | int j =>
      cases Option.some.inj hf
      exact ⟨i, j, hx.int, hy.int, q c _ R GoE.rfl' rfl (Rp.int _)⟩
    | _ => cases hf
  | _ => cases hf
theorem os_B (g : Int → Int → Bool) : OpS K (rI0 fun i j => .bl (g i j)) (fB g) := by
  intro F hK c x y d e w Q R hx hy hf q
  cases d with
  | int i => cases e with
    | int j =>
      cases Option.some.inj hf
      exact ⟨i, j, hx.int, hy.int, q c _ R GoE.rfl' rfl (Rp.bl _)⟩
    | _ => cases hf
  | _ => cases hf
theorem os_Ic (C : Int → Int → Prop) [∀ i j, Decidable (C i j)] (g : Int → Int → Int) : OpS K (rI C fun i j => .int (g i j)) (fIc C g) := by
  intro F hK c x y d e w Q R hx hy hf q
  cases d with
  | int i => cases e with
    | int j =>
      simp only [fIc] at hf
      split at hf
      · rename_i hc
        cases Option.some.inj hf
        exact ⟨i, j, hx.int, hy.int, hc, q c _ R GoE.rfl' rfl (Rp.int _)⟩
      · cases hf
    | _ => cases hf
  | _ => cases hf
instance (i j : Int) : Decidable (CMul i j) := by unfold CMul; infer_instance
instance (i j : Int) : Decidable (CDiv i j) := by unfold CDiv; infer_instance
instance (i j : Int) : Decidable (CDivN i j) := by unfold CDivN; infer_instance
instance (i j : Int) : Decidable (CPow i j) := by unfold CPow; infer_instance
/-! ### == != in, not in, of data -/
def eqD (d e : D) : Bool := PyData.eqv (toP d) (toP e)
def fEq : D → D → Option W := fun d e => if okD d = true ∧ okD e = true then some (.dat (.bl (eqD d e))) else none
def fNe : D → D → Option W := fun d e => if okD d = true ∧ okD e = true then some (.dat (.bl (!eqD d e))) else none
theorem os_eq : OpS K (rEqD K) fEq := by
  intro F hK c x y d e w Q R hx hy hf q
  simp only [fEq] at hf
  split at hf
  · rename_i h
    cases Option.some.inj hf
    subst hK
    exact ⟨toP d, toP e, (hx.rp R).dp (okD_pure h.1), (hy.rp R).dp (okD_pure h.2), okD_shaped h.1, okD_shaped h.2, q c _ R GoE.rfl' rfl (Rp.bl _)⟩
  · cases hf
theorem os_ne : OpS K (rNeD K) fNe := by
  intro F hK c x y d e w Q R hx hy hf q
  simp only [fNe] at hf
  split at hf
  · rename_i h
    cases Option.some.inj hf
    subst hK
    exact ⟨toP d, toP e, (hx.rp R).dp (okD_pure h.1), (hy.rp R).dp (okD_pure h.2), okD_shaped h.1, okD_shaped h.2, q c _ R GoE.rfl' rfl (Rp.bl _)⟩
  · cases hf
def inD (d : D) (es : List D) : Bool := es.any fun z => eqD z d
theorem inD_toPs (d : D) (es : List D) : ((toPs es).any fun z => PyData.eqv z (toP d)) = inD d es := by
  rw [toPs_map, List.any_map]; rfl
def fIn : D → D → Option W
  | d, .lst es => if okD d = true ∧ okD (.lst es) = true then some (.dat (.bl (inD d es))) else none
  | _, _ => none
def fNotIn : D → D → Option W
  | d, .lst es => if okD d = true ∧ okD (.lst es) = true then some (.dat (.bl (!inD d es))) else none
  | _, _ => none
theorem os_in : OpS K (rInD K) fIn := by
  intro F hK c x y d e w Q R hx hy hf q
  cases e with
  | lst es =>
    simp only [fIn] at hf
    split at hf
    · rename_i h
      cases Option.some.inj hf
      subst hK
      have hy' := (hy.rp R).dp (okD_pure h.2)
      have s2 := okD_shaped h.2
      simp only [toP] at hy' s2
      refine ⟨toP d, toPs es, (hx.rp R).dp (okD_pure h.1), hy', okD_shaped h.1, s2, ?_⟩
      rw [inD_toPs]
      exact q c _ R GoE.rfl' rfl (Rp.bl _)
    · cases hf
  | _ => cases hf
theorem os_notIn : OpS K (rNotInD K) fNotIn := by
  intro F hK c x y d e w Q R hx hy hf q
  cases e with
  | lst es =>
    simp only [fNotIn] at hf
    split at hf
    · rename_i h
      cases Option.some.inj hf
      subst hK
      have hy' := (hy.rp R).dp (okD_pure h.2)
      have s2 := okD_shaped h.2
      simp only [toP] at hy' s2
      refine ⟨toP d, toPs es, (hx.rp R).dp (okD_pure h.1), hy', okD_shaped h.1, s2, ?_⟩
      rw [inD_toPs]
      exact q c _ R GoE.rfl' rfl (Rp.bl _)
    · cases hf
  | _ => cases hf
/-! ### lists and tuples put together -/
def fCat : D → D → Option W
  | .lst ds, .lst es => if ds.length + es.length ≤ 1000000 then some (.new (ds ++ es)) else none
  | _, _ => none
theorem line_m {n : Nat} (h : n ≤ 1000000) : n ≤ sizeLine := by rw [sizeLine_eq]; omega
theorem Den.newL {F : Fx} {c : Cf} (R : Rep F c) {p : Addr} {vs : List V} {ds : List D} (hp : c.H p = none) (hv : RpA F.K c.B vs ds) {Q : VK} (q : ∀ c' v, Rep F c' → GoE F c c' → c'.s = c.s → Den F c.H c' v (.new ds) → Q v c'.H) : Q (.ref p) (upd c.H p (.lst vs)) := by
  obtain ⟨c', e1, e2, _, R', G, D⟩ := R.newL hp hv
  rw [← e1]
  exact q c' _ R' G e2 D
theorem Den.newT {F : Fx} {c : Cf} (R : Rep F c) {p : Addr} {vs : List V} {ds : List D} (hp : c.H p = none) (hv : RpA F.K c.B vs ds) {Q : VK} (q : ∀ c' v, Rep F c' → GoE F c c' → c'.s = c.s → Den F c.H c' v (.dat (.tup ds)) → Q v c'.H) : Q (.ref p) (upd c.H p (.tup vs)) := by
  obtain ⟨c', e1, e2, R', G, D⟩ := R.newT hp hv
  rw [← e1]
  exact q c' _ R' G e2 D
theorem os_cat : OpS K rCat fCat := by
  intro F hK c x y d e w Q R hx hy hf q
  cases d with
  | lst ds => cases e with
    | lst es =>
      simp only [fCat] at hf
      split at hf
      · rename_i h
        cases Option.some.inj hf
        obtain ⟨a, vs, rfl, h1, h2⟩ := hx.lst R
        obtain ⟨b, us, rfl, h3, h4⟩ := hy.lst R
        exact ⟨a, b, vs, us, rfl, rfl, h1, h3, line_m (by rw [h2.len, h4.len]; exact h), fun p hp => Den.newL R hp (h2.app h4) q⟩
      · cases hf
    | _ => cases hf
  | _ => cases hf
def fCatT : D → D → Option W
  | .tup ds, .tup es => if ds.length + es.length ≤ 1000000 then some (.dat (.tup (ds ++ es))) else none
  | _, _ => none
theorem Rq.tupB {F : Fx} {c : Cf} {v : V} {ds : List D} (h : Rq F c v (.tup ds)) : Rp F.K c.B v (.tup ds) := by
  rcases h with h | ⟨l, vs, ds', rfl, e, h1, h2⟩
  · exact h
  · cases e
theorem os_catT : OpS K (rCatA K) fCatT := by
  intro F hK c x y d e w Q R hx hy hf q
  cases d with
  | tup ds => cases e with
    | tup es =>
      simp only [fCatT] at hf
      split at hf
      · rename_i h
        cases Option.some.inj hf
        subst hK
        obtain ⟨a, vs, rfl, h1, h2⟩ := hx.tup R
        obtain ⟨b, us, rfl, h3, h4⟩ := hy.tup R
        refine ⟨a, b, vs, us, rfl, rfl, h1, h3, line_m (by rw [h2.len, h4.len]; exact h), fun z => ?_, fun _ z => ?_, fun _ _ p hp => Den.newT R hp (h2.app h4) q⟩
        · subst z
          cases h2
          exact q c _ R GoE.rfl' rfl hy.tupB
        · subst z
          cases h4
          refine q c _ R GoE.rfl' rfl ?_
          rw [List.append_nil]
          exact hx.tupB
      · cases hf
    | _ => cases hf
  | _ => cases hf
/-- either of two -/
theorem OpR.or {X : Cx} {f : Value → Value → Sem Value} {r r' : R2} (h : OpR X f r) (h' : OpR X f r') : OpR X f (fun x y H Q => r x y H Q ∨ r' x y H Q) := by
  intro pins s σ H x y v u Q I rx ry q
  rcases q with q | q
  · exact h pins s σ H x y v u Q I rx ry q
  · exact h' pins s σ H x y v u Q I rx ry q
def orF (f g : D → D → Option W) : D → D → Option W := fun d e => match f d e with
  | some w => some w
  | none => g d e
theorem OpS.or {r r' : R2} {f g : D → D → Option W} (h : OpS K r f) (h' : OpS K r' g) : OpS K (fun x y H Q => r x y H Q ∨ r' x y H Q) (orF f g) := by
  intro F hK c x y d e w Q R hx hy hf q
  unfold orF at hf
  split at hf
  · rename_i w' e'
    cases Option.some.inj hf
    exact .inl (h F hK c x y d e _ Q R hx hy e' q)
  · exact .inr (h' F hK c x y d e w Q R hx hy hf q)
/-! ### a place of a sequence, a slice -/
def wat (ds : List D) (i : Int) : Option W := (atI ds i).map W.dat
def fIx : D → D → Option W
  | .lst ds, .int i => wat ds i
  | .tup ds, .int i => wat ds i
  | .str z, .int i => if z.length ≤ 1000000 then (atI z.cps.toList i).map fun c => W.dat (.str ⟨#[c]⟩) else none
  | _, _ => none
theorem atI_rel {F : Fx} {B : Hp} {vs : List V} {ds : List D} (r : RpA F.K B vs ds) {i : Int} {d : D} (h : atI ds i = some d) : ∃ v, atI vs i = some v ∧ Rp F.K B v d := by
  unfold atI at h ⊢
  rw [r.len]
  cases q : ixN ds.length i with
  | none => rw [q] at h; cases h
  | some j =>
    rw [q] at h
    exact r.getD h
theorem os_ix : OpS K (rIx K) fIx := by
  intro F hK c x y d e w Q R hx hy hf q
  subst hK
  cases e with
  | int i =>
    have hy' := hy.int
    subst hy'
    cases d with
    | lst ds =>
      obtain ⟨a, vs, rfl, h1, h2⟩ := hx.lst R
      simp only [fIx, wat] at hf
      obtain ⟨z, e1, e2⟩ := Option.map_eq_some_iff.mp hf
      subst e2
      obtain ⟨v, e3, r⟩ := atI_rel h2 e1
      exact .inl ⟨a, vs, i, v, rfl, rfl, SqL.of h1, e3, q c _ R GoE.rfl' rfl r⟩
    | tup ds =>
      obtain ⟨a, vs, rfl, h1, h2⟩ := hx.tup R
      simp only [fIx, wat] at hf
      obtain ⟨z, e1, e2⟩ := Option.map_eq_some_iff.mp hf
      subst e2
      obtain ⟨v, e3, r⟩ := atI_rel h2 e1
      exact .inr (.inl ⟨a, vs, i, v, rfl, rfl, h1, e3, q c _ R GoE.rfl' rfl r⟩)
    | str z =>
      have hx' := hx.str
      subst hx'
      simp only [fIx] at hf
      split at hf
      · rename_i hz
        obtain ⟨u, e1, e2⟩ := Option.map_eq_some_iff.mp hf
        subst e2
        exact .inr (.inr ⟨z, i, u, rfl, rfl, line_m hz, e1, q c _ R GoE.rfl' rfl (Rp.str _)⟩)
      · cases hf
    | _ => cases hf
  | _ => cases d <;> cases hf
/-- a slice's ends -/
def SO (K : Bd) (t : TO) (g : Stt → (Option Int → Stt → Prop) → Prop) : Prop := ∀ F : Fx, F.bd = K → ∀ (c : Cf) (Φ : Option Int → Stt → Prop) (Q : Option Int → Hp → Prop), Rep F c → g c.s Φ → (∀ c' b, Rep F c' → GoE F c c' → Φ b c'.s → Q b c'.H) → t c.σ c.H Q
theorem SO.run {t : TO} {g : Stt → (Option Int → Stt → Prop) → Prop} (h : SO K t g) {F : Fx} (hK : F.bd = K) {c : Cf} {σ : L2.St} (e : c.σ = σ) {Φ : Option Int → Stt → Prop} {Q : Option Int → Hp → Prop} (R : Rep F c) (p : g c.s Φ) (q : ∀ c' b, Rep F c' → GoE F c c' → Φ b c'.s → Q b c'.H) : t σ c.H Q := by
  subst e
  exact h F hK c Φ Q R p q
def goNone : Stt → (Option Int → Stt → Prop) → Prop := fun s Φ => Φ none s
def goSome (g : GX) : Stt → (Option Int → Stt → Prop) → Prop := fun s Φ => g s fun w s1 => ∃ i, rd w s1 = some (.int i) ∧ Φ (some i) s1
def cutD (ds : List D) (lo hi : Option Int) : List D := (ds.drop (HT.sIx ds.length 0 lo)).take (HT.sIx ds.length ds.length hi - HT.sIx ds.length 0 lo)
theorem cut_rel {F : Fx} {B : Hp} {vs : List V} {ds : List D} (r : RpA F.K B vs ds) (lo hi : Option Int) : RpA F.K B (cutV vs lo hi) (cutD ds lo hi) := by
  unfold cutV cutD
  rw [r.len]
  exact (r.drop _).take _
def fSl : D → Option Int → Option Int → Option W
  | .lst ds, lo, hi => some (.new (cutD ds lo hi))
  | .tup ds, lo, hi => some (.dat (.tup (cutD ds lo hi)))
  | _, _, _ => none
def rSlB (K : PySem.W.Frag) : V → Option Int → Option Int → Hp → VK → Prop := fun x lo hi H Q => rSlL K x lo hi H Q ∨ rSlA K x lo hi H Q
theorem sl_both {X : Cx} : SlR X (rSlB X.K) := SlR.or sl_list sl_tupA
def gSl (g : GX) (gl gh : Stt → (Option Int → Stt → Prop) → Prop) : GX := fun s Φ => g s fun w s1 => gl s1 fun l s2 => gh s2 fun h s3 => ∃ d w', rd w s3 = some d ∧ fSl d l h = some w' ∧ Φ w' s3
theorem so_none : SO K tNoPart goNone := by
  intro F hK c Φ Q R p q
  exact q c none R GoE.rfl' p
theorem so_some {t : TE} {g : GX} (h : SE K t g) : SO K (tPart t) (goSome g) := by
  intro F hK c Φ Q R p q
  refine h F hK c _ _ R p fun c1 v w R1 G1 D1 p1 => ?_
  obtain ⟨i, e, p2⟩ := p1
  exact ⟨i, (rd_ok R1 D1 e).int, q c1 _ R1 G1 p2⟩
theorem se_sl {te : TE} {tl th : TO} {g : GX} {gl gh : Stt → (Option Int → Stt → Prop) → Prop} (h : SE K te g) (hl : SO K tl gl) (hh : SO K th gh) : SE K (tSl (rSlB K) te tl th) (gSl g gl gh) := by
  intro F hK c Φ Q R p q
  refine h F hK c _ _ R p fun c1 v w R1 G1 D1 p1 => ?_
  refine hl.run hK G1.σ R1 p1 fun c2 l R2 G2 p2 => ?_
  refine hh.run hK (G2.σ.trans G1.σ) R2 p2 fun c3 u R3 G3 p3 => ?_
  obtain ⟨d, w', e1, e2, p4⟩ := p3
  have r := rd_ok R3 ((D1.keep G2).keep G3) e1
  have G := (G1.trans G2).trans G3
  subst hK
  cases d with
  | lst ds =>
    cases Option.some.inj e2
    obtain ⟨a, vs, rfl, h1, h2⟩ := r.lst R3
    refine .inl ⟨a, vs, rfl, SqL.of h1, fun p hp => Den.newL R3 hp (cut_rel h2 l u) fun c' v R' G' es D' => q c' v _ R' (G.trans G') (D'.back G.go) (by rw [es]; exact p4)⟩
  | tup ds =>
    cases Option.some.inj e2
    obtain ⟨a, vs, rfl, h1, h2⟩ := r.tup R3
    refine .inr ⟨a, vs, rfl, h1, fun z => ?_, fun z p hp => Den.newT R3 hp (cut_rel h2 l u) fun c' v R' G' es D' => q c' v (.dat (.tup (cutD ds l u))) R' (G.trans G') D' (by rw [es]; exact p4)⟩
    refine q c3 _ (.dat (.tup (cutD ds l u))) R3 G ?_ p4
    have e : cutD ds l u = ds := by
      unfold cutD
      rw [← h2.len, z.1, z.2, List.drop_zero, Nat.sub_zero, h2.len, List.take_length]
    rw [e]
    exact r.tupB
  | _ => cases e2
/-! ### built-ins -/
def fLen : List D → Option W
  | [.lst ds] => some (.dat (.int (ds.length : Nat)))
  | [.tup ds] => some (.dat (.int (ds.length : Nat)))
  | [.str z] => if z.length ≤ 1000000 then some (.dat (.int (z.length : Nat))) else none
  | _ => none
def rLenA (K : PySem.W.Frag) : List V → Hp → VK → Prop := fun xs H Q => ∃ x n, xs = [x] ∧ LenV K x H n ∧ Q (.int n) H
theorem cs_len : ClS K (rLenA K) fLen := by
  intro F hK c xs ds w Q R hx hf q
  subst hK
  cases hx with
  | nil => cases hf
  | @cons x d xs ds h t =>
    cases t with
    | cons _ _ => cases d <;> cases hf
    | nil =>
      cases d with
      | lst ds =>
        cases Option.some.inj hf
        obtain ⟨a, vs, rfl, h1, h2⟩ := h.lst R
        exact ⟨.ref a, _, rfl, .inl ⟨vs, SqL.of h1, h2.len.symm⟩, q c _ R GoE.rfl' rfl (Rp.int _)⟩
      | tup ds =>
        cases Option.some.inj hf
        obtain ⟨a, vs, rfl, h1, h2⟩ := h.tup R
        exact ⟨.ref a, _, rfl, .inr ⟨vs, h1, h2.len.symm⟩, q c _ R GoE.rfl' rfl (Rp.int _)⟩
      | str z =>
        simp only [fLen] at hf
        split at hf
        · rename_i hz
          cases Option.some.inj hf
          have e := h.str
          subst e
          exact ⟨.str z, _, rfl, ⟨line_m hz, rfl⟩, q c _ R GoE.rfl' rfl (Rp.int _)⟩
        · cases hf
      | _ => cases hf
def fInt : List D → Option W
  | [.int i] => some (.dat (.int i))
  | [.bl k] => some (.dat (.int (if k then 1 else 0)))
  | _ => none
def rInt1 : List V → Hp → VK → Prop := fun xs H Q => (∃ i, xs = [.int i] ∧ Q (.int i) H) ∨ ∃ k, xs = [.bl k] ∧ Q (.int (if k then 1 else 0)) H
theorem cs_int : ClS K rInt1 fInt := by
  intro F hK c xs ds w Q R hx hf q
  cases hx with
  | nil => cases hf
  | @cons x d xs ds h t =>
    cases t with
    | cons _ _ => cases d <;> cases hf
    | nil =>
      cases d with
      | int i =>
        cases Option.some.inj hf
        have e := h.int
        subst e
        exact .inl ⟨i, rfl, q c _ R GoE.rfl' rfl (Rp.int _)⟩
      | bl i =>
        cases Option.some.inj hf
        have e := h.bl
        subst e
        exact .inr ⟨i, rfl, q c _ R GoE.rfl' rfl (Rp.int _)⟩
      | _ => cases hf
def fAbs : List D → Option W
  | [.int i] => some (.dat (.int (if i < 0 then -i else i)))
  | _ => none
def rAbs : List V → Hp → VK → Prop := fun xs H Q => ∃ i, xs = [.int i] ∧ Q (.int (if i < 0 then -i else i)) H
theorem cs_abs : ClS K rAbs fAbs := by
  intro F hK c xs ds w Q R hx hf q
  cases hx with
  | nil => cases hf
  | @cons x d xs ds h t =>
    cases t with
    | cons _ _ => cases d <;> cases hf
    | nil =>
      cases d with
      | int i =>
        cases Option.some.inj hf
        have e := h.int
        subst e
        exact ⟨i, rfl, q c _ R GoE.rfl' rfl (Rp.int _)⟩
      | _ => cases hf
def allI : List D → Option (List Int)
  | [] => some []
  | .int i :: ds => match allI ds with
    | some ns => some (i :: ns)
    | none => none
  | _ => none
theorem allI_map (ns : List Int) : allI (ns.map D.int) = some ns := by
  induction ns with
  | nil => rfl
  | cons n ns ih => simp [allI, ih]
theorem allI_vs {B : Hp} : ∀ {vs : List V} {ds : List D} {ns : List Int}, RpA K B vs ds → allI ds = some ns → vs = ns.map V.int
  | _, _, ns, .nil, e => by cases Option.some.inj e; rfl
  | _, _, ns, .cons (d := d) (ds := ds) h t, e => by
    cases d with
    | int i =>
      simp only [allI] at e
      split at e
      · rename_i ms e1
        cases Option.some.inj e
        cases h
        rw [allI_vs t e1]
        rfl
      · cases e
    | _ => cases e
def allB : List D → Option (List Bool)
  | [] => some []
  | .bl i :: ds => match allB ds with
    | some ns => some (i :: ns)
    | none => none
  | _ => none
theorem allB_map (ns : List Bool) : allB (ns.map D.bl) = some ns := by
  induction ns with
  | nil => rfl
  | cons n ns ih => simp [allB, ih]
theorem allB_vs {B : Hp} : ∀ {vs : List V} {ds : List D} {ns : List Bool}, RpA K B vs ds → allB ds = some ns → vs = ns.map V.bl
  | _, _, ns, .nil, e => by cases Option.some.inj e; rfl
  | _, _, ns, .cons (d := d) (ds := ds) h t, e => by
    cases d with
    | bl i =>
      simp only [allB] at e
      split at e
      · rename_i ms e1
        cases Option.some.inj e
        cases h
        rw [allB_vs t e1]
        rfl
      · cases e
    | _ => cases e
def fSum : List D → Option W
  | [.lst ds] => (allI ds).map fun ns => .dat (.int ns.sum)
  | _ => none
theorem cs_sum : ClS K (rSum K) fSum := by
  intro F hK c xs ds w Q R hx hf q
  subst hK
  cases hx with
  | nil => cases hf
  | @cons x d xs ds h t =>
    cases t with
    | cons _ _ => cases d <;> cases hf
    | nil =>
      cases d with
      | lst ds =>
        obtain ⟨ns, e1, e2⟩ := Option.map_eq_some_iff.mp hf
        subst e2
        obtain ⟨a, vs, rfl, h1, h2⟩ := h.lst R
        refine ⟨a, ns, rfl, ?_, q c _ R GoE.rfl' rfl (Rp.int _)⟩
        rw [← allI_vs h2 e1]
        exact SqL.of h1
      | _ => cases hf
def fAll : List D → Option W
  | [.lst ds] => (allB ds).map fun ns => .dat (.bl (ns.all id))
  | _ => none
def fAny : List D → Option W
  | [.lst ds] => (allB ds).map fun ns => .dat (.bl (ns.any id))
  | _ => none
theorem cs_all : ClS K (rAll K) fAll := by
  intro F hK c xs ds w Q R hx hf q
  subst hK
  cases hx with
  | nil => cases hf
  | @cons x d xs ds h t =>
    cases t with
    | cons _ _ => cases d <;> cases hf
    | nil =>
      cases d with
      | lst ds =>
        obtain ⟨ns, e1, e2⟩ := Option.map_eq_some_iff.mp hf
        subst e2
        obtain ⟨a, vs, rfl, h1, h2⟩ := h.lst R
        refine ⟨a, ns, rfl, ?_, q c _ R GoE.rfl' rfl (Rp.bl _)⟩
        rw [← allB_vs h2 e1]
        exact SqL.of h1
      | _ => cases hf
theorem cs_any : ClS K (rAny K) fAny := by
  intro F hK c xs ds w Q R hx hf q
  subst hK
  cases hx with
  | nil => cases hf
  | @cons x d xs ds h t =>
    cases t with
    | cons _ _ => cases d <;> cases hf
    | nil =>
      cases d with
      | lst ds =>
        obtain ⟨ns, e1, e2⟩ := Option.map_eq_some_iff.mp hf
        subst e2
        obtain ⟨a, vs, rfl, h1, h2⟩ := h.lst R
        refine ⟨a, ns, rfl, ?_, q c _ R GoE.rfl' rfl (Rp.bl _)⟩
        rw [← allB_vs h2 e1]
        exact SqL.of h1
      | _ => cases hf
def fTuple : List D → Option W
  | [.lst ds] => some (.dat (.tup ds))
  | [.tup ds] => some (.dat (.tup ds))
  | _ => none
def rTupOf (K : PySem.W.Frag) : List V → Hp → VK → Prop := fun xs H Q => ∃ p ys, xs = [.ref p] ∧ ((SqL K H p ys ∧ ∀ l, H l = none → Q (.ref l) (upd H l (.tup ys))) ∨ (SqT K H p ys ∧ Q (.ref p) H))
theorem cs_tuple : ClS K (rTupOf K) fTuple := by
  intro F hK c xs ds w Q R hx hf q
  subst hK
  cases hx with
  | nil => cases hf
  | @cons x d xs ds h t =>
    cases t with
    | cons _ _ => cases d <;> cases hf
    | nil =>
      cases d with
      | lst ds =>
        cases Option.some.inj hf
        obtain ⟨a, vs, rfl, h1, h2⟩ := h.lst R
        exact ⟨a, vs, rfl, .inl ⟨SqL.of h1, fun l hl => Den.newT R hl h2 q⟩⟩
      | tup ds =>
        cases Option.some.inj hf
        have r := h.tupB
        obtain ⟨a, vs, rfl, h1, h2⟩ := h.tup R
        exact ⟨a, vs, rfl, .inr ⟨h1, q c _ R GoE.rfl' rfl r⟩⟩
      | _ => cases hf
def fList : List D → Option W
  | [.lst ds] => some (.new ds)
  | [.tup ds] => some (.new ds)
  | _ => none
def rListOf (K : PySem.W.Frag) : List V → Hp → VK → Prop := fun xs H Q => ∃ p ys, xs = [.ref p] ∧ (SqL K H p ys ∨ SqT K H p ys) ∧ ∀ l, H l = none → Q (.ref l) (upd H l (.lst ys))
theorem cs_list : ClS K (rListOf K) fList := by
  intro F hK c xs ds w Q R hx hf q
  subst hK
  cases hx with
  | nil => cases hf
  | @cons x d xs ds h t =>
    cases t with
    | cons _ _ => cases d <;> cases hf
    | nil =>
      cases d with
      | lst ds =>
        cases Option.some.inj hf
        obtain ⟨a, vs, rfl, h1, h2⟩ := h.lst R
        exact ⟨a, vs, rfl, .inl (SqL.of h1), fun l hl => Den.newL R hl h2 q⟩
      | tup ds =>
        cases Option.some.inj hf
        obtain ⟨a, vs, rfl, h1, h2⟩ := h.tup R
        exact ⟨a, vs, rfl, .inr h1, fun l hl => Den.newL R hl h2 q⟩
      | _ => cases hf
/-! ### sorted -/
def okS (ds : List D) : Prop := (∀ d ∈ ds, pureD d = true ∧ (toP d).depth ≤ 8) ∧ PySem.W.AllAlike (ds.map toP) ∧ PySem.W.Sortable (ds.map toP)
def leD (d e : D) : Bool := PySem.W.dataLe false toP d e
def sortD (ds : List D) : List D := ds.mergeSort leD
def rpP (K : PySem.W.Frag) (B : Hp) (p : V × D) : Prop := Rp K B p.1 p.2
theorem RpA.zip {B : Hp} : ∀ {vs : List V} {ds : List D}, RpA K B vs ds → ∀ p ∈ vs.zip ds, Rp K B p.1 p.2
  | _, _, .nil, p, h => by cases h
  | _, _, .cons h t, p, hp => by
    rcases List.mem_cons.mp hp with z | z
    · rw [z]; exact h
    · exact RpA.zip t p z
theorem RpA.ofZip {B : Hp} : ∀ {L : List (V × D)}, (∀ p ∈ L, Rp K B p.1 p.2) → RpA K B (L.map (·.1)) (L.map (·.2))
  | [], _ => .nil
  | p :: L, h => .cons (h p List.mem_cons_self) (RpA.ofZip fun q hq => h q (List.mem_cons_of_mem _ hq))
theorem zip_fst {B : Hp} {vs : List V} {ds : List D} (r : RpA K B vs ds) : (vs.zip ds).map (·.1) = vs := List.map_fst_zip (by rw [r.len]; exact Nat.le_refl _)
theorem zip_snd {B : Hp} {vs : List V} {ds : List D} (r : RpA K B vs ds) : (vs.zip ds).map (·.2) = ds := List.map_snd_zip (by rw [r.len]; exact Nat.le_refl _)
/-- sorted(xs): the values go along -/
theorem sort_rel {B : Hp} {vs : List V} {ds : List D} (r : RpA K B vs ds) : RpA K B ((srtD ((vs.zip ds).map fun p => (p.1, toP p.2))).map (·.1)) (sortD ds) := by
  have e1 : srtD ((vs.zip ds).map fun p => (p.1, toP p.2)) = ((vs.zip ds).mergeSort fun a b => leD a.2 b.2).map fun p => (p.1, toP p.2) := by
    unfold srtD
    rw [← PySem.W.sort_maps (fun p : V × D => (p.1, toP p.2))]
    intro a _ b _
    rfl
  have e2 : sortD ds = ((vs.zip ds).mergeSort fun a b => leD a.2 b.2).map (·.2) := by
    unfold sortD
    rw [PySem.W.sort_maps (fun p : V × D => p.2) (s := leD) (fun a _ b _ => rfl), zip_snd r]
  rw [e1, e2, List.map_map]
  have := RpA.ofZip (K := K) (B := B) (L := (vs.zip ds).mergeSort fun a b => leD a.2 b.2) fun p hp => r.zip p ((List.mergeSort_perm _ _).mem_iff.mp hp)
  exact this
def gSorted (ga : GA) : GX := fun s Φ => ga s fun ws s1 => ∃ ds, (rdA ws s1 = some [.lst ds] ) ∧ okS ds ∧ Φ (.new (sortD ds)) s1
theorem se_sorted {t : TA} {ga : GA} (h : SA K t ga) : SE K (tCB (rSortedD K) t) (gSorted ga) := by
  intro F hK c Φ Q R p q
  refine h F hK c _ _ R p fun c1 vs ws R1 G1 D1 p1 => ?_
  obtain ⟨ds, e1, ⟨ok1, ok2, ok3⟩, p2⟩ := p1
  have z := rdA_ok R1 D1 e1
  cases z with
  | @cons x _ xs _ a t =>
    cases t
    subst hK
    obtain ⟨l, us, rfl, h1, h2⟩ := a.lst R1
    have r := h2.ext R1.le
    have m1 : ((us.zip ds).map fun p => (p.1, toP p.2)).map (·.1) = us := by
      rw [List.map_map]
      exact zip_fst h2
    have m2 : ((us.zip ds).map fun p => (p.1, toP p.2)).map (·.2) = ds.map toP := by
      rw [List.map_map]
      have := congrArg (List.map toP) (zip_snd h2)
      rw [List.map_map] at this
      exact this
    have memd : ∀ p ∈ us.zip ds, p.2 ∈ ds := fun p hp => (List.of_mem_zip hp).2
    refine ⟨l, (us.zip ds).map fun p => (p.1, toP p.2), rfl, by rw [m1]; exact SqL.of h1, ?_, by rw [m2]; exact ok2, by rw [m2]; exact ok3, ?_, fun p hp => ?_⟩
    · intro p hp
      obtain ⟨z, hz, rfl⟩ := List.mem_map.mp hp
      exact (r.zip z hz).dp (ok1 _ (memd z hz)).1
    · intro p hp
      obtain ⟨z, hz, rfl⟩ := List.mem_map.mp hp
      exact (ok1 _ (memd z hz)).2
    · exact Den.newL R1 hp (sort_rel h2) fun c' v R' G' es D' => q c' v _ R' (G1.trans G') (D'.back G1.go) (by rw [es]; exact p2)
/-! ### isinstance(x, T), T a built-in type -/
def tyD : D → Option String
  | .non => some "NoneType"
  | .bl _ => some "bool"
  | .int _ => some "int"
  | .str _ => some "str"
  | .lst _ => some "list"
  | .tup _ => some "tuple"
  | .ins _ _ _ => none
def isiD (n : String) (d : D) : Option Bool := match tyD d with
  | some t => kitB t n
  | none => none
def gIsi (n : String) (g : GX) : GX := fun s Φ => g s fun w s1 => ∃ d b, rd w s1 = some d ∧ isiD n d = some b ∧ Φ (.dat (.bl b)) s1
theorem ty_of {F : Fx} {c : Cf} {v : V} {d : D} {t : String} (R : Rep F c) (h : Rq F c v d) (e : tyD d = some t) : TyX F.K c.H v (.type t) := by
  cases d with
  | non => cases Option.some.inj e; rw [h.non]; exact .base .non
  | bl b => cases Option.some.inj e; rw [h.bl]; exact .base (.bl b)
  | int b => cases Option.some.inj e; rw [h.int]; exact .base (.int b)
  | str b => cases Option.some.inj e; rw [h.str]; exact .base (.str b)
  | lst ds =>
    cases Option.some.inj e
    obtain ⟨a, vs, rfl, h1, _⟩ := h.lst R
    exact .base (.lst h1)
  | tup ds =>
    cases Option.some.inj e
    obtain ⟨a, vs, rfl, h1, _⟩ := h.tup R
    rcases h1 with (h1 | ⟨o, h1⟩) | ⟨o, its, n, hk, hc, _⟩
    · exact .base (.tup h1)
    · exact .fTuple h1
    · exact .kTuple hk hc
  | ins _ _ _ => cases e
theorem se_isi {n : String} {t : TE} {g : GX} (h : SE K t g) : SE K (tCB (rIsi K) (tCons t (tCons (tC (.ty n)) tNil))) (gIsi n g) := by
  intro F hK c Φ Q R p q
  refine h F hK c _ _ R p fun c1 v w R1 G1 D1 p1 => ?_
  obtain ⟨d, b, e1, e2, p2⟩ := p1
  subst hK
  unfold isiD at e2
  split at e2
  · rename_i t et
    exact ⟨v, .ty n, .type t, .type n, b, rfl, .ty n, ty_of R1 (rd_ok R1 D1 e1) et, kit_ty e2, q c1 _ (.dat (.bl b)) R1 G1 (Rp.bl b) p2⟩
  · cases e2
/-! ### l.count(x) -/
def rCntD (K : PySem.W.Frag) : V → List V → Hp → VK → Prop := fun x xs H Q => ∃ (p : Addr) (y : V) (ds : List PyData) (d : PyData), x = .ref p ∧ xs = [y] ∧ Dp K H (.ref p) (.list ds) ∧ Dp K H y d ∧ SeqAt.shaped (.list ds) = true ∧ SeqAt.shaped d = true ∧ Q (.int ((ds.countP fun z => PyData.eqv z d : Nat) : Int)) H
theorem mt_lcountD {X : Cx} (hu : X.A.units + 65 < cLine) : MtR X "list.count" (rCntD X.K) := by
  intro pins s σ H x xs v us Q I rx rxs h
  obtain ⟨p, y, ds, d, rfl, rfl, hl, hy, s1, s2, q⟩ := h
  cases rx
  obtain ⟨u, rfl, ru⟩ := rxs.one
  obtain ⟨bs, r1⟩ := Dp.reads I d y u hy ru
  cases hl with
  | lst hs ha =>
    obtain ⟨its, rv, pl, hlen⟩ := I.list hs
    obtain ⟨as, h4⟩ := Dp.readsAll I ds _ its ha rv
    have hxs : PyData.canLayAll0 ds = true := SeqAt.canLay_of_shaped s1
    refine SeqAt.count_list_data (l := p) (vs := its.toArray) (xs := ds) (d := d) pl.isList (show ReadsAll s.heap its.toArray.toList ds as from h4) r1 (PyData.plainAll_of_canLay0 _ hxs) (PyData.plain_of_canLay0 _ (SeqAt.canLay_of_shaped s2)) (room_in_shaped s2 hu) ?_
    exact ⟨.int _, H, I.tok _, ⟨s.toks, rfl⟩, q⟩
/-- o.m(e), o a list -/
def gCount (g1 g2 : GX) : GX := fun s Φ => g1 s fun w1 s1 => (∃ ds, rd w1 s1 = some (.lst ds)) ∧ g2 s1 fun w2 s2 => ∃ ds d, rd w1 s2 = some (.lst ds) ∧ rd w2 s2 = some d ∧ okD (.lst ds) = true ∧ okD d = true ∧ Φ (.dat (.int ((ds.countP fun z => eqD z d : Nat) : Int))) s2
theorem se_count {t1 t2 : TE} {g1 g2 : GX} (h1 : SE K t1 g1) (h2 : SE K t2 g2) : SE K (tBM K "list" (rCntD K) t1 (tCons t2 tNil)) (gCount g1 g2) := by
  intro F hK c Φ Q R p q
  refine h1 F hK c _ _ R p fun c1 v1 w1 R1 G1 D1 p1 => ?_
  obtain ⟨⟨ds0, e0⟩, p1⟩ := p1
  subst hK
  obtain ⟨a, vs0, rfl, q1, _⟩ := (rd_ok R1 D1 e0).lst R1
  refine ⟨.inl ⟨rfl, vs0, SqL.of q1⟩, ?_⟩
  refine h2.run rfl G1.σ R1 p1 fun c2 v2 w2 R2 G2 D2 p2 => ?_
  obtain ⟨ds, d, e1, e2, o1, o2, p3⟩ := p2
  have x1 := ((rd_ok R2 (D1.keep G2) e1).rp R2).dp (okD_pure o1)
  have x2 := ((rd_ok R2 D2 e2).rp R2).dp (okD_pure o2)
  have s1 := okD_shaped o1
  simp only [toP] at x1 s1
  refine ⟨a, v2, toPs ds, toP d, rfl, rfl, x1, x2, s1, okD_shaped o2, ?_⟩
  have e : ((toPs ds).countP fun z => PyData.eqv z (toP d)) = ds.countP fun z => eqD z d := by
    rw [toPs_map, List.countP_map]; rfl
  rw [e]
  exact q c2 _ (.dat (.int _)) R2 (G1.trans G2) (Rp.int _) p3
/-! ### l.append(x) as a statement -/
def gsApp (i : Nat) (g : GX) : GS := fun s De => (∃ ds, s.r[i]? = some (some (.own ds))) ∧ g s fun w s1 => ∃ d s2 ds, frz w s1 = some (d, s2) ∧ s2.r[i]? = some (some (.own ds)) ∧ ds.length < 1000000 ∧ De.nx (s2.put i (.own (ds ++ [d])))
theorem ss_app {i : Nat} {t : TE} {g : GX} (h : SE K t g) : SS K (tDrop (tBM K "list" rAppend (tVar i) (tCons t tNil))) (gsApp i g) := by
  intro F hK c E De R p ok
  obtain ⟨⟨ds0, e0⟩, p⟩ := p
  obtain ⟨l, o0, q1, q2, ⟨vs0, rfl, _⟩, _⟩ := R.at_ i _ e0
  subst hK
  refine ⟨.ref l, q1, .inl ⟨rfl, vs0, SqL.of q2⟩, ?_⟩
  refine h.run rfl rfl R p fun c1 v w R1 G1 D1 p1 => ?_
  obtain ⟨d, s2, ds, e1, e2, hl, p2⟩ := p1
  obtain ⟨c2, b1, b2, b3, _, R2, G2, r⟩ := frz_ok R1 G1 D1 e1
  rw [← b2] at e2 p2
  have hσ : c2.σ[i]? = some (some (.ref l)) := by rw [G2.σ]; exact q1
  obtain ⟨l', o2, y1, y2, ⟨vs, rfl, y3⟩, y4, y5⟩ := R2.at_ i _ e2
  rw [hσ] at y1
  cases y1
  obtain ⟨R3, G3⟩ := R2.updE (e' := .own (ds ++ [d])) (o' := .lst (vs ++ [v])) e2 rfl hσ ⟨_, rfl, y3.snoc r⟩
  have hvl : vs.length < sizeLine := by
    rw [y3.len, sizeLine_eq]; omega
  refine ⟨l, vs, v, rfl, rfl, by rw [← b1]; exact y2, hvl, ?_⟩
  have key := ok.nxE R3 (G2.trans G3) p2
  rw [← b1]
  exact key
end
end DL
set_option maxHeartbeats 4000000
/-! Methods of dicts with nested tuples as keys; sorted(d.items()). -/
namespace Ax
open PySem PySem.Spec PyProof.Rows L2
mutual
theorem reads_mem {h : Heap} : ∀ {v : Value} {d : PyData} {as : List Addr}, Reads h v d as → ∀ a ∈ as, a < h.objs.size
  | _, _, _, .none => by simp
  | _, _, _, .bool _ => by simp
  | _, _, _, .int _ _ => by simp
  | _, _, _, .str _ _ => by simp
  | _, _, _, .list h1 _ _ r => fun a ha => by
    rcases List.mem_cons.mp ha with z | z
    · rw [z]; exact Heap.lt_size h1
    · exact readsAll_mem r a z
  | _, _, _, .tuple h1 _ _ r => readsAll_mem r
  | _, _, _, .dict h1 _ _ r r2 => fun a ha => by
    rcases List.mem_append.mp ha with z | z
    · rcases List.mem_cons.mp z with y | y
      · rw [y]; exact Heap.lt_size h1
      · exact readsAll_mem r a y
    · exact readsAll_mem r2 a z
theorem readsAll_mem {h : Heap} : ∀ {vs : List Value} {ds : List PyData} {as : List Addr}, ReadsAll h vs ds as → ∀ a ∈ as, a < h.objs.size
  | _, _, _, .nil => by simp
  | _, _, _, .cons r t => fun a ha => by
    rcases List.mem_append.mp ha with z | z
    · exact reads_mem r a z
    · exact readsAll_mem t a z
end
/-- d.m(e), d such a dict -/
def tDM (P : Program) (w : World) (r : V → List V → Hp → VK → Prop) (to : TE) (t : TA) : TE := fun σ H Q => to σ H fun x H1 => (∃ (a : Addr) (kvs : Kvs), x = .ref a ∧ H1 a = some (NdO P w a kvs)) ∧ t σ H1 fun xs H2 => r x xs H2 Q
def tDM0 (P : Program) (w : World) (r : V → List V → Hp → VK → Prop) (to : TE) : TE := fun σ H Q => to σ H fun x H1 => (∃ (a : Addr) (kvs : Kvs), x = .ref a ∧ H1 a = some (NdO P w a kvs)) ∧ r x [] H1 Q
section
variable {X : Cx}
theorem nd_is {pins : List (Addr × Obj)} {σ : L2.St} {H : Hp} {s : Shared} {a : Addr} {kvs : Kvs} (I : Inv X pins σ H s) (h : H a = some (NdO X.prog X.w a kvs)) : s.TypeIs (.ref a) "dict" ∧ ∀ b, Value.ref a = .ref b → ∃ ob, s.heap.get? b = some ob ∧ ob.dict = none := by
  obtain ⟨_, _, xs, _, o, es, ep, ho, hx, _⟩ := (show ObjOk X.prog X.w H s.heap a (NdO X.prog X.w a kvs) from I.hok a _ h).1
  exact ⟨⟨o, ho, hx.1⟩, fun b e => by cases e; exact ⟨o, ho, hx.2.1⟩⟩
variable {o e : Expr} {es : List Expr} {to : TE} {t : TA} {name : Str} {apos cpos : Pos} {id : String} {r : V → List V → Hp → VK → Prop}
theorem pe_dm (slot : Slot "dict" name id) (hty : typeOf (.builtin id) = pure (.type "method_descriptor")) (hm : MtR X id r) (ho : PE X o to) (ha : PA X (e :: es) t)
    (hbase : attributeBase o name X.env (eval o X.env) = eval o X.env := by rfl)
    (hfew : ((backTo cpos (starEach (e :: es) X.env)).all (fun x => !x.1) && (backToKw cpos (keywordEach [] X.env)).all (fun x => x.1.isSome)
      && decide ((e :: es).length + ([] : List Keyword).length + (if ([] : List Keyword).isEmpty then 0 else 1) < 30)) = true := by rfl)
    (hline : (apos.endLine == cpos.line) = true := by rfl) (hs : starEach (e :: es) X.env = (false, eval e X.env) :: starEach es X.env := by rfl) (hplain : (backTo cpos (starEach es X.env)).any (·.1) = false := by rfl) :
    PE X (.Call (.Attribute o name apos) (e :: es) [] cpos) (tDM X.prog X.w r to t) := by
  refine ⟨fun pins s σ H Q I h => ?_⟩
  refine wpAny_Call_method_late hbase hfew hline rfl (thn (ho.run pins s σ H _ I h) fun v s1 ⟨x, H1, I1, r1, ty, q1⟩ => ?_)
  obtain ⟨p, kvs, rfl, hp⟩ := ty
  obtain rfl : v = Value.ref p := r1
  obtain ⟨t1, t2⟩ := nd_is I1 hp
  refine ⟨"dict", id, PySem.F.plainAttrs_dict, slot, hty, t1, t2, ?_⟩
  have hA := ha.run cpos pins s1 σ H1 _ I1 q1
  rw [hs] at hA ⊢
  refine Calls.callWith_builtin (by show (false || (backTo cpos (starEach es X.env)).any (·.1)) = false; rw [hplain] <;> rfl) (Calls.evalArgs_plain ?_)
  exact thn hA fun us s2 ⟨vs, H2, I2, r2, q2⟩ => hm pins s2 σ H2 (.ref p) vs (.ref p) us Q I2 rfl r2 q2
theorem pe_dm0 (slot : Slot "dict" name id) (hty : typeOf (.builtin id) = pure (.type "method_descriptor")) (hm : MtR X id r) (ho : PE X o to)
    (hbase : attributeBase o name X.env (eval o X.env) = eval o X.env := by rfl) (hline : (apos.endLine == cpos.line) = true := by rfl) : PE X (.Call (.Attribute o name apos) [] [] cpos) (tDM0 X.prog X.w r to) := by
  refine ⟨fun pins s σ H Q I h => ?_⟩
  refine wpAny_Call_method0_late hbase hline (thn (ho.run pins s σ H _ I h) fun v s1 ⟨x, H1, I1, r1, ty, q1⟩ => ?_)
  obtain ⟨p, kvs, rfl, hp⟩ := ty
  obtain rfl : v = Value.ref p := r1
  obtain ⟨t1, t2⟩ := nd_is I1 hp
  exact ⟨"dict", id, PySem.F.plainAttrs_dict, slot, hty, t1, t2, Calls.callWith_builtin rfl (PySem.evalArgs_none (hm pins s1 σ H1 (.ref p) [] (.ref p) [] Q I1 rfl .nil q1))⟩
/-! ### d.items() -/
def rItemsN (P : Program) (w : World) : V → List V → Hp → VK → Prop := fun x xs H Q => ∃ (a : Addr) (kvs : Kvs), x = .ref a ∧ xs = [] ∧ H a = some (NdO P w a kvs) ∧ ∀ p, H p = none → Q (.ref p) (upd H p (L2.DX.itemsO p a))
theorem mt_itemsN : MtR X "dict.items" (rItemsN X.prog X.w) := by
  intro pins s σ H x xs v us Q I rx rxs h
  obtain ⟨a, kvs, rfl, rfl, ha, q⟩ := h
  cases rx
  cases rxs
  obtain ⟨_, hd, ys, _, o, es, ep, ho, hx, hdat, _⟩ := (show ObjOk X.prog X.w H s.heap a (NdO X.prog X.w a kvs) from I.hok a _ ha).1
  refine DT.callItems (es := es) (ep := ep) hd ⟨o, ho, hx, hdat⟩ ?_
  have hf : H s.heap.objs.size = none := I.hok.fresh (Nat.le_refl _)
  exact ⟨.ref s.heap.objs.size, upd H s.heap.objs.size (L2.DX.itemsO s.heap.objs.size a), I.laid (t' := s.toks) (fun b u e => Heap.get?_push_of_some _ e) (Nat.le_refl _) (L2.DX.itemsO_ok (Heap.get?_push_size _ rfl)), rfl, q _ hf⟩
/-! ### sorted(d.items()) -/
abbrev It4 := V × V × PyData × PyData
def enc4 (z : It4) : PyData := .tuple [z.2.2.1, z.2.2.2]
abbrev It5 := Addr × It4
def enc5 (z : It5) : PyData := enc4 z.2
def rSortIN (K : PySem.W.Frag) (P : Program) (w : World) : List V → Hp → VK → Prop := fun vs H Q => ∃ (p a : Addr) (kvs : Kvs) (L : List It4), vs = [.ref p] ∧ H p = some (L2.DX.itemsO p a) ∧ H a = some (NdO P w a kvs) ∧ kvs.map (fun e => (V.ref e.2.1, e.2.2)) = L.map (fun z => (z.1, z.2.1)) ∧
  (∀ z ∈ L, Dp K H z.1 z.2.2.1 ∧ Dp K H z.2.1 z.2.2.2 ∧ (enc4 z).depth ≤ 8) ∧ PySem.W.AllAlike (L.map enc4) ∧
  ∀ (H' : Hp) (l : Addr) (bs : List It5), (∀ b o, H b = some o → H' b = some o) → bs.map (·.2) = L → H l = none → H' l = some (.lst ((bs.mergeSort (PySem.W.dataLe false enc5)).map fun b => V.ref b.1)) → (∀ b ∈ bs, H b.1 = none ∧ b.1 ≠ l ∧ H' b.1 = some (.tup [b.2.1, b.2.2.1])) → Q (.ref l) H'
theorem zip_get {α β : Type} {as : List α} {bs : List β} {z : α × β} (h : z ∈ as.zip bs) : ∃ j : Nat, as[j]? = some z.1 ∧ bs[j]? = some z.2 := by
  obtain ⟨j, hj⟩ := List.mem_iff_getElem?.mp h
  exact ⟨j, List.getElem?_zip_eq_some.mp hj⟩
theorem each_zip {α : Type} {R : Value → α → Prop} {f : α → Value} : ∀ (bs : List α), (∀ b ∈ bs, R (f b) b) → PySem.W.EachIs R (bs.map f) bs
  | [], _ => .nil
  | b :: bs, h => .cons (h b List.mem_cons_self) (each_zip bs fun c hc => h c (List.mem_cons_of_mem _ hc))
theorem each_map_eq {α : Type} {f : α → Value} : ∀ {out : List Value} {bs : List α}, PySem.W.EachIs (fun u b => u = f b) out bs → out = bs.map f
  | _, _, .nil => rfl
  | _, _, .cons h t => by rw [h, each_map_eq t]; rfl
theorem cr_sortedIN (hc : X.calm = true) (hu : X.A.units + 64 < cLine) : CallR X (.builtin "sorted") (rSortIN X.K X.prog X.w) := by
  intro pins s σ H xs us Q I r h
  obtain ⟨p, a, kvs, L, rfl, hp, ha, hL, hd, hal, q⟩ := h
  obtain ⟨u, rfl, ru⟩ := vals1 r
  obtain rfl : u = Value.ref p := ru
  have view : s.heap.IsItemsView p a := (show ObjOk X.prog X.w H s.heap p (L2.DX.itemsO p a) from I.hok p _ hp).1
  obtain ⟨z, hms, xs', rel, o, es, ep, ho, hx, hdat, hes, hn⟩ := (show ObjOk X.prog X.w H s.heap a (NdO X.prog X.w a kvs) from I.hok a _ ha).1
  have l1 := kvr_len rel
  have l2 : es.size = xs'.length := size_of_entries hes
  have l3 : kvs.length = L.length := by
    have := congrArg List.length hL
    rw [List.length_map, List.length_map] at this
    exact this
  have hh : X.A.handled = none := I.ok.hd hc
  refine DT.sortedI (es := es) (ep := ep) hh view ⟨o, ho, hx, hdat⟩ (by omega) fun h' tk as hk hlt hl hG => ?_
  have lak : as.length = L.length := by omega
  have nd : as.Nodup := List.Pairwise.imp (fun h => Nat.ne_of_lt h) hG.rise
  -- the pairs that were made
  have pr : ∀ (j : Nat) (b : Addr) (e : It4), as[j]? = some b → L[j]? = some e → ∃ ku vu : Value, RelV e.1 ku ∧ RelV e.2.1 vu ∧ h'.get? b = some { cls := .type "tuple", data := .seq #[ku, vu] } := by
    intro j b e hj he
    obtain ⟨en, hen, hg⟩ := hG.pairs j b hj
    have hjk : j < kvs.length := by
      have := (List.getElem?_eq_some_iff.mp he).1
      omega
    obtain ⟨x, hxj, e1, e2, e3⟩ := kvr_at rel (List.getElem?_eq_getElem hjk)
    have q := entry_at hes j
    rw [hxj, hen] at q
    have q' := Option.some.inj q
    have hm := congrArg (fun l => l[j]?) hL
    simp only [List.getElem?_map, he, List.getElem?_eq_getElem hjk, Option.map_some, Option.some.injEq, Prod.mk.injEq] at hm
    obtain ⟨m1, m2⟩ := hm
    refine ⟨.ref x.2.1, x.2.2, ?_, ?_, ?_⟩
    · rw [← m1, e2]; exact rfl
    · rw [← m2]; exact e3
    · rw [hg, q']; rfl
  have hob : (h'.push { cls := .type "list", data := .seq (as.map Value.ref).toArray }).get? h'.objs.size = some (seqObj "list" (as.map Value.ref).toArray 0) := Heap.get?_push_size _ rfl
  have kb : ∀ b o, s.heap.get? b = some o → (h'.push { cls := .type "list", data := .seq (as.map Value.ref).toArray }).get? b = some o := fun b o e => Heap.get?_push_of_some _ (hk b o e)
  have ka : ∀ b o, h'.get? b = some o → (h'.push { cls := .type "list", data := .seq (as.map Value.ref).toArray }).get? b = some o := fun b o e => Heap.get?_push_of_some _ e
  have ne0 : ∀ b o, h'.get? b = some o → b ≠ h'.objs.size := fun b o e => Nat.ne_of_lt (Heap.lt_size e)
  generalize hh2 : h'.push { cls := .type "list", data := .seq (as.map Value.ref).toArray } = h2 at hob kb ka ⊢
  have zm : (as.zip L).map (·.2) = L := List.map_snd_zip (by omega)
  have zf : (as.zip L).map (·.1) = as := List.map_fst_zip (by omega)
  have zv : as.map Value.ref = (as.zip L).map fun b => Value.ref b.1 := by
    have := congrArg (List.map Value.ref) zf
    rw [List.map_map] at this
    exact this.symm
  have em : (as.zip L).map enc5 = L.map enc4 := by
    have := congrArg (List.map enc4) zm
    rw [List.map_map] at this
    exact this
  -- what a pair reads as
  have rdp : ∀ b ∈ as.zip L, ∃ bs, Reads h2 (.ref b.1) (enc5 b) bs ∧ h'.objs.size ∉ bs := by
    intro b hb
    obtain ⟨j, hj1, hj2⟩ := zip_get hb
    obtain ⟨ku, vu, r1, r2, hg⟩ := pr j b.1 b.2 hj1 hj2
    obtain ⟨d1, d2, _⟩ := hd b.2 (List.mem_of_getElem? hj2)
    obtain ⟨as1, R1⟩ := Dp.reads I _ _ _ d1 r1
    obtain ⟨as2, R2⟩ := Dp.reads I _ _ _ d2 r2
    refine ⟨as1 ++ (as2 ++ []), .tuple (ka _ _ hg) rfl rfl (.cons (PyProof.Rows.Reads.keeps kb R1) (.cons (PyProof.Rows.Reads.keeps kb R2) .nil)), fun m => ?_⟩
    rw [List.append_nil] at m
    have lt0 : s.heap.objs.size < h'.objs.size := hlt
    rcases List.mem_append.mp m with m | m
    · exact absurd (Nat.lt_trans (reads_mem R1 _ m) lt0) (Nat.lt_irrefl _)
    · exact absurd (Nat.lt_trans (reads_mem R2 _ m) lt0) (Nat.lt_irrefl _)
  have hz : (as.zip L).length ≤ sizeLine := by
    have : (as.zip L).length = L.length := by rw [← List.length_map (·.2), zm]
    omega
  refine PySem.W.list_sort_data (s := { s with heap := h2, toks := tk }) (A := X.A.in1) (n := 0) (vs := as.map Value.ref) (bs := as.zip L) (enc := enc5) (R := fun u b => u = Value.ref b.1) hob (by rw [zv]; exact each_zip _ fun b _ => rfl) (by
      rw [zv]
      refine each_zip _ fun b hb => ?_
      exact rdp b hb) (by rw [em]; exact hal) (.inl fun d hd' => ?_) hz (fun b hb => ?_) fun out o1 o2 => ?_
  · obtain ⟨b, _, rfl⟩ := List.mem_map.mp hd'
    exact ⟨_, _, rfl⟩
  · obtain ⟨_, _, d3⟩ := hd b.2 (by
      obtain ⟨j, _, hj2⟩ := zip_get hb
      exact List.mem_of_getElem? hj2)
    have d3' : (enc5 b).depth ≤ 8 := d3
    show X.A.units + 1 + 1 + (enc5 b).depth < cLine
    omega
  · have hout := each_map_eq o2
    show EP X pins σ Q (.ref h'.objs.size) { s with heap := sortedHeap h2 h'.objs.size (as.map Value.ref) out.toArray, toks := tk }
    have kF : ∀ b o, b ≠ h'.objs.size → h2.get? b = some o → (sortedHeap h2 h'.objs.size (as.map Value.ref) out.toArray).get? b = some o := fun b o hb e => (PyProof.Rows.sortedHeap_old hb (Heap.lt_size e)).trans e
    have kS : ∀ b o, s.heap.get? b = some o → (sortedHeap h2 h'.objs.size (as.map Value.ref) out.toArray).get? b = some o := fun b o e => kF b o (ne0 _ _ (hk b o e)) (kb b o e)
    obtain ⟨eF, heF⟩ := PyProof.Rows.sortedHeap_at (vs := as.map Value.ref) (out := out.toArray) hob
    have I1 : Inv X pins σ H { s with heap := sortedHeap h2 h'.objs.size (as.map Value.ref) out.toArray, toks := tk } := I.kept (t' := tk) kS
    have hn0 : H h'.objs.size = none := I.hok.fresh (Nat.le_of_lt hlt)
    have hlen : (((as.zip L).mergeSort (PySem.W.dataLe false enc5)).map fun b => V.ref b.1).length ≤ sizeLine := by
      rw [List.length_map, List.length_mergeSort]; exact hz
    have rv : Vals (((as.zip L).mergeSort (PySem.W.dataLe false enc5)).map fun b => V.ref b.1) out := by
      rw [hout]
      exact vals_maps (fun z : It5 => V.ref z.1) (fun z => Value.ref z.1) _ fun _ _ => rfl
    have I2 : Inv X pins σ (upd H h'.objs.size (.lst (((as.zip L).mergeSort (PySem.W.dataLe false enc5)).map fun b => V.ref b.1))) { s with heap := sortedHeap h2 h'.objs.size (as.map Value.ref) out.toArray, toks := tk } :=
      I1.take (h' := sortedHeap h2 h'.objs.size (as.map Value.ref) out.toArray) (t' := tk) (fun b ob _ e => e) (I.fpOk (Nat.le_of_lt hlt) hn0) ⟨hlen, out, eF, rv, heF⟩
    obtain ⟨H2, I3, g, qt⟩ := L2.DX.takeT (P := fun b vs => ∃ (j : Nat) (e : It4), as[j]? = some b ∧ L[j]? = some e ∧ vs = [e.1, e.2.1]) I as _ I2 nd fun b hb => by
      obtain ⟨j, hj⟩ := List.mem_iff_getElem?.mp hb
      have hjl : j < L.length := by
        have := (List.getElem?_eq_some_iff.mp hj).1
        omega
      obtain ⟨ku, vu, r1, r2, hg⟩ := pr j b L[j] hj (List.getElem?_eq_getElem hjl)
      have hbl : s.heap.objs.size ≤ b := Nat.le_of_lt (hG.above b hb)
      refine ⟨hbl, ?_, [L[j].1, L[j].2.1], ⟨j, L[j], hj, List.getElem?_eq_getElem hjl, rfl⟩, fun H3 => ⟨(by rw [sizeLine_eq]; show 2 ≤ 16777216; omega), [ku, vu], .cons r1 (.cons r2 .nil), ⟨_, kF _ _ (ne0 _ _ hg) (ka _ _ hg), rfl, 0, rfl⟩⟩⟩
      rw [upd_ne (ne0 _ _ hg)]
      exact I.hok.fresh hbl
    have gr : ∀ b o, H b = some o → H2 b = some o := fun b o e => g b o (by rw [upd_ne (ne_of_none e hn0)]; exact e)
    refine ⟨.ref h'.objs.size, H2, I3, rfl, q H2 h'.objs.size (as.zip L) gr zm hn0 (g _ _ upd_same) fun b hb => ?_⟩
    obtain ⟨j, hj1, hj2⟩ := zip_get hb
    obtain ⟨ku, vu, r1, r2, hg⟩ := pr j b.1 b.2 hj1 hj2
    have hbl : s.heap.objs.size ≤ b.1 := Nat.le_of_lt (hG.above b.1 (List.mem_of_getElem? hj1))
    obtain ⟨vs, ⟨i, e, i1, i2, ev⟩, hH⟩ := qt b.1 (List.mem_of_getElem? hj1)
    have eij : i = j := (List.getElem?_inj (List.getElem?_eq_some_iff.mp i1).1 nd).mp (i1.trans hj1.symm)
    subst eij
    have ee : e = b.2 := Option.some.inj (i2.symm.trans hj2)
    rw [ev, ee] at hH
    exact ⟨I.hok.fresh hbl, ne0 _ _ hg, hH⟩
end
end Ax
set_option maxHeartbeats 2000000
/-! Dicts of a def's own over data; max with default. -/
namespace DL
open PySem PySem.Spec PyProof.Rows L2 Ax
def getK (kvs : List (NK × D)) (k : NK) : Option D := (kvs.find? fun p => decide (p.1 = k)).map (·.2)
def putK (kvs : List (NK × D)) (k : NK) (d : D) : List (NK × D) := if (getK kvs k).isSome = true then kvs.map fun p => if p.1 = k then (p.1, d) else p else kvs ++ [(k, d)]
section
variable {K : PySem.W.Frag} {B : Hp}
theorem kt_get : ∀ {ks : Kvs} {kvs : List (NK × D)}, Paired (KtR K B) ks kvs → ∀ k, (getN ks k = none ∧ getK kvs k = none) ∨ ∃ v d, getN ks k = some v ∧ getK kvs k = some d ∧ Rp K B v d
  | _, _, .nil, k => .inl ⟨rfl, rfl⟩
  | _, _, .cons (a := p) (b := q) (l₁ := l1) (l₂ := l2) h r, k => by
    obtain ⟨e1, e2, e3, rv⟩ := h
    by_cases c : p.1 = k
    · refine .inr ⟨p.2.2, q.2, ?_, ?_, rv⟩
      · unfold getN
        rw [List.find?_cons_of_pos (by simpa using c)]
        rfl
      · unfold getK
        rw [List.find?_cons_of_pos (by rw [← e1]; simpa using c)]
        rfl
    · have g1 : getN (p :: l1) k = getN l1 k := by
        unfold getN
        rw [List.find?_cons_of_neg (by simpa using c)]
      have g2 : getK (q :: l2) k = getK l2 k := by
        unfold getK
        rw [List.find?_cons_of_neg (by rw [← e1]; simpa using c)]
      rw [g1, g2]
      exact kt_get r k
theorem kt_snoc : ∀ {ks : Kvs} {kvs : List (NK × D)} {p : NK × Addr × V} {q : NK × D}, Paired (KtR K B) ks kvs → KtR K B p q → Paired (KtR K B) (ks ++ [p]) (kvs ++ [q])
  | _, _, _, _, .nil, h => .cons h .nil
  | _, _, _, _, .cons g r, h => .cons g (kt_snoc r h)
theorem kt_map {k : NK} {v : V} {d : D} (rv : Rp K B v d) : ∀ {ks : Kvs} {kvs : List (NK × D)}, Paired (KtR K B) ks kvs → Paired (KtR K B) (ks.map fun p => if p.1 = k then (p.1, p.2.1, v) else p) (kvs.map fun p => if p.1 = k then (p.1, d) else p)
  | _, _, .nil => .nil
  | _, _, .cons (a := p) (b := q) h r => by
    refine .cons ?_ (kt_map rv r)
    obtain ⟨e1, e2, e3, e4⟩ := h
    dsimp only
    by_cases c : p.1 = k
    · rw [if_pos c, if_pos (e1 ▸ c)]
      exact ⟨e1, e2, e3, rv⟩
    · rw [if_neg c, if_neg (e1 ▸ c)]
      exact ⟨e1, e2, e3, e4⟩
theorem kt_put {ks : Kvs} {kvs : List (NK × D)} {k : NK} {a : Addr} {v : V} {d : D} (h : Paired (KtR K B) ks kvs) (hk : Rp K B (.ref a) (dN k)) (hd : k.depth ≤ 8) (rv : Rp K B v d) : Paired (KtR K B) (putN ks k a v) (putK kvs k d) := by
  unfold putN putK
  rcases kt_get h k with ⟨e1, e2⟩ | ⟨v1, d1, e1, e2, _⟩
  · rw [e1, e2]
    exact kt_snoc h ⟨rfl, hd, hk, rv⟩
  · rw [e1, e2]
    exact kt_map rv h
theorem kt_len {ks : Kvs} {kvs : List (NK × D)} (h : Paired (KtR K B) ks kvs) : ks.length = kvs.length := Paired.length h
theorem kt_keys : ∀ {ks : Kvs} {kvs : List (NK × D)}, Paired (KtR K B) ks kvs → ∀ p ∈ ks, Dp K B (.ref p.2.1) (nkD p.1) ∧ p.1.depth ≤ 8
  | _, _, .nil, p, h => by cases h
  | _, _, .cons (a := a) (b := b) h r, p, hp => by
    rcases List.mem_cons.mp hp with z | z
    · obtain ⟨e1, e2, e3, _⟩ := h
      rw [z]
      have := e3.dp (pure_dN b.1)
      rw [toP_dN, ← e1] at this
      exact ⟨this, e2⟩
    · exact kt_keys r p z
end
section
variable {K : Bd}
theorem nd_at {F : Fx} {c : Cf} (R : Rep F c) {l : Addr} {ks : Kvs} {kvs : List (NK × D)} (h : c.H l = some (NdO F.P F.w l ks)) (r : Paired (KtR F.K c.B) ks kvs) : NdAt F.K F.P F.w c.H l ks :=
  ⟨.inl h, fun p hp => ⟨dp_ext R.le (kt_keys r p hp).1, (kt_keys r p hp).2⟩⟩
/-- what stands in slot i: a dict -/
theorem Rep.dct {F : Fx} {c : Cf} (R : Rep F c) {i : Nat} {kvs : List (NK × D)} (h : c.s.r[i]? = some (some (.dct kvs))) : ∃ l ks, c.σ[i]? = some (some (.ref l)) ∧ c.H l = some (NdO F.P F.w l ks) ∧ Paired (KtR F.K c.B) ks kvs ∧ c.B l = none ∧ (F.on = true → l ≠ F.b ∧ l ≠ F.c) := by
  obtain ⟨l, o, q1, q2, ⟨ks, rfl, q3⟩, q4, q5⟩ := R.at_ i _ h
  exact ⟨l, ks, q1, q2, q3, q4, q5⟩
/-! ### x = {} -/
def tDnew (P : Program) (w : World) : TE := fun _ H Q => ∀ p, H p = none → Q (.ref p) (upd H p (NdO P w p []))
def gsDct (i : Nat) : GS := fun s De => De.nx (s.put i (.dct []))
theorem ss_dct {i : Nat} : SS K (tAsg (tDnew K.P K.w) (L2.gName i)) (gsDct i) := by
  intro F hK c E De R p ok l hl
  subst hK
  obtain ⟨R1, G1⟩ := R.putH (o := NdO F.P F.w l []) hl
  obtain ⟨R2, hO⟩ := R1.setE (i := i) (v := .ref l) (e := .dct []) (fun q => ⟨l, NdO F.P F.w l [], List.getElem?_set_self q, upd_same, ⟨[], rfl, .nil⟩, R.notB hl, R.notBag hl⟩) (fun l' _ e => by cases e; exact fun m => R.notOwn hl (m.ofEq rfl rfl))
  refine ok.nx _ R2 ⟨G1.go.b, G1.go.fr, G1.go.nb, fun a m => ?_, G1.go.dom⟩ p
  rcases hO a m with z | ⟨_, z⟩
  · exact G1.go.ow a z
  · cases z; exact .inr hl
/-! ### d.get(k, x) -/
def gGet2 (i : Nat) (g1 g2 : GX) : GX := fun s Φ => (∃ kvs, s.r[i]? = some (some (.dct kvs))) ∧ g1 s fun w1 s1 => g2 s1 fun w2 s2 => ∃ kvs ks d s3, rd w1 s2 = some (dN (.tup ks)) ∧ (NestedKey.tup ks).depth ≤ 8 ∧ frz w2 s2 = some (d, s3) ∧ s3.r[i]? = some (some (.dct kvs)) ∧ Φ (.dat ((getK kvs (.tup ks)).getD d)) s3
theorem key_dp {F : Fx} {c : Cf} {v : V} {ks : List NK} (R : Rep F c) (h : Rq F c v (dN (.tup ks))) : ∃ t, v = .ref t ∧ Dp F.K c.H (.ref t) (nkD (.tup ks)) := by
  have := (h.rp R).dp (pure_dN (.tup ks))
  rw [toP_dN] at this
  have e : nkD (.tup ks) = .tuple (nkDs ks) := by simp [nkD]
  rw [e] at this
  cases this with
  | tup h1 h2 => exact ⟨_, rfl, by rw [e]; exact .tup h1 h2⟩
theorem Rq.go {F : Fx} {c c' : Cf} {v : V} {d : D} (h : Rq F c v d) (x : Ext c.B c'.B) (y : c'.H = c.H) : Rq F c' v d := by
  rcases h with h | ⟨l, vs, ds, e1, e2, h1, h2⟩
  · exact .inl (h.ext x)
  · exact .inr ⟨l, vs, ds, e1, e2, by rw [y]; exact h1, h2.ext x⟩
theorem se_get2 {i : Nat} {t1 t2 : TE} {g1 g2 : GX} (h1 : SE K t1 g1) (h2 : SE K t2 g2) : SE K (tDM K.P K.w (rGetN2 K K.P K.w) (tVar i) (tCons t1 (tCons t2 tNil))) (gGet2 i g1 g2) := by
  intro F hK c Φ Q R p q
  subst hK
  obtain ⟨⟨kv0, e0⟩, p⟩ := p
  obtain ⟨l, ks0, q1, q2, _⟩ := R.dct e0
  refine ⟨.ref l, q1, ⟨l, ks0, rfl, q2⟩, ?_⟩
  refine h1.run rfl rfl R p fun c1 v1 w1 R1 G1 D1 p1 => ?_
  refine h2.run rfl G1.σ R1 p1 fun c2 v2 w2 R2 G2 D2 p2 => ?_
  obtain ⟨kvs, ks, d, s3, e1, hd, e2, e3, p3⟩ := p2
  obtain ⟨c3, b1, b2, b3, x3, R3, G3, r⟩ := frz_ok R2 G2 D2 e2
  rw [← b2] at e3 p3
  obtain ⟨t, rfl, dk⟩ := key_dp R2 (rd_ok R2 (D1.keep G2) e1)
  obtain ⟨l', kv', y1, y2, y3, _⟩ := R3.dct e3
  have hσ : c3.σ[i]? = some (some (.ref l)) := by rw [G3.σ, G1.σ]; exact q1
  rw [hσ] at y1
  cases y1
  have n := nd_at R3 y2 y3
  rw [b1] at n
  refine ⟨l, t, .tup ks, kv', v2, rfl, rfl, dk, hd, n, ?_⟩
  rw [← b1]
  refine q c3 _ (.dat ((getK kvs (.tup ks)).getD d)) R3 (G1.trans G3) ?_ p3
  show Rp F.K c3.B _ _
  rcases kt_get y3 (.tup ks) with ⟨f1, f2⟩ | ⟨v, d', f1, f2, rv⟩
  · rw [f1, f2]; exact r
  · rw [f1, f2]; exact rv
/-! ### d[k] = v -/
def gsPutK (i : Nat) (ge gk : GX) : GS := fun s De => ge s fun w s1 => ∃ d s2, frz w s1 = some (d, s2) ∧ (∃ kvs, s2.r[i]? = some (some (.dct kvs))) ∧ gk s2 fun wk s3 => ∃ kvs ks s4, frz wk s3 = some (dN (.tup ks), s4) ∧ (NestedKey.tup ks).depth ≤ 8 ∧ s4.r[i]? = some (some (.dct kvs)) ∧ kvs.length < 1000000 ∧ De.nx (s4.put i (.dct (putK kvs (.tup ks) d)))
theorem ss_putK {i : Nat} {t tk : TE} {ge gk : GX} (h1 : SE K t ge) (h2 : SE K tk gk) : SS K (tAsg t (gSub (tVar i) tk (rSetN K K.P K.w))) (gsPutK i ge gk) := by
  intro F hK c E De R p ok
  subst hK
  refine h1 F rfl c _ _ R p fun c1 v w R1 G1 D1 p1 => ?_
  obtain ⟨d, s2, e1, ⟨kv0, e0⟩, p2⟩ := p1
  obtain ⟨c2, b1, b2, b3, x2, R2, G2, r⟩ := frz_ok R1 G1 D1 e1
  rw [← b2] at e0 p2
  obtain ⟨l, ks0, q1, q2, _⟩ := R2.dct e0
  rw [← b1]
  refine ⟨.ref l, by rw [← G2.σ]; exact q1, ?_⟩
  refine h2.run rfl G2.σ R2 p2 fun c3 vk wk R3 G3 D3 p3 => ?_
  obtain ⟨kvs, ks, s4, e3, hd, e4, hl, p4⟩ := p3
  obtain ⟨c4, b4, b5, b6, x4, R4, G4, rk⟩ := frz_ok R3 G3 D3 e3
  rw [← b5] at e4 p4
  have hσ : c4.σ[i]? = some (some (.ref l)) := by rw [G4.σ]; exact q1
  obtain ⟨l', kv', y1, y2, y3, y4, _⟩ := R4.dct e4
  rw [hσ] at y1
  cases y1
  obtain ⟨t, rfl, dk⟩ := key_dp R4 (.inl rk)
  have n := nd_at R4 y2 y3
  have rv : Rp F.K c4.B v d := r.ext G4.go.b
  obtain ⟨R5, G5⟩ := R4.updE (e' := .dct (putK kvs (.tup ks) d)) (o' := NdO F.P F.w l (putN kv' (.tup ks) t v)) e4 rfl hσ ⟨_, rfl, kt_put y3 rk hd rv⟩
  refine ⟨l, t, .tup ks, kv', rfl, rfl, by rw [← b4]; exact dk, hd, by rw [← b4]; exact n, by rw [← b4]; exact y2, by rw [kt_len y3, sizeLine_eq]; omega, ?_⟩
  have key := ok.nxE R5 ((G2.trans G4).trans G5) p4
  rw [← b4]
  exact key
/-! ### k in d -/
def gInK (neg : Bool) (i : Nat) (g : GX) : GX := fun s Φ => g s fun w s1 => ∃ kvs ks, rd w s1 = some (dN (.tup ks)) ∧ (NestedKey.tup ks).depth ≤ 8 ∧ s1.r[i]? = some (some (.dct kvs)) ∧ Φ (.dat (.bl (if neg then !(getK kvs (.tup ks)).isSome else (getK kvs (.tup ks)).isSome))) s1
theorem se_inK {neg : Bool} {i : Nat} {t : TE} {g : GX} (h : SE K t g) : SE K (tOp (rInN K K.P K.w neg) t (tVar i)) (gInK neg i g) := by
  intro F hK c Φ Q R p q
  subst hK
  refine h F rfl c _ _ R p fun c1 v w R1 G1 D1 p1 => ?_
  obtain ⟨kvs, ks, e1, hd, e2, p2⟩ := p1
  obtain ⟨t, rfl, dk⟩ := key_dp R1 (rd_ok R1 D1 e1)
  obtain ⟨l, kv', y1, y2, y3, _⟩ := R1.dct e2
  refine ⟨.ref l, by rw [← G1.σ]; exact y1, t, l, .tup ks, kv', rfl, rfl, dk, hd, nd_at R1 y2 y3, ?_⟩
  have e : (getN kv' (.tup ks)).isSome = (getK kvs (.tup ks)).isSome := by
    rcases kt_get y3 (.tup ks) with ⟨f1, f2⟩ | ⟨v, d', f1, f2, rv⟩
    · rw [f1, f2]; rfl
    · rw [f1, f2]; rfl
  rw [e]
  exact q c1 _ (.dat (.bl _)) R1 G1 (Rp.bl _) p2
/-! ### d[k] -/
def gIxK (i : Nat) (g : GX) : GX := fun s Φ => (∃ kvs, s.r[i]? = some (some (.dct kvs))) ∧ g s fun w s1 => ∃ kvs ks d, rd w s1 = some (dN (.tup ks)) ∧ (NestedKey.tup ks).depth ≤ 8 ∧ s1.r[i]? = some (some (.dct kvs)) ∧ getK kvs (.tup ks) = some d ∧ Φ (.dat d) s1
theorem se_ixK {i : Nat} {t : TE} {g : GX} (h : SE K t g) : SE K (tOp (rIxN K K.P K.w) (tVar i) t) (gIxK i g) := by
  intro F hK c Φ Q R p q
  subst hK
  obtain ⟨⟨kv0, e0⟩, p⟩ := p
  obtain ⟨l, ks0, q1, q2, _⟩ := R.dct e0
  refine ⟨.ref l, q1, ?_⟩
  refine h.run rfl rfl R p fun c1 v w R1 G1 D1 p1 => ?_
  obtain ⟨kvs, ks, d, e1, hd, e2, e3, p2⟩ := p1
  obtain ⟨t, rfl, dk⟩ := key_dp R1 (rd_ok R1 D1 e1)
  obtain ⟨l', kv', y1, y2, y3, _⟩ := R1.dct e2
  rw [G1.σ, q1] at y1
  cases y1
  rcases kt_get y3 (.tup ks) with ⟨f1, f2⟩ | ⟨v, d', f1, f2, rv⟩
  · rw [f2] at e3; cases e3
  · rw [f2] at e3
    cases e3
    exact ⟨l, t, .tup ks, kv', v, rfl, rfl, dk, hd, nd_at R1 y2 y3, f1, q c1 _ (.dat d) R1 G1 rv p2⟩
/-! ### sorted(d.items()) -/
def itD (p : NK × D) : D := .tup [dN p.1, p.2]
def okIt (kvs : List (NK × D)) : Prop := (∀ p ∈ kvs, pureD p.2 = true ∧ (toP (itD p)).depth ≤ 8) ∧ PySem.W.AllAlike (kvs.map fun p => toP (itD p))
def gSortIt (i : Nat) : GX := fun s Φ => ∃ kvs, s.r[i]? = some (some (.dct kvs)) ∧ okIt kvs ∧ Φ (.new (sortD (kvs.map itD))) s
theorem kt_zip {B : Hp} {ks : Kvs} {kvs : List (NK × D)} (h : Paired (KtR K.K B) ks kvs) : ∀ z ∈ ks.zip kvs, KtR K.K B z.1 z.2 := by
  induction h with
  | nil => intro z hz; cases hz
  | @cons a b l1 l2 r t ih =>
    intro z hz
    rcases List.mem_cons.mp hz with y | y
    · rw [y]; exact r
    · exact ih z y
theorem se_sortIt {i : Nat} : SE K (tCB (rSortIN K K.P K.w) (tCons (tDM0 K.P K.w (rItemsN K.P K.w) (tVar i)) tNil)) (gSortIt i) := by
  intro F hK c Φ Q R p q
  subst hK
  obtain ⟨kvs, e0, ⟨ok1, ok2⟩, p⟩ := p
  obtain ⟨l, ks, q1, q2, q3, _⟩ := R.dct e0
  refine ⟨.ref l, q1, ⟨l, ks, rfl, q2⟩, l, ks, rfl, rfl, q2, fun v hv => ?_⟩
  obtain ⟨R1, G1⟩ := R.putH (o := L2.DX.itemsO v l) hv
  have hlv : l ≠ v := ne_of_none q2 hv
  have xH : Ext c.H (upd c.H v (L2.DX.itemsO v l)) := Ext.upd hv
  have hlen := kt_len q3
  have zf : (ks.zip kvs).map (·.1) = ks := List.map_fst_zip (by omega)
  have zs : (ks.zip kvs).map (·.2) = kvs := List.map_snd_zip (by omega)
  have hz := kt_zip (K := F.bd) q3
  refine ⟨v, l, ks, (ks.zip kvs).map fun z => (V.ref z.1.2.1, z.1.2.2, toP (dN z.2.1), toP z.2.2), rfl, upd_same, by rw [upd_ne hlv]; exact q2, ?_, ?_, ?_, ?_⟩
  · rw [List.map_map]
    have := congrArg (List.map fun e : NK × Addr × V => (V.ref e.2.1, e.2.2)) zf
    rw [List.map_map] at this
    exact this.symm
  · intro z hzm
    obtain ⟨y, hy, rfl⟩ := List.mem_map.mp hzm
    obtain ⟨a1, a2, a3, a4⟩ := hz y hy
    have ym : y.2 ∈ kvs := (List.of_mem_zip hy).2
    obtain ⟨o1, o2⟩ := ok1 _ ym
    refine ⟨dp_ext (R.le.trans xH) (a3.dp (pure_dN _)), dp_ext (R.le.trans xH) (a4.dp o1), ?_⟩
    have e : toP (itD y.2) = .tuple [toP (dN y.2.1), toP y.2.2] := by simp [itD, toP, toPs]
    rw [e] at o2
    exact o2
  · have e : ((ks.zip kvs).map fun z => (V.ref z.1.2.1, z.1.2.2, toP (dN z.2.1), toP z.2.2)).map enc4 = kvs.map fun p => toP (itD p) := by
      rw [List.map_map]
      have := congrArg (List.map fun p : NK × D => toP (itD p)) zs
      rw [List.map_map] at this
      refine Eq.trans (List.map_congr_left fun z _ => ?_) this
      show PyData.tuple [toP (dN z.2.1), toP z.2.2] = toP (itD z.2)
      simp [itD, toP, toPs]
    rw [e]
    exact ok2
  · intro H' r bs x1 eb hr hH' hb
    -- the things that are new
    have hB' : ∀ a o, c.B a = some o → H' a = some o := fun a o e => x1 a o (xH a o (R.le a o e))
    let B' : Hp := fun a => if (upd c.H v (L2.DX.itemsO v l)) a = none ∧ a ≠ r then H' a else c.B a
    have xB : Ext c.B B' := fun a o e => by
      show (if (upd c.H v (L2.DX.itemsO v l)) a = none ∧ a ≠ r then H' a else c.B a) = some o
      rw [if_neg (fun z => by rw [xH a o (R.le a o e)] at z; exact absurd z.1 (fun y => nomatch y))]
      exact e
    have leB : Ext B' H' := fun a o e => by
      have e' : (if (upd c.H v (L2.DX.itemsO v l)) a = none ∧ a ≠ r then H' a else c.B a) = some o := e
      split at e'
      · exact e'
      · exact hB' a o e'
    have oldB : ∀ a o, (upd c.H v (L2.DX.itemsO v l)) a = some o → B' a = c.B a := fun a o e => by
      show (if (upd c.H v (L2.DX.itemsO v l)) a = none ∧ a ≠ r then H' a else c.B a) = c.B a
      rw [if_neg (fun z => by rw [e] at z; exact absurd z.1 (fun y => nomatch y))]
    have hrB : B' r = none := by
      show (if (upd c.H v (L2.DX.itemsO v l)) r = none ∧ r ≠ r then H' r else c.B r) = none
      rw [if_neg (fun z => z.2 rfl)]
      exact R1.notB hr
    have newB : ∀ a, (upd c.H v (L2.DX.itemsO v l)) a = none → a ≠ r → B' a = H' a := fun a e n => by
      show (if (upd c.H v (L2.DX.itemsO v l)) a = none ∧ a ≠ r then H' a else c.B a) = H' a
      rw [if_pos ⟨e, n⟩]
    have R2 : Rep F { c with B := B', H := H' } := by
      refine ⟨leB, R.len, fun j e h => ?_, R.sep, fun on => ?_⟩
      · have y := R1.at_ j e h
        cases e with
        | val d => obtain ⟨u, y1, y2⟩ := y; exact ⟨u, y1, y2.ext xB⟩
        | bag => exact y
        | _ =>
          obtain ⟨a, o, y1, y2, y3, y4, y5⟩ := y
          exact ⟨a, o, y1, x1 _ _ y2, y3.ext xB, (oldB a o y2).trans y4, y5⟩
      · obtain ⟨y1, y2, y3⟩ := R1.bag on
        obtain ⟨t, rr, g1, g2, _⟩ := id y1
        exact ⟨y1.ext x1, (oldB _ _ g1).trans y2, (oldB _ _ g2).trans y3⟩
    have G2 : GoE F c { c with B := B', H := H' } := by
      refine ⟨⟨xB, fun a o e _ => x1 a o (xH a o e), fun a e n => .inl ?_, fun a m => .inl (m.ofEq rfl rfl), fun a e => ?_⟩, rfl, fun j e h => ⟨e, h⟩⟩
      · cases q : c.H a with
        | none => rfl
        | some o => exact absurd ((oldB a o (xH a o q)).trans n) e
      · cases q : c.H a with
        | none => exact absurd q e
        | some o => show H' a ≠ none; rw [x1 a o (xH a o q)]; exact fun y => nomatch y
    have hc : c.H r = none := by
      cases q : c.H r with
      | none => rfl
      | some o => rw [xH r o q] at hr; cases hr
    -- the pairs with their data
    have lb : bs.length = kvs.length := by
      have := congrArg List.length eb
      rw [List.length_map, List.length_map, List.length_zip] at this
      omega
    have bf : (bs.zip kvs).map (·.1) = bs := List.map_fst_zip (by omega)
    have bss : (bs.zip kvs).map (·.2) = kvs := List.map_snd_zip (by omega)
    have pair : ∀ z ∈ bs.zip kvs, Rp F.K B' (.ref z.1.1) (itD z.2) ∧ enc5 z.1 = toP (itD z.2) := by
      intro z hzm
      obtain ⟨j, j1, j2⟩ := zip_get hzm
      have m := congrArg (fun l => l[j]?) eb
      have hjk : j < ks.length := by
        have := (List.getElem?_eq_some_iff.mp j2).1
        omega
      have hzz : (ks.zip kvs)[j]? = some (ks[j], z.2) := List.getElem?_zip_eq_some.mpr ⟨List.getElem?_eq_getElem hjk, j2⟩
      simp only [List.getElem?_map, j1, hzz, Option.map_some, Option.some.injEq] at m
      obtain ⟨a1, a2, a3, a4⟩ := hz _ (List.mem_of_getElem? hzz)
      obtain ⟨g1, g2, g3⟩ := hb z.1 (List.mem_of_getElem? j1)
      rw [m] at g3
      constructor
      · refine .tup (SqT.of ((newB _ g1 g2).trans g3)) (.cons (a3.ext xB) (.cons (a4.ext xB) .nil))
      · show enc4 z.1.2 = _
        rw [m]
        show PyData.tuple [toP (dN z.2.1), toP z.2.2] = toP (itD z.2)
        simp [itD, toP, toPs]
    have es1 : bs.mergeSort (PySem.W.dataLe false enc5) = ((bs.zip kvs).mergeSort fun a b => leD (itD a.2) (itD b.2)).map (·.1) := by
      rw [PySem.W.sort_maps (fun z : It5 × (NK × D) => z.1) (s := PySem.W.dataLe false enc5) (fun a ha b hb' => ?_), bf]
      show leD (itD a.2) (itD b.2) = PySem.W.dataLe false enc5 a.1 b.1
      rw [PySem.W.dataLe_eq, leD, PySem.W.dataLe_eq]
      show (!PySem.W.dataLt (toP (itD b.2)) (toP (itD a.2))) = (!PySem.W.dataLt (enc5 b.1) (enc5 a.1))
      rw [(pair a ha).2, (pair b hb').2]
    have es2 : sortD (kvs.map itD) = ((bs.zip kvs).mergeSort fun a b => leD (itD a.2) (itD b.2)).map fun z => itD z.2 := by
      unfold sortD
      rw [PySem.W.sort_maps (fun z : It5 × (NK × D) => itD z.2) (s := leD) (fun a _ b _ => rfl)]
      have := congrArg (List.map itD) bss
      rw [List.map_map] at this
      rw [← this]
      rfl
    have rr : RpA F.K B' ((bs.mergeSort (PySem.W.dataLe false enc5)).map fun b => V.ref b.1) (sortD (kvs.map itD)) := by
      rw [es1, es2, List.map_map]
      have key : ∀ L : List (It5 × (NK × D)), (∀ z ∈ L, Rp F.K B' (.ref z.1.1) (itD z.2)) → RpA F.K B' (L.map fun z => V.ref z.1.1) (L.map fun z => itD z.2) := by
        intro L
        induction L with
        | nil => intro _; exact .nil
        | cons z L ih => intro h; exact .cons (h z List.mem_cons_self) (ih fun y hy => h y (List.mem_cons_of_mem _ hy))
      exact key _ fun z hzm => (pair z ((List.mergeSort_perm _ _).mem_iff.mp hzm)).1
    refine q { c with B := B', H := H' } (.ref r) (.new (sortD (kvs.map itD))) R2 G2 ⟨r, _, rfl, hH', rr, hrB, fun m => R.notOwn hc (m.ofEq rfl rfl), R.notBag hc, hc⟩ p
/-! ### max(l, default=d) -/
def maxOr (ns : List Int) (d : Int) : Int := match ns with
  | [] => d
  | n :: ns => ns.foldl max n
def rMaxDf (K : PySem.W.Frag) : List V → List V → Hp → VK → Prop := fun xs zs H Q => ∃ (a : Addr) (ns : List Int) (d : Int), xs = [.ref a] ∧ zs = [.int d] ∧ SqL K H a (ns.map V.int) ∧ Q (.int (maxOr ns d)) H
theorem alikeAll_ints' (ns : List Int) : PySem.W.AlikeAll (ns.map PyData.int) := by
  constructor
  · intro d hd d' hd'
    obtain ⟨b, _, rfl⟩ := List.mem_map.mp hd
    obtain ⟨b', _, rfl⟩ := List.mem_map.mp hd'
    simp only [PySem.W.alike]
  · intro d hd
    obtain ⟨b, _, rfl⟩ := List.mem_map.mp hd
    intro z
    cases z
theorem reads_int {h : Heap} {v : Value} {i : Int} {as : List Addr} (r : Reads h v (.int i) as) : ∃ t, v = .int i t := by
  cases r
  exact ⟨_, rfl⟩
theorem call_maxDf {X : Cx} (hc : X.calm = true) (hu : X.A.units + 64 < cLine) : CallRK X (.builtin "max") [("default" : Str)] (rMaxDf X.K) := by
  intro pins s σ H xs zs us ws Q I r rz h
  obtain ⟨a, ns, d, rfl, rfl, hs, q⟩ := h
  obtain ⟨u, rfl, ru⟩ := vals1 r
  obtain rfl : u = Value.ref a := ru
  obtain ⟨v, rfl, rv⟩ := vals1 rz
  obtain ⟨its, rl, pl, hz⟩ := I.list hs
  have hdp : DpAll X.K H (ns.map V.int) (ns.map PyData.int) := by
    clear hs rl hz q
    induction ns with
    | nil => exact .nil
    | cons n ns ih => exact .cons (.int n) ih
  obtain ⟨as, h4⟩ := Dp.readsAll I _ _ its hdp rl
  have hd0 : PyData.depthAll (ns.map PyData.int) = 0 := PySem.W.depth_ints ns
  refine PySem.W.max_list_default (l := a) (vs := its.toArray) (xs := ns.map PyData.int) (I.ok.hd hc) pl.isList (show ReadsAll s.heap its.toArray.toList (ns.map PyData.int) as from h4) (alikeAll_ints' ns) (by rw [hd0]; omega) (fun e h' tk hk => ?_) fun y ys i v' h' tk bs e hv hr hk => ?_
  · have e' : ns = [] := by simpa using e
    subst e'
    have I1 : Inv X pins σ H { s with heap := h', toks := tk } := I.kept (t' := tk) hk
    exact ⟨.int d, H, I1, rv, q⟩
  · cases ns with
    | nil => cases e
    | cons n ns =>
      rw [List.map_cons] at e
      injection e with e1 e2
      subst e1 e2
      rw [PySem.W.maxD_ints] at hr
      obtain ⟨t, rfl⟩ := reads_int hr
      have I1 : Inv X pins σ H { s with heap := h', toks := tk } := I.kept (t' := tk) hk
      exact ⟨.int (ns.foldl max n), H, I1, ⟨t, rfl⟩, q⟩
def gMaxDf (g1 g2 : GX) : GX := fun s Φ => g1 s fun w1 s1 => ∃ ds, frz w1 s1 = some (.lst ds, s1) ∧ g2 s1 fun w2 s2 => ∃ ns d, rd (.dat (.lst ds)) s2 = some (.lst (ns.map D.int)) ∧ rd w2 s2 = some (.int d) ∧ Φ (.dat (.int (maxOr ns d))) s2
def gMaxA (ga gk : GA) : GX := fun s Φ => ga s fun ws s1 => gk s1 fun us s2 => ∃ ns d, rdA ws s2 = some [.lst (ns.map D.int)] ∧ rdA us s2 = some [.int d] ∧ Φ (.dat (.int (maxOr ns d))) s2
theorem rpa_ints {K : PySem.W.Frag} {B : Hp} {vs : List V} {ns : List Int} (r : RpA K B vs (ns.map D.int)) : vs = ns.map V.int := by
  induction ns generalizing vs with
  | nil => cases r; rfl
  | cons n ns ih =>
    rw [List.map_cons] at r
    cases r with
    | cons h t =>
      cases h
      rw [ih t]
      rfl
theorem se_maxA {t tk : TA} {ga gk : GA} (h1 : SA K t ga) (h2 : SA K tk gk) : SE K (tCKw (rMaxDf K) t tk) (gMaxA ga gk) := by
  intro F hK c Φ Q R p q
  subst hK
  refine h1 F rfl c _ _ R p fun c1 vs ws R1 G1 D1 p1 => ?_
  refine h2.run rfl G1.σ rfl R1 p1 fun c2 zs us R2 G2 D2 p2 => ?_
  obtain ⟨ns, d, e1, e2, p3⟩ := p2
  have r1 := rdA_ok R2 (DenA.keep G2 D1) e1
  have r2 := rdA_ok R2 D2 e2
  cases r1 with
  | cons a1 t1 =>
    cases t1
    cases r2 with
    | cons a2 t2 =>
      cases t2
      obtain ⟨a, vs, rfl, h1, h2⟩ := a1.lst R2
      have hv := rpa_ints h2
      subst hv
      have := a2.int
      subst this
      exact ⟨a, ns, d, rfl, rfl, SqL.of h1, q c2 _ (.dat (.int _)) R2 (G1.trans G2) (Rp.int _) p3⟩
end
end DL
set_option maxHeartbeats 2000000
/-! Defs and their calls over data. -/
namespace DL
open PySem PySem.Spec PyProof.Rows L2 Ax
abbrev GF := List D → (D → Prop) → Prop
abbrev GFB := List D → Nat → (D → Nat → Prop) → Prop
/-- a def that makes new things alone -/
def spP (K : Bd) (G : GF) : Sp := fun vs H Q _ => ∃ (B : Hp) (ds : List D) (Φ : D → Prop), Ext B H ∧ RpA K B vs ds ∧ G ds Φ ∧
  ∀ (B' H' : Hp) (v : V) (d : D), Ext B B' → Ext B' H' → Ext H H' → (∀ a, B' a ≠ none → B a = none → H a = none) → Rp K B' v d → Φ d → Q v H'
/-- a def that draws from the bag, its first argument -/
def spB (K : Bd) (G : GFB) : Sp := fun vs H Q _ => ∃ (B : Hp) (b c : Addr) (ms : List Int) (n : Nat) (us : List V) (ds : List D) (Φ : D → Nat → Prop), vs = .ref b :: us ∧ BagAt H b c ms n ∧ B b = none ∧ B c = none ∧ Ext B H ∧ RpA K B us ds ∧ G ds n Φ ∧
  ∀ (B' H' : Hp) (v : V) (d : D) (n' : Nat), Ext B B' → Ext B' H' → (∀ a o, a ≠ b → H a = some o → H' a = some o) → (∀ a, B' a ≠ none → B a = none → H a = none) → BagAt H' b c ms n' → Rp K B' v d → Φ d n' → Q v H'
section
variable {K : Bd}
theorem Rep.grow {F : Fx} {c : Cf} (R : Rep F c) {B' H' : Hp} (x1 : Ext c.B B') (x2 : Ext B' H') (x3 : Ext c.H H') (nb : ∀ a, B' a ≠ none → c.B a = none → c.H a = none) : Rep F { c with B := B', H := H' } ∧ GoE F c { c with B := B', H := H' } := by
  have out : ∀ {a : Addr} {o : HO}, c.H a = some o → c.B a = none → B' a = none := fun {a o} h1 h2 => by
    cases q : B' a with
    | none => rfl
    | some u => have := nb a (by rw [q]; exact fun z => nomatch z) h2; rw [h1] at this; cases this
  refine ⟨⟨x2, R.len, fun j e h => ?_, R.sep, fun on => ?_⟩, ⟨⟨x1, fun a o e _ => x3 a o e, fun a e n => .inl (nb a e n), fun a m => .inl (m.ofEq rfl rfl), fun a e => ?_⟩, rfl, fun j e h => ⟨e, h⟩⟩⟩
  · have y := R.at_ j e h
    cases e with
    | val d => obtain ⟨u, y1, y2⟩ := y; exact ⟨u, y1, y2.ext x1⟩
    | bag => exact y
    | _ =>
      obtain ⟨a, o, y1, y2, y3, y4, y5⟩ := y
      exact ⟨a, o, y1, x3 _ _ y2, y3.ext x1, out y2 y4, y5⟩
  · obtain ⟨y1, y2, y3⟩ := R.bag on
    obtain ⟨t, r, g1, g2, _⟩ := id y1
    exact ⟨y1.ext x3, out g1 y2, out g2 y3⟩
  · cases q : c.H a with
    | none => exact absurd q e
    | some o => show H' a ≠ none; rw [x3 a o q]; exact fun z => nomatch z
theorem Rep.growB {F : Fx} {c : Cf} (R : Rep F c) (on : F.on = true) {B' H' : Hp} {n' : Nat} (x1 : Ext c.B B') (x2 : Ext B' H') (x3 : ∀ a o, a ≠ F.b → c.H a = some o → H' a = some o) (nb : ∀ a, B' a ≠ none → c.B a = none → c.H a = none) (hb : BagAt H' F.b F.c F.ms n') :
    Rep F { c with B := B', H := H', s := { c.s with n := n' } } ∧ GoE F c { c with B := B', H := H', s := { c.s with n := n' } } := by
  have out : ∀ {a : Addr} {o : HO}, c.H a = some o → c.B a = none → B' a = none := fun {a o} h1 h2 => by
    cases q : B' a with
    | none => rfl
    | some u => have := nb a (by rw [q]; exact fun z => nomatch z) h2; rw [h1] at this; cases this
  obtain ⟨y1, y2, y3⟩ := R.bag on
  obtain ⟨t, r, g1, g2, _⟩ := id y1
  refine ⟨⟨x2, R.len, fun j e h => ?_, R.sep, fun _ => ⟨hb, out g1 y2, out g2 y3⟩⟩, ⟨⟨x1, fun a o e n => x3 a o (fun z => n (.inr ⟨on, z⟩)) e, fun a e n => .inl (nb a e n), fun a m => .inl m, fun a e => ?_⟩, rfl, fun j e h => ⟨e, h⟩⟩⟩
  · have y := R.at_ j e h
    cases e with
    | val d => obtain ⟨u, y1, y2⟩ := y; exact ⟨u, y1, y2.ext x1⟩
    | bag => exact y
    | _ =>
      obtain ⟨a, o, y1, y2, y3, y4, y5⟩ := y
      exact ⟨a, o, y1, x3 _ _ (y5 on).1 y2, y3.ext x1, out y2 y4, y5⟩
  · cases q : c.H a with
    | none => exact absurd q e
    | some o =>
      show H' a ≠ none
      by_cases z : a = F.b
      · obtain ⟨_, _, z1, _⟩ := hb
        rw [z, z1]; exact fun x => nomatch x
      · rw [x3 a o z q]; exact fun z => nomatch z
/-! ### calls -/
/-- f(e, ..), dv the defaults that fill up, dd what they are -/
def gCall (G : GF) (dd : List D) (ga : GA) : GX := fun s Φ => ga s fun ws s1 => ∃ ds s2, frzA ws s1 = some (ds, s2) ∧ G (ds ++ dd) fun d => Φ (.dat d) s2
theorem se_call {G : GF} {dv : List V} {dd : List D} {E : XK} {t : TA} {ga : GA} (hd : ∀ B : Hp, RpA K B dv dd) (h : SA K t ga) : SE K (tCall (spP K G) dv E t) (gCall G dd ga) := by
  intro F hK c Φ Q R p q
  subst hK
  refine h F rfl c _ _ R p fun c1 vs ws R1 G1 D1 p1 => ?_
  obtain ⟨ds, s2, e1, g⟩ := p1
  obtain ⟨c2, b1, b2, R2, G2, r⟩ := frzA_ok R1 D1 e1
  refine ⟨c2.B, ds ++ dd, _, by rw [← b1]; exact R2.le, r.app (hd _), g, fun B' H' v d x1 x2 x3 nb rv hΦ => ?_⟩
  rw [← b1] at x3 nb
  obtain ⟨R3, G3⟩ := R2.grow x1 x2 x3 nb
  exact q _ v (.dat d) R3 ((G1.trans G2).trans G3) rv (by rw [← b2] at hΦ; exact hΦ)
/-- f(e, .., k=e) -/
def gCallKw (G : GF) (gV : List D → List D → List D) (ga gk : GA) : GX := fun s Φ => ga s fun ws s1 => gk s1 fun us s2 => ∃ ds es s3 s4, frzA ws s2 = some (ds, s3) ∧ frzA us s3 = some (es, s4) ∧ G (gV ds es) fun d => Φ (.dat d) s4
theorem se_callKw {G : GF} {gV : List V → List V → List V} {gD : List D → List D → List D} {E : XK} {t tk : TA} {ga gk : GA} (hg : ∀ (B : Hp) (vs zs : List V) (ds es : List D), RpA K B vs ds → RpA K B zs es → RpA K B (gV vs zs) (gD ds es)) (h : SA K t ga) (h2 : SA K tk gk) : SE K (tCallK (spP K G) gV E t tk) (gCallKw G gD ga gk) := by
  intro F hK c Φ Q R p q
  subst hK
  refine h F rfl c _ _ R p fun c1 vs ws R1 G1 D1 p1 => ?_
  refine h2.run rfl G1.σ rfl R1 p1 fun c2 zs us R2 G2 D2 p2 => ?_
  obtain ⟨ds, es, s3, s4, e1, e2, g⟩ := p2
  obtain ⟨c3, b1, b2, R3, G3, r⟩ := frzA_ok R2 (DenA.keep G2 D1) e1
  obtain ⟨c4, b3, b4, R4, G4, r'⟩ := frzA_ok R3 (DenA.keep G3 D2) (by rw [b2]; exact e2)
  have bH : c4.H = c2.H := b3.trans b1
  refine ⟨c4.B, gD ds es, _, by rw [← bH]; exact R4.le, hg _ _ _ _ _ (r.ext G4.go.b) r', g, fun B' H' v d x1 x2 x3 nb rv hΦ => ?_⟩
  rw [← bH] at x3 nb
  obtain ⟨R5, G5⟩ := R4.grow x1 x2 x3 nb
  exact q _ v (.dat d) R5 ((((G1.trans G2).trans G3).trans G4).trans G5) rv (by rw [← b4] at hΦ; exact hΦ)
/-- f(e, ..): the lists of one's own stay so, the answer is flat -/
def flatD : D → Bool
  | .lst _ => false
  | .tup _ => false
  | .ins _ _ _ => false
  | _ => true
theorem flat_rp {K : PySem.W.Frag} {B B' : Hp} {v : V} {d : D} (h : Rp K B v d) (f : flatD d = true) : Rp K B' v d := by
  cases h with
  | non => exact .non
  | bl b => exact .bl b
  | int i => exact .int i
  | str x => exact .str x
  | _ => cases f
def gPeek (G : GF) (dd : List D) (ga : GA) : GX := fun s Φ => ga s fun ws s1 => ∃ ds, rdA ws s1 = some ds ∧ G (ds ++ dd) fun d => flatD d = true ∧ Φ (.dat d) s1
theorem rq_all {F : Fx} {c : Cf} (R : Rep F c) : ∀ {vs : List V} {ds : List D}, Paired (Rq F c) vs ds → RpA F.K c.H vs ds
  | _, _, .nil => .nil
  | _, _, .cons h t => .cons (h.rp R) (rq_all R t)
theorem se_peek {G : GF} {dv : List V} {dd : List D} {E : XK} {t : TA} {ga : GA} (hd : ∀ B : Hp, RpA K B dv dd) (h : SA K t ga) : SE K (tCall (spP K G) dv E t) (gPeek G dd ga) := by
  intro F hK c Φ Q R p q
  subst hK
  refine h F rfl c _ _ R p fun c1 vs ws R1 G1 D1 p1 => ?_
  obtain ⟨ds, e1, g⟩ := p1
  refine ⟨c1.H, ds ++ dd, _, Ext.rfl', (rq_all R1 (rdA_ok R1 D1 e1)).app (hd _), g, fun B' H' v d x1 x2 x3 nb rv hΦ => ?_⟩
  obtain ⟨R3, G3⟩ := R1.grow (B' := c1.B) (H' := H') Ext.rfl' (R1.le.trans x3) x3 (fun a e n => absurd n e)
  exact q _ v (.dat d) R3 (G1.trans G3) (flat_rp rv hΦ.1) hΦ.2
/-- f(bag, e, ..) -/
def gCallB (i : Nat) (G : GFB) (ga : GA) : GX := fun s Φ => s.r[i]? = some (some .bag) ∧ ga s fun ws s1 => ∃ ds s2, frzA ws s1 = some (ds, s2) ∧ G ds s2.n fun d n' => Φ (.dat d) { s2 with n := n' }
theorem se_callB {i : Nat} {G : GFB} {E : XK} {t : TA} {ga : GA} (h : SA K t ga) : SE K (tCall (spB K G) [] E (tCons (tVar i) t)) (gCallB i G ga) := by
  intro F hK c Φ Q R p q
  subst hK
  obtain ⟨hi, p⟩ := p
  have y := R.at_ i _ hi
  have on : F.on = true := y.1
  have y2 : c.σ[i]? = some (some (.ref F.b)) := y.2
  refine ⟨.ref F.b, y2, h F rfl c _ _ R p fun c1 vs ws R1 G1 D1 p1 => ?_⟩
  obtain ⟨ds, s2, e1, g⟩ := p1
  obtain ⟨c2, b1, b2, R2, G2, r⟩ := frzA_ok R1 D1 e1
  obtain ⟨z1, z2, z3⟩ := R2.bag on
  rw [← b2] at g
  refine ⟨c2.B, F.b, F.c, F.ms, c2.s.n, vs, ds, _, by rw [List.append_nil], by rw [← b1]; exact z1, z2, z3, by rw [← b1]; exact R2.le, r, g, fun B' H' v d n' x1 x2 x3 nb hb rv hΦ => ?_⟩
  rw [← b1] at x3 nb
  obtain ⟨R3, G3⟩ := R2.growB on x1 x2 x3 nb hb
  exact q _ v (.dat d) R3 ((G1.trans G2).trans G3) rv hΦ
/-! ### what a def gives back -/
theorem outB {F : Fx} {c0 c' : Cf} {v : V} {w : W} {d : D} {s' : Stt} (R : Rep F c') (g : Go F c0 c') (n0 : ∀ a, ¬ Own c0 a) (h : Den F c0.H c' v w) (e : frz w c'.s = some (d, s')) :
    ∃ B', Ext c'.B B' ∧ Ext B' c'.H ∧ Rp F.K B' v d ∧ ∀ a, B' a ≠ none → c0.B a = none → c0.H a = none := by
  have base : ∀ a, c'.B a ≠ none → c0.B a = none → c0.H a = none := fun a e n => (g.nb a e n).elim id fun z => absurd z (n0 a)
  have one : ∀ (l : Addr) (vs : List V) (ds : List D), c'.H l = some (.lst vs) → RpA F.K c'.B vs ds → c'.B l = none → c0.H l = none →
      ∃ B', Ext c'.B B' ∧ Ext B' c'.H ∧ Rp F.K B' (.ref l) (.lst ds) ∧ ∀ a, B' a ≠ none → c0.B a = none → c0.H a = none := by
    intro l vs ds h1 h2 h3 h4
    have xB : Ext c'.B (upd c'.B l (.lst vs)) := Ext.upd h3
    refine ⟨upd c'.B l (.lst vs), xB, fun a u e => ?_, .lst upd_same (h2.ext xB), fun a e n => ?_⟩
    · by_cases z : a = l
      · rw [z, upd_same] at e
        rw [z, h1]; exact e
      · rw [upd_ne z] at e
        exact R.le a u e
    · by_cases z : a = l
      · rw [z]; exact h4
      · rw [upd_ne z] at e
        exact base a e n
  cases w with
  | dat d' =>
    simp only [frz, Option.some.injEq, Prod.mk.injEq] at e
    obtain ⟨rfl, rfl⟩ := e
    exact ⟨c'.B, Ext.rfl', R.le, h, base⟩
  | loc i =>
    obtain ⟨h1, en, h2⟩ := h
    simp only [frz, h2] at e
    cases en with
    | val d' =>
      simp only [Option.some.injEq, Prod.mk.injEq] at e
      obtain ⟨rfl, rfl⟩ := e
      obtain ⟨v', q1, q2⟩ := R.at_ i _ h2
      rw [h1] at q1
      cases q1
      exact ⟨c'.B, Ext.rfl', R.le, q2, base⟩
    | own ds =>
      simp only [Option.some.injEq, Prod.mk.injEq] at e
      obtain ⟨rfl, rfl⟩ := e
      obtain ⟨l, o, q1, q2, ⟨vs, rfl, q3⟩, q4, q5⟩ := R.at_ i _ h2
      rw [h1] at q1
      cases q1
      exact one l vs ds q2 q3 q4 ((g.ow l ⟨i, _, h2, rfl, h1⟩).elim (fun z => absurd z (n0 l)) id)
    | _ => cases e
  | new ds =>
    simp only [frz, Option.some.injEq, Prod.mk.injEq] at e
    obtain ⟨rfl, rfl⟩ := e
    obtain ⟨l, vs, rfl, h2, h3, h4, h5, h6, h7⟩ := h
    exact one l vs ds h2 h3 h4 h7
def startD (N : List Str) (ds : List D) : List (Option En) := ds.map (fun d => some (.val d)) ++ List.replicate (N.length - ds.length) none
def retD (Φ : D → Prop) : EndsD := { nx := fun _ => Φ .non, rt := fun w s => ∃ d s', frz w s = some (d, s') ∧ Φ d }
theorem start_get {K : PySem.W.Frag} {B : Hp} {N : List Str} {vs : List V} {ds : List D} (r : RpA K B vs ds) {i : Nat} {e : En} (h : (startD N ds)[i]? = some (some e)) : ∃ d v, e = .val d ∧ (L2.start N vs)[i]? = some (some v) ∧ Rp K B v d := by
  unfold startD at h
  by_cases c : i < ds.length
  · rw [List.getElem?_append_left (by rw [List.length_map]; exact c), List.getElem?_map, List.getElem?_eq_getElem c] at h
    obtain ⟨v, h1, h2⟩ := r.getD (List.getElem?_eq_getElem c)
    refine ⟨ds[i], v, by cases h; rfl, ?_, h2⟩
    unfold L2.start
    rw [List.getElem?_append_left (by rw [List.length_map, r.len]; exact c), List.getElem?_map, h1]
    rfl
  · rw [List.getElem?_append_right (by rw [List.length_map]; omega), List.getElem?_replicate] at h
    split at h
    · cases h
    · cases h
theorem start_len {K : PySem.W.Frag} {B : Hp} {N : List Str} {vs : List V} {ds : List D} (r : RpA K B vs ds) : (L2.start N vs).length = (startD N ds).length := by
  simp [L2.start, startD, r.len]
/-- a def's body is right -/
theorem body_ok {t : TS} {g : GS} {N : List Str} {G : GF} (ss : SS K t g) (hG : ∀ ds Φ, G ds Φ → g ⟨startD N ds, 0⟩ (retD Φ)) {vs : List V} {H : Hp} {Q : VK} {E : XK} (h : spP K G vs H Q E) : t { nx := fun _ H' => Q .non H', rt := Q } (L2.start N vs) H := by
  obtain ⟨B, ds, Φ, x, r, g0, q⟩ := h
  have R0 : Rep ⟨K, 0, 0, [], false⟩ ⟨B, H, L2.start N vs, ⟨startD N ds, 0⟩⟩ := by
    refine ⟨x, start_len r, fun i e h => ?_, fun i j ei ej l h1 o1 _ _ _ _ => ?_, fun on => by cases on⟩
    · obtain ⟨d, v, rfl, h1, h2⟩ := start_get r h
      exact ⟨v, h1, h2⟩
    · obtain ⟨d, v, rfl, _⟩ := start_get r h1
      cases o1
  have n0 : ∀ a, ¬ Own ⟨B, H, L2.start N vs, ⟨startD N ds, 0⟩⟩ a := by
    rintro a ⟨i, e, h1, o1, _⟩
    obtain ⟨d, v, rfl, _⟩ := start_get r h1
    cases o1
  refine ss ⟨K, 0, 0, [], false⟩ rfl ⟨B, H, L2.start N vs, ⟨startD N ds, 0⟩⟩ _ (retD Φ) R0 (hG ds Φ g0) ⟨fun c' R' G' p => ?_, fun c' v w R' G' D' p => ?_, fun c' R' G' p => p.elim, fun c' R' G' p => p.elim⟩
  · exact q c'.B c'.H .non .non G'.b R'.le (fun a o e => G'.fr a o e fun m => m.elim (n0 a) fun z => by cases z.1) (fun a e n => (G'.nb a e n).elim id fun z => absurd z (n0 a)) .non p
  · obtain ⟨d, s', e, hΦ⟩ := p
    obtain ⟨B', b1, b2, b3, b4⟩ := outB R' G' n0 D' e
    exact q B' c'.H v d (G'.b.trans b1) b2 (fun a o e => G'.fr a o e fun m => m.elim (n0 a) fun z => by cases z.1) b4 b3 hΦ
def startB (N : List Str) (ds : List D) : List (Option En) := some .bag :: startD N.tail ds
def retB (Φ : D → Nat → Prop) : EndsD := { nx := fun s => Φ .non s.n, rt := fun w s => ∃ d s', frz w s = some (d, s') ∧ Φ d s'.n }
theorem frz_n {w : W} {s s' : Stt} {d : D} (h : frz w s = some (d, s')) : s'.n = s.n := by
  cases w with
  | dat d => cases Option.some.inj h; rfl
  | loc i =>
    simp only [frz] at h
    split at h
    · cases Option.some.inj h; rfl
    · cases Option.some.inj h; rfl
    · cases h
  | new ds => cases Option.some.inj h; rfl
theorem body_okB {t : TS} {g : GS} {x : Str} {N : List Str} {G : GFB} (ss : SS K t g) (hG : ∀ ds n Φ, G ds n Φ → g ⟨startB (x :: N) ds, n⟩ (retB Φ)) {vs : List V} {H : Hp} {Q : VK} {E : XK} (h : spB K G vs H Q E) : t { nx := fun _ H' => Q .non H', rt := Q } (L2.start (x :: N) vs) H := by
  obtain ⟨B, b, c, ms, n, us, ds, Φ, rfl, hb, b0, c0, xB, r, g0, q⟩ := h
  have es : L2.start (x :: N) (.ref b :: us) = some (.ref b) :: L2.start N us := by
    simp [L2.start]
  rw [es]
  have at0 : ∀ (i : Nat) (e : En), (startB (x :: N) ds)[i]? = some (some e) → (i = 0 ∧ e = .bag) ∨ ∃ j d v, i = j + 1 ∧ e = .val d ∧ (L2.start N us)[j]? = some (some v) ∧ Rp K B v d := by
    intro i e h
    cases i with
    | zero => exact .inl ⟨rfl, by simpa [startB] using h.symm⟩
    | succ j =>
      have h' : (startD N ds)[j]? = some (some e) := by simpa [startB] using h
      obtain ⟨d, v, h1, h2, h3⟩ := start_get r h'
      exact .inr ⟨j, d, v, rfl, h1, h2, h3⟩
  have noOwn : ∀ (i : Nat) (e : En), (startB (x :: N) ds)[i]? = some (some e) → e.isOwn = true → False := by
    intro i e h o
    rcases at0 i e h with ⟨_, rfl⟩ | ⟨_, _, _, _, rfl, _⟩ <;> cases o
  have R0 : Rep ⟨K, b, c, ms, true⟩ ⟨B, H, some (.ref b) :: L2.start N us, ⟨startB (x :: N) ds, n⟩⟩ := by
    refine ⟨xB, ?_, fun i e h => ?_, fun i j ei ej l h1 o1 _ _ _ _ => (noOwn i ei h1 o1).elim, fun _ => ⟨hb, b0, c0⟩⟩
    · show (some (V.ref b) :: L2.start N us).length = (startB (x :: N) ds).length
      simp [startB, start_len (N := N) r]
    · rcases at0 i e h with ⟨rfl, rfl⟩ | ⟨j, d, v, rfl, rfl, h1, h2⟩
      · exact ⟨rfl, rfl⟩
      · exact ⟨v, by simpa using h1, h2⟩
  have n0 : ∀ a, ¬ Own ⟨B, H, some (.ref b) :: L2.start N us, ⟨startB (x :: N) ds, n⟩⟩ a := by
    rintro a ⟨i, e, h1, o1, _⟩
    exact noOwn i e h1 o1
  have fr : ∀ {c' : Cf}, Go ⟨K, b, c, ms, true⟩ ⟨B, H, some (.ref b) :: L2.start N us, ⟨startB (x :: N) ds, n⟩⟩ c' → ∀ a o, a ≠ b → H a = some o → c'.H a = some o := fun G' a o ne e => G'.fr a o e fun m => m.elim (n0 a) fun z => ne z.2
  refine ss ⟨K, b, c, ms, true⟩ rfl _ _ (retB Φ) R0 (hG ds n Φ g0) ⟨fun c' R' G' p => ?_, fun c' v w R' G' D' p => ?_, fun c' R' G' p => p.elim, fun c' R' G' p => p.elim⟩
  · exact q c'.B c'.H .non .non c'.s.n G'.b R'.le (fr G') (fun a e n => (G'.nb a e n).elim id fun z => absurd z (n0 a)) (R'.bag rfl).1 .non p
  · obtain ⟨d, s', e, hΦ⟩ := p
    obtain ⟨B', b1, b2, b3, b4⟩ := outB R' G' n0 D' e
    rw [frz_n e] at hΦ
    exact q B' c'.H v d c'.s.n (G'.b.trans b1) b2 (fr G') b4 (R'.bag rfl).1 b3 hΦ
end
end DL
set_option maxHeartbeats 1000000
namespace DL
open PySem PySem.Spec PyProof.Rows L2 Ax
theorem iteFd {c : Prop} [Decidable c] {A B : Prop} (hc : ¬ c) (h : B) : if decide c = true then A else B := by
  rw [decide_eq_false hc]
  exact iteF h
theorem iteTd {c : Bool} {A B : Prop} (hc : c = true) (h : A) : if c = true then A else B := by
  rw [if_pos hc]
  exact h
theorem iteFd' {c : Bool} {A B : Prop} (hc : c = false) (h : B) : if c = true then A else B := by
  rw [hc]
  exact iteF h
/-- all but a stays -/
def Off (a : Addr) (H H' : Hp) : Prop := ∀ b o, b ≠ a → H b = some o → H' b = some o
theorem Ext.off {H H' : Hp} {a : Addr} (e : Ext H H') : Off a H H' := fun b o _ h => e b o h
theorem Off.upd {H H' : Hp} {a : Addr} {o : HO} (e : Off a H H') : Off a H (upd H' a o) := fun b u hb h => by
  rw [upd_ne hb]
  exact e b u hb h
theorem Off.trans {H H1 H2 : Hp} {a : Addr} (e : Off a H H1) (e2 : Off a H1 H2) : Off a H H2 := fun b o hb h => e2 b o hb (e b o hb h)
theorem off_upd {H : Hp} {a : Addr} {o : HO} : Off a H (upd H a o) := (Ext.off Ext.rfl').upd
theorem cut_to (xs : List V) (k : Nat) : cutV xs none (some (k : Int)) = xs.take k := by
  unfold cutV
  rw [HT.sIx_nat, HT.sIx_none, List.drop_zero, Nat.sub_zero]
  by_cases h : k ≤ xs.length
  · rw [Nat.min_eq_left h]
  · rw [Nat.min_eq_right (by omega), List.take_of_length_le (Nat.le_refl _), List.take_of_length_le (by omega)]
theorem mod_lt {a l : Int} (h : 1 ≤ l) : 0 ≤ a % l ∧ a % l < l := ⟨Int.emod_nonneg _ (by omega), Int.emod_lt_of_pos _ (by omega)⟩
theorem Room.u65 {k : Nat} {A : Around} (r : Room k A) : A.units + 65 < cLine := by have := r.un; omega
end DL
set_option maxHeartbeats 2000000
/-! What the written terms use. -/
namespace DL
open PySem PySem.Spec PyProof.Rows L2 Ax
section
variable {X : Cx}
def rAddA (K : PySem.W.Frag) : R2 := fun x y H Q => (rI0 fun i j => .int (i + j)) x y H Q ∨ (rCat x y H Q ∨ rCatA K x y H Q)
theorem opAddA : OpR X (binaryOp .Add) (rAddA X.K) := OpR.or op_add (OpR.or op_cat op_catA)
def fAdd : D → D → Option W := orF (fI fun i j => i + j) (orF fCat fCatT)
theorem os_add {K : Bd} : OpS K (rAddA K) fAdd := OpS.or (os_I _) (OpS.or os_cat os_catT)
def fNeg : D → Option W
  | .int i => some (.dat (.int (-i)))
  | _ => none
theorem us_neg {K : Bd} : UnS K (rU fun i => .int (-i)) fNeg := by
  intro F hK c x d w Q R hx hf q
  cases d with
  | int i =>
    cases Option.some.inj hf
    exact ⟨i, hx.int, q c _ R GoE.rfl' rfl (Rp.int _)⟩
  | _ => cases hf
instance (i j : Int) : Decidable (CMulW i j) := by unfold CMulW; infer_instance
theorem RpA.length {K : PySem.W.Frag} {B : Hp} {vs : List V} {ds : List D} (r : RpA K B vs ds) : vs.length = ds.length := r.len
theorem lenP {K : Bd} {G : GF} {n : Nat} {vs : List V} {H : Hp} {Q : VK} {E : XK} (h : spP K G vs H Q E) (hl : ∀ ds Φ, G ds Φ → ds.length = n) : vs.length = n := by
  obtain ⟨B, ds, Φ, _, r, g, _⟩ := h
  rw [r.len]; exact hl ds Φ g
theorem lenB {K : Bd} {G : GFB} {m : Nat} {vs : List V} {H : Hp} {Q : VK} {E : XK} (h : spB K G vs H Q E) (hl : ∀ ds n Φ, G ds n Φ → ds.length = m) : vs.length = m + 1 := by
  obtain ⟨B, b, c, ms, n, us, ds, Φ, rfl, _, _, _, _, r, g, _⟩ := h
  rw [List.length_cons, r.len, hl ds n Φ g]
theorem mk_body {body : List Stmt} {t : TS} {D : Ends} {σ : L2.St} {H : Hp} (q : t D σ H) (p : PSs X body t) : ∃ t, PSs X body t ∧ t D σ H := ⟨t, p, q⟩
/-- a def whose defaults fill up -/
def DnD (P : Program) (w : World) (K : PySem.W.Frag) (mg : Str → Option Value) (base : Heap) (CX : CXT) (k : Nat) (x : Str) (ps : List Str) (dvs : List V) (sp : Sp) : Prop :=
  ∃ (f : Addr) (fd : FuncData) (ds : List Value), FnOk P w K mg base CX k f fd ps sp ∧ mg x = some (.ref f) ∧ PySem.W.keepIn K (.ref f) = true ∧ Vals dvs ds ∧ Binds K fd ps ds
/-- a def called by keywords, n values ahead of them -/
def DnK (P : Program) (w : World) (K : PySem.W.Frag) (mg : Str → Option Value) (base : Heap) (CX : CXT) (k : Nat) (x : Str) (ps : List Str) (n : Nat) (ks : List Str) (gV : List V → List V → List V) (sp : Sp) : Prop :=
  ∃ (f : Addr) (fd : FuncData) (g : List Value → List Value → List Value), FnOk P w K mg base CX k f fd ps sp ∧ mg x = some (.ref f) ∧ PySem.W.keepIn K (.ref f) = true ∧ KBn K fd ps n ks g gV
section
variable {CX : CXT} {k n : Nat} {ps ks : List Str} {dvs : List V} {sp : Sp} {E : XK} {x : Str} {p pos : Pos} {e : Expr} {es : List Expr} {kws : List Keyword} {t tk : TA} {gV : List V → List V → List V}
theorem pe_dnD (D : DnD X.prog X.w X.K X.mg X.base CX k x ps dvs sp) (hr : Room k X.A) (hg : Gl X x) (hx : Passes CX X E) (ha : PA X (e :: es) t) (hdb : (x == ("__debug__" : Str)) = false := by decide)
    (he : starEach (e :: es) X.env = (false, eval e X.env) :: starEach es X.env := by rfl) (hpl : (backTo pos (starEach es X.env)).any (·.1) = false := by rfl) :
    PE X (.Call (.Name x p) (e :: es) [] pos) (tCall sp dvs E t) := by
  obtain ⟨f, fd, ds, F, hm, hk, hd, hb⟩ := D
  exact pe_call F hr hg hm hk hb hd hx ha hdb he hpl
theorem pe_dnK (D : DnK X.prog X.w X.K X.mg X.base CX k x ps n ks gV sp) (hr : Room k X.A) (hg : Gl X x) (hx : Passes CX X E) (ha : PA X (e :: es) t) (hkw : PK X kws tk)
    (hall : (backToKw pos (keywordEach kws X.env)).all (·.1.isSome) = true := by rfl) (hks : (backToKw pos (keywordEach kws X.env)).filterMap (·.1) = ks := by rfl)
    (hdb : (x == ("__debug__" : Str)) = false := by decide) (he : starEach (e :: es) X.env = (false, eval e X.env) :: starEach es X.env := by rfl)
    (hpl : ((backTo pos (starEach (e :: es) X.env)).any (·.1) || (backToKw pos (keywordEach kws X.env)).any (·.1.isNone)) = false := by rfl) :
    PE X (.Call (.Name x p) (e :: es) kws pos) (tCallN n ks.length sp gV E t tk) := by
  obtain ⟨f, fd, g, F, hm, hk, hb⟩ := D
  exact pe_callN F hr hg hm hk hb hx ha hkw hall hks hdb he hpl
end
end
section
variable {K : Bd}
theorem frzA_len : ∀ {ws : List W} {s s' : Stt} {ds : List D}, frzA ws s = some (ds, s') → ds.length = ws.length
  | [], s, s', ds, h => by
    simp only [frzA, Option.some.injEq, Prod.mk.injEq] at h
    rw [← h.1]; rfl
  | w :: ws, s, s', ds, h => by
    simp only [frzA] at h
    split at h
    · rename_i d s1 e1
      split at h
      · rename_i ds' s2 e2
        simp only [Option.some.injEq, Prod.mk.injEq] at h
        rw [← h.1, List.length_cons, List.length_cons, frzA_len e2]
      · cases h
    · cases h
def gCallN (n m : Nat) (G : GF) (gV : List D → List D → List D) (ga gk : GA) : GX := fun s Φ => ga s fun ws s1 => gk s1 fun us s2 => ∃ ds es s3 s4, frzA ws s2 = some (ds, s3) ∧ frzA us s3 = some (es, s4) ∧ ds.length = n ∧ es.length = m ∧ G (gV ds es) fun d => Φ (.dat d) s4
theorem se_callN {n m : Nat} {G : GF} {gV : List V → List V → List V} {gD : List D → List D → List D} {E : XK} {t tk : TA} {ga gk : GA} (hg : ∀ (B : Hp) (vs zs : List V) (ds es : List D), RpA K B vs ds → RpA K B zs es → RpA K B (gV vs zs) (gD ds es)) (h : SA K t ga) (h2 : SA K tk gk) : SE K (tCallN n m (spP K G) gV E t tk) (gCallN n m G gD ga gk) := by
  intro F hK c Φ Q R p q
  subst hK
  refine h F rfl c _ _ R p fun c1 vs ws R1 G1 D1 p1 => ?_
  refine h2.run rfl G1.σ rfl R1 p1 fun c2 zs us R2 G2 D2 p2 => ?_
  obtain ⟨ds, es, s3, s4, e1, e2, l1, l2, g⟩ := p2
  have lw := (DenA.keep G2 D1).len
  have lz := D2.len
  obtain ⟨c3, b1, b2, R3, G3, r⟩ := frzA_ok R2 (DenA.keep G2 D1) e1
  obtain ⟨c4, b3, b4, R4, G4, r'⟩ := frzA_ok R3 (DenA.keep G3 D2) (by rw [b2]; exact e2)
  have bH : c4.H = c2.H := b3.trans b1
  refine ⟨by rw [lw, ← frzA_len e1, l1], by rw [lz, ← frzA_len e2, l2], c4.B, gD ds es, _, by rw [← bH]; exact R4.le, hg _ _ _ _ _ (r.ext G4.go.b) r', g, fun B' H' v d x1 x2 x3 nb rv hΦ => ?_⟩
  rw [← bH] at x3 nb
  obtain ⟨R5, G5⟩ := R4.grow x1 x2 x3 nb
  exact q _ v (.dat d) R5 ((((G1.trans G2).trans G3).trans G4).trans G5) rv (by rw [← b4] at hΦ; exact hΦ)
end
end DL
set_option maxHeartbeats 2000000
/-! A Hook: facts by names, defs, one more Bool, over what the names reach and the interpreter's statics. -/
namespace Ax
open PySem PySem.Spec PyProof.Rows L2 He
def asY (g : Addr → Option Obj) (n : Nat) : List Addr := asD g n ++ [cStatics]
def SaysY (fa : List Fa) (fn : List DefD) (ex : PySem.W.Frag → Bool) (K : PySem.W.Frag) : Prop := SaysD fa fn K ∧ ex K = true
abbrev AlY : Type := AlD × Bool
def obsY (n : Nat) (fa : List Fa) (fn : List DefD) (ex : PySem.W.Frag → Bool) (g : Addr → Option Obj) : AlY := (obsD fa fn (frG g (asY g n)), ex (frG g (asY g n)))
def valY (fn : List DefD) : AlY := (valD fn, true)
def hookY (n : Nat) (fa : List Fa) (fn : List DefD) (ex : PySem.W.Frag → Bool) : PySem.W.Hook where
  α := AlY
  obs := fun s => obsY n fa fn ex s.heap.get?
  val := fun _ => valY fn
  says := fun _ h => ∃ K : PySem.W.Frag, K.In h ∧ SaysY fa fn ex K
  of := fun _ _ e => ⟨_, frG_in, congrArg (fun z : AlY => z.1) e, congrArg (fun z : AlY => z.2) e⟩
  keeps := fun _ _ _ ⟨K, hK, c⟩ k => ⟨K, PySem.W.Frag.In.keeps hK k, c⟩
theorem obsY_eq {n : Nat} {fa : List Fa} {fn : List DefD} {ex : PySem.W.Frag → Bool} {g : Addr → Option Obj} {s : Shared} (h : ∀ a, g a = s.heap.get? a) : obsY n fa fn ex g = (hookY n fa fn ex).obs s := by
  have e : g = s.heap.get? := funext h
  rw [e] <;> rfl
end Ax
set_option maxHeartbeats 0
/-! The head of k23: what stands where. -/
namespace K23
open PySem PySem.Spec PyProof.Rows L2
def top (i : Nat) : Stmt := PySem.Challenge.pw_askedtrue_k23_whole_sure_in_all_ways_to.main.body.getD i (.Pass ⟨0, 0, 0, 0⟩)
abbrev s_told_counts : Stmt := top 1
def d_told_counts : He.DefD := ⟨("told_counts", none), "told_counts", "told_counts", defArgs s_told_counts, defBody s_told_counts, defScope s_told_counts, [.non], []⟩
abbrev n_told_counts : List Str := ["copies", "name", "key", "counts", "copy", "entry"]
theorem sc_told_counts : FnScope n_told_counts ["copies", "name", "key"] (defScope s_told_counts) := ⟨rfl, rfl, rfl, by decide +kernel, rfl, by decide +kernel, by decide +kernel⟩
abbrev s_sure_entry : Stmt := top 2
def d_sure_entry : He.DefD := ⟨("sure_entry", none), "sure_entry", "sure_entry", defArgs s_sure_entry, defBody s_sure_entry, defScope s_sure_entry, [], []⟩
abbrev n_sure_entry : List Str := ["counts", "could", "fitting", "total", "at", "entry", "_", "others", "number", "place"]
theorem sc_sure_entry : FnScope n_sure_entry ["counts", "could"] (defScope s_sure_entry) := ⟨rfl, rfl, rfl, by decide +kernel, rfl, by decide +kernel, by decide +kernel⟩
abbrev s_law_bag : Stmt := top 4
def d_law_bag : He.DefD := ⟨("_law_bag", none), "_law_bag", "_law_bag", defArgs s_law_bag, defBody s_law_bag, defScope s_law_bag, [], []⟩
abbrev n_law_bag : List Str := ["script", "cells", "cell"]
theorem sc_law_bag : FnScope n_law_bag ["script"] (defScope s_law_bag) := ⟨rfl, rfl, rfl, by decide +kernel, rfl, by decide +kernel, by decide +kernel⟩
abbrev s_law_draw : Stmt := top 5
def d_law_draw : He.DefD := ⟨("_law_draw", none), "_law_draw", "_law_draw", defArgs s_law_draw, defBody s_law_draw, defScope s_law_draw, [], []⟩
abbrev n_law_draw : List Str := ["bag", "limit", "digit", "turn", "cells", "cell", "mixed"]
theorem sc_law_draw : FnScope n_law_draw ["bag", "limit"] (defScope s_law_draw) := ⟨rfl, rfl, rfl, by decide +kernel, rfl, by decide +kernel, by decide +kernel⟩
abbrev s_law_is_whole : Stmt := top 6
def d_law_is_whole : He.DefD := ⟨("_law_is_whole", none), "_law_is_whole", "_law_is_whole", defArgs s_law_is_whole, defBody s_law_is_whole, defScope s_law_is_whole, [], []⟩
abbrev n_law_is_whole : List Str := ["thing"]
theorem sc_law_is_whole : FnScope n_law_is_whole ["thing"] (defScope s_law_is_whole) := ⟨rfl, rfl, rfl, by decide +kernel, rfl, by decide +kernel, by decide +kernel⟩
abbrev s_law_is_entry : Stmt := top 7
def d_law_is_entry : He.DefD := ⟨("_law_is_entry", none), "_law_is_entry", "_law_is_entry", defArgs s_law_is_entry, defBody s_law_is_entry, defScope s_law_is_entry, [], []⟩
abbrev n_law_is_entry : List Str := ["thing", "number"]
theorem sc_law_is_entry : FnScope n_law_is_entry ["thing"] (defScope s_law_is_entry) := ⟨rfl, rfl, rfl, by decide +kernel, rfl, by decide +kernel, by decide +kernel⟩
abbrev s_law_counted : Stmt := top 8
def d_law_counted : He.DefD := ⟨("_law_counted", none), "_law_counted", "_law_counted", defArgs s_law_counted, defBody s_law_counted, defScope s_law_counted, [], []⟩
abbrev n_law_counted : List Str := ["entries", "ordered", "place", "entry"]
theorem sc_law_counted : FnScope n_law_counted ["entries"] (defScope s_law_counted) := ⟨rfl, rfl, rfl, by decide +kernel, rfl, by decide +kernel, by decide +kernel⟩
abbrev s_law_told_of : Stmt := top 9
def d_law_told_of : He.DefD := ⟨("_law_told_of", none), "_law_told_of", "_law_told_of", defArgs s_law_told_of, defBody s_law_told_of, defScope s_law_told_of, [], []⟩
abbrev n_law_told_of : List Str := ["copies", "name", "key", "found", "copy", "entry"]
theorem sc_law_told_of : FnScope n_law_told_of ["copies", "name", "key"] (defScope s_law_told_of) := ⟨rfl, rfl, rfl, by decide +kernel, rfl, by decide +kernel, by decide +kernel⟩
abbrev s_law_marked_copy : Stmt := top 10
def d_law_marked_copy : He.DefD := ⟨("_law_marked_copy", none), "_law_marked_copy", "_law_marked_copy", defArgs s_law_marked_copy, defBody s_law_marked_copy, defScope s_law_marked_copy, [], []⟩
abbrev n_law_marked_copy : List Str := ["bag", "name", "wide", "twice", "found", "key", "place"]
theorem sc_law_marked_copy : FnScope n_law_marked_copy ["bag", "name", "wide", "twice"] (defScope s_law_marked_copy) := ⟨rfl, rfl, rfl, by decide +kernel, rfl, by decide +kernel, by decide +kernel⟩
abbrev s_law_only_in_all_ways : Stmt := top 11
def d_law_only_in_all_ways : He.DefD := ⟨("_law_only_in_all_ways", none), "_law_only_in_all_ways", "_law_only_in_all_ways", defArgs s_law_only_in_all_ways, defBody s_law_only_in_all_ways, defScope s_law_only_in_all_ways, [], []⟩
abbrev n_law_only_in_all_ways : List Str := ["entries", "could", "ways", "entry", "found", "way", "false", "rest", "flag", "place"]
theorem sc_law_only_in_all_ways : FnScope n_law_only_in_all_ways ["entries", "could"] (defScope s_law_only_in_all_ways) := ⟨rfl, rfl, rfl, by decide +kernel, rfl, by decide +kernel, by decide +kernel⟩
abbrev s_law : Stmt := top 12
def d_law : He.DefD := ⟨("law", none), "law", "law", defArgs s_law, defBody s_law, defScope s_law, [], []⟩
abbrev n_law : List Str := ["script", "bag", "wide", "name", "twice", "copies", "keys", "copy", "entry", "key", "handed", "told", "entries", "number", "turned", "could", "due", "everything", "place"]
theorem sc_law : FnScope n_law ["script"] (defScope s_law) := ⟨rfl, rfl, rfl, by decide +kernel, rfl, by decide +kernel, by decide +kernel⟩
def fn : List He.DefD := [d_told_counts, d_sure_entry, d_law_bag, d_law_draw, d_law_is_whole, d_law_is_entry, d_law_counted, d_law_told_of, d_law_marked_copy, d_law_only_in_all_ways, d_law]
def fa : List He.Fa := [.glo "told_counts", .glo "sure_entry", .glo "_law_bag", .glo "_law_draw", .glo "_law_is_whole", .glo "_law_is_entry", .glo "_law_counted", .glo "_law_told_of", .glo "_law_marked_copy", .glo "_law_only_in_all_ways", .glo "law", .free "isinstance", .free "int", .free "bool", .free "str", .free "len", .free "tuple", .free "all", .free "range", .free "abs", .free "list", .free "enumerate", .free "sum", .free "max", .free "sorted"]
/-! ### further facts -/
def sl4 : List (Option Value) → Bool
  | [_, _, _, _, some (.builtin n), _] => decide (n = "ValueError.__new__")
  | _ => false
theorem sl4_ok : ∀ {l : List (Option Value)}, sl4 l = true → ∃ k0 k1 k2 k3 k5, l = [k0, k1, k2, k3, some (.builtin "ValueError.__new__"), k5] := by
  intro l h
  unfold sl4 at h
  split at h
  · rename_i k0 k1 k2 k3 n k5
    rw [of_decide_eq_true h]
    exact ⟨k0, k1, k2, k3, k5, rfl⟩
  · cases h
def oexB (K : PySem.W.Frag) (C : Addr) : Bool := match K.lookup C with
  | some ⟨.type t, _, .cls cd, sl⟩ => decide (t = "type") && ((match cd.mro with
    | .ref c :: bm => decide (c = C) && PySem.HandSPX.refsVE bm
    | _ => false) && (sl4 sl.toList && (cd.hasDict && !cd.hasDel)))
  | _ => false
theorem oexB_ok {K : PySem.W.Frag} {C : Addr} (h : oexB K C = true) : ∃ nm q N bs bm sn sub ab col dd k0 k1 k2 k3 k5, K.lookup C = some (excClassObj nm q C N bs bm true sn sub ab col dd k0 k1 k2 k3 k5 "ValueError.__new__") ∧ PySem.HandSPX.refsVE bm = true := by
  unfold oexB at h
  split at h
  · rename_i t dd cd sl ho
    obtain ⟨h1, h⟩ := Bool.and_eq_true_iff.mp h
    obtain ⟨h2, h⟩ := Bool.and_eq_true_iff.mp h
    obtain ⟨h3, h4⟩ := Bool.and_eq_true_iff.mp h
    obtain ⟨h5, h6⟩ := Bool.and_eq_true_iff.mp h4
    obtain ⟨nm, bs, mro, ns, qn, hd, sn, sub, ab, col, del⟩ := cd
    dsimp only at h2 h5 h6
    cases mro with
    | nil => cases h2
    | cons v bm => cases v with
      | ref c =>
        obtain ⟨h7, h8⟩ := Bool.and_eq_true_iff.mp h2
        obtain ⟨k0, k1, k2, k3, k5, e3⟩ := sl4_ok h3
        obtain ⟨l⟩ := sl
        dsimp only at e3
        have e7 := of_decide_eq_true h7
        have e1 := of_decide_eq_true h1
        subst e3 e7 e1 h5
        cases del with
        | true => cases h6
        | false => exact ⟨nm, qn, ns, bs, bm, sn, sub, ab, col, dd, k0, k1, k2, k3, k5, ho, h8⟩
      | _ => cases h2
  · cases h
def oexAll (K : PySem.W.Frag) (C : Addr) : Bool := oexB K C && (decide (PySem.W.findIn K (.ref C) "__setattr__" = some (some (.builtin "object.__setattr__"))) && (decide (PySem.W.subIn K (.ref C) (.type "BaseException") = some true) && (decide (PySem.W.typeIn K (.ref C) = some (.type "type")) && PySem.W.keepIn K (.ref C))))
theorem oexAll_ok {K : PySem.W.Frag} {C : Addr} (h : oexAll K C = true) : OexC K C := by
  obtain ⟨h1, h⟩ := Bool.and_eq_true_iff.mp h
  obtain ⟨h2, h⟩ := Bool.and_eq_true_iff.mp h
  obtain ⟨h3, h⟩ := Bool.and_eq_true_iff.mp h
  obtain ⟨h4, h5⟩ := Bool.and_eq_true_iff.mp h
  exact ⟨oexB_ok h1, of_decide_eq_true h2, of_decide_eq_true h3, of_decide_eq_true h4, h5⟩
/-- C's own __eq__ at f -/
def eqcB (K : PySem.W.Frag) (C : Addr) : Bool := decide (PySem.W.findIn K (.ref C) "__ne__" = some (some (.builtin "object.__ne__"))) && decide (PySem.W.subIn K (.ref C) (.type "object") = some true)
/-- isinstance of instances -/
structure InsC (K : PySem.W.Frag) (C : Addr) : Prop where
  ha : PySem.W.findIn K (.ref C) "__class__" = some (some (.builtin "object.__class__"))
  hn : PySem.W.specialIn K (.builtin "object.__class__") "__get__" = some (some (.builtin "getset_descriptor.__get__"))
  htk : PySem.W.takesIn K (.builtin "object.__class__") = some true
  hm : PySem.W.mroIn K C (.type "object") = some true
def insB (K : PySem.W.Frag) (C : Addr) : Bool := decide (PySem.W.findIn K (.ref C) "__class__" = some (some (.builtin "object.__class__"))) && (decide (PySem.W.specialIn K (.builtin "object.__class__") "__get__" = some (some (.builtin "getset_descriptor.__get__"))) && (decide (PySem.W.takesIn K (.builtin "object.__class__") = some true) && decide (PySem.W.mroIn K C (.type "object") = some true)))
theorem insB_ok {K : PySem.W.Frag} {C : Addr} (h : insB K C = true) : InsC K C := by
  obtain ⟨h1, h⟩ := Bool.and_eq_true_iff.mp h
  obtain ⟨h2, h⟩ := Bool.and_eq_true_iff.mp h
  obtain ⟨h3, h⟩ := Bool.and_eq_true_iff.mp h
  exact ⟨of_decide_eq_true h1, of_decide_eq_true h2, of_decide_eq_true h3, of_decide_eq_true h⟩
def isFnd : Option PySem.W.CFound → Addr → Bool
  | some (.val (.ref a)), g => decide (a = g)
  | _, _ => false
def clsfnB (K : PySem.W.Frag) (C : Addr) (m : Str) : Bool := PySem.W.readsIn K C (.type "type") && (decide (PySem.W.specialIn K (.ref C) "__getattribute__" = some (some (.builtin "type.__getattribute__"))) && (isFnd (PySem.W.findCls K (.ref C) (.type "type") m) (He.ma K C m) && PySem.W.keepIn K (.ref (He.ma K C m))))
theorem clsfnB_ok {K : PySem.W.Frag} {C : Addr} {m : Str} (h : clsfnB K C m = true) : Ax.ClsFn K C m (He.ma K C m) := by
  obtain ⟨h1, h⟩ := Bool.and_eq_true_iff.mp h
  obtain ⟨h2, h⟩ := Bool.and_eq_true_iff.mp h
  obtain ⟨h3, h4⟩ := Bool.and_eq_true_iff.mp h
  refine ⟨⟨.type "type", ⟨h1, of_decide_eq_true h2⟩, ⟨?_, rfl⟩⟩, h4⟩
  revert h3
  cases e : PySem.W.findCls K (.ref C) (.type "type") m with
  | none => intro h3; cases h3
  | some r =>
    cases r with
    | val u =>
      cases u with
      | ref a =>
        intro h3
        have z : a = He.ma K C m := of_decide_eq_true h3
        rw [z]
      | _ => intro h3; cases h3
    | _ => intro h3; cases h3
def exL : List (PySem.W.Frag → Bool) := []
def exA (K : PySem.W.Frag) : Bool := exL.all fun q => q K
theorem exA_ok {K : PySem.W.Frag} (h : exA K = true) (i : Nat) {q : PySem.W.Frag → Bool} (e : exL[i]? = some q) : q K = true := List.all_eq_true.mp h q (List.mem_of_getElem? e)
def Tx (w : World) (K : PySem.W.Frag) (mg : Str → Option Value) : Prop := ∃ h : Heap, K.In h ∧ h.Ns mainGlobals mg ∧ Ax.SaysY fa fn exA K
section
variable {w : World} {K : PySem.W.Frag} {mg : Str → Option Value}
theorem Tx.g_told_counts (T : Tx w K mg) : mg "told_counts" = some (.ref (He.ga K "told_counts")) := let ⟨_, c⟩ := T; He.glo_ok c.1 c.2.1 (c.2.2.1.fact 0 (f := .glo "told_counts") rfl)
theorem Tx.g_sure_entry (T : Tx w K mg) : mg "sure_entry" = some (.ref (He.ga K "sure_entry")) := let ⟨_, c⟩ := T; He.glo_ok c.1 c.2.1 (c.2.2.1.fact 1 (f := .glo "sure_entry") rfl)
theorem Tx.g_law_bag (T : Tx w K mg) : mg "_law_bag" = some (.ref (He.ga K "_law_bag")) := let ⟨_, c⟩ := T; He.glo_ok c.1 c.2.1 (c.2.2.1.fact 2 (f := .glo "_law_bag") rfl)
theorem Tx.g_law_draw (T : Tx w K mg) : mg "_law_draw" = some (.ref (He.ga K "_law_draw")) := let ⟨_, c⟩ := T; He.glo_ok c.1 c.2.1 (c.2.2.1.fact 3 (f := .glo "_law_draw") rfl)
theorem Tx.g_law_is_whole (T : Tx w K mg) : mg "_law_is_whole" = some (.ref (He.ga K "_law_is_whole")) := let ⟨_, c⟩ := T; He.glo_ok c.1 c.2.1 (c.2.2.1.fact 4 (f := .glo "_law_is_whole") rfl)
theorem Tx.g_law_is_entry (T : Tx w K mg) : mg "_law_is_entry" = some (.ref (He.ga K "_law_is_entry")) := let ⟨_, c⟩ := T; He.glo_ok c.1 c.2.1 (c.2.2.1.fact 5 (f := .glo "_law_is_entry") rfl)
theorem Tx.g_law_counted (T : Tx w K mg) : mg "_law_counted" = some (.ref (He.ga K "_law_counted")) := let ⟨_, c⟩ := T; He.glo_ok c.1 c.2.1 (c.2.2.1.fact 6 (f := .glo "_law_counted") rfl)
theorem Tx.g_law_told_of (T : Tx w K mg) : mg "_law_told_of" = some (.ref (He.ga K "_law_told_of")) := let ⟨_, c⟩ := T; He.glo_ok c.1 c.2.1 (c.2.2.1.fact 7 (f := .glo "_law_told_of") rfl)
theorem Tx.g_law_marked_copy (T : Tx w K mg) : mg "_law_marked_copy" = some (.ref (He.ga K "_law_marked_copy")) := let ⟨_, c⟩ := T; He.glo_ok c.1 c.2.1 (c.2.2.1.fact 8 (f := .glo "_law_marked_copy") rfl)
theorem Tx.g_law_only_in_all_ways (T : Tx w K mg) : mg "_law_only_in_all_ways" = some (.ref (He.ga K "_law_only_in_all_ways")) := let ⟨_, c⟩ := T; He.glo_ok c.1 c.2.1 (c.2.2.1.fact 9 (f := .glo "_law_only_in_all_ways") rfl)
theorem Tx.g_law (T : Tx w K mg) : mg "law" = some (.ref (He.ga K "law")) := let ⟨_, c⟩ := T; He.glo_ok c.1 c.2.1 (c.2.2.1.fact 10 (f := .glo "law") rfl)
theorem Tx.b_isinstance (T : Tx w K mg) : mg "isinstance" = none := let ⟨_, c⟩ := T; He.free_ok c.1 c.2.1 (c.2.2.1.fact 11 (f := .free "isinstance") rfl)
theorem Tx.b_int (T : Tx w K mg) : mg "int" = none := let ⟨_, c⟩ := T; He.free_ok c.1 c.2.1 (c.2.2.1.fact 12 (f := .free "int") rfl)
theorem Tx.b_bool (T : Tx w K mg) : mg "bool" = none := let ⟨_, c⟩ := T; He.free_ok c.1 c.2.1 (c.2.2.1.fact 13 (f := .free "bool") rfl)
theorem Tx.b_str (T : Tx w K mg) : mg "str" = none := let ⟨_, c⟩ := T; He.free_ok c.1 c.2.1 (c.2.2.1.fact 14 (f := .free "str") rfl)
theorem Tx.b_len (T : Tx w K mg) : mg "len" = none := let ⟨_, c⟩ := T; He.free_ok c.1 c.2.1 (c.2.2.1.fact 15 (f := .free "len") rfl)
theorem Tx.b_tuple (T : Tx w K mg) : mg "tuple" = none := let ⟨_, c⟩ := T; He.free_ok c.1 c.2.1 (c.2.2.1.fact 16 (f := .free "tuple") rfl)
theorem Tx.b_all (T : Tx w K mg) : mg "all" = none := let ⟨_, c⟩ := T; He.free_ok c.1 c.2.1 (c.2.2.1.fact 17 (f := .free "all") rfl)
theorem Tx.b_range (T : Tx w K mg) : mg "range" = none := let ⟨_, c⟩ := T; He.free_ok c.1 c.2.1 (c.2.2.1.fact 18 (f := .free "range") rfl)
theorem Tx.b_abs (T : Tx w K mg) : mg "abs" = none := let ⟨_, c⟩ := T; He.free_ok c.1 c.2.1 (c.2.2.1.fact 19 (f := .free "abs") rfl)
theorem Tx.b_list (T : Tx w K mg) : mg "list" = none := let ⟨_, c⟩ := T; He.free_ok c.1 c.2.1 (c.2.2.1.fact 20 (f := .free "list") rfl)
theorem Tx.b_enumerate (T : Tx w K mg) : mg "enumerate" = none := let ⟨_, c⟩ := T; He.free_ok c.1 c.2.1 (c.2.2.1.fact 21 (f := .free "enumerate") rfl)
theorem Tx.b_sum (T : Tx w K mg) : mg "sum" = none := let ⟨_, c⟩ := T; He.free_ok c.1 c.2.1 (c.2.2.1.fact 22 (f := .free "sum") rfl)
theorem Tx.b_max (T : Tx w K mg) : mg "max" = none := let ⟨_, c⟩ := T; He.free_ok c.1 c.2.1 (c.2.2.1.fact 23 (f := .free "max") rfl)
theorem Tx.b_sorted (T : Tx w K mg) : mg "sorted" = none := let ⟨_, c⟩ := T; He.free_ok c.1 c.2.1 (c.2.2.1.fact 24 (f := .free "sorted") rfl)
theorem Tx.f_told_counts (T : Tx w K mg) : ∃ fd, FunD K "told_counts" "told_counts" (defArgs s_told_counts) (defBody s_told_counts) (defScope s_told_counts) (d_told_counts.dvs K) [] (He.fAd K d_told_counts.at_) fd := let ⟨_, c⟩ := T; c.2.2.1.def_ 0 (d := d_told_counts) rfl
theorem Tx.f_sure_entry (T : Tx w K mg) : ∃ fd, FunD K "sure_entry" "sure_entry" (defArgs s_sure_entry) (defBody s_sure_entry) (defScope s_sure_entry) (d_sure_entry.dvs K) [] (He.fAd K d_sure_entry.at_) fd := let ⟨_, c⟩ := T; c.2.2.1.def_ 1 (d := d_sure_entry) rfl
theorem Tx.f_law_bag (T : Tx w K mg) : ∃ fd, FunD K "_law_bag" "_law_bag" (defArgs s_law_bag) (defBody s_law_bag) (defScope s_law_bag) (d_law_bag.dvs K) [] (He.fAd K d_law_bag.at_) fd := let ⟨_, c⟩ := T; c.2.2.1.def_ 2 (d := d_law_bag) rfl
theorem Tx.f_law_draw (T : Tx w K mg) : ∃ fd, FunD K "_law_draw" "_law_draw" (defArgs s_law_draw) (defBody s_law_draw) (defScope s_law_draw) (d_law_draw.dvs K) [] (He.fAd K d_law_draw.at_) fd := let ⟨_, c⟩ := T; c.2.2.1.def_ 3 (d := d_law_draw) rfl
theorem Tx.f_law_is_whole (T : Tx w K mg) : ∃ fd, FunD K "_law_is_whole" "_law_is_whole" (defArgs s_law_is_whole) (defBody s_law_is_whole) (defScope s_law_is_whole) (d_law_is_whole.dvs K) [] (He.fAd K d_law_is_whole.at_) fd := let ⟨_, c⟩ := T; c.2.2.1.def_ 4 (d := d_law_is_whole) rfl
theorem Tx.f_law_is_entry (T : Tx w K mg) : ∃ fd, FunD K "_law_is_entry" "_law_is_entry" (defArgs s_law_is_entry) (defBody s_law_is_entry) (defScope s_law_is_entry) (d_law_is_entry.dvs K) [] (He.fAd K d_law_is_entry.at_) fd := let ⟨_, c⟩ := T; c.2.2.1.def_ 5 (d := d_law_is_entry) rfl
theorem Tx.f_law_counted (T : Tx w K mg) : ∃ fd, FunD K "_law_counted" "_law_counted" (defArgs s_law_counted) (defBody s_law_counted) (defScope s_law_counted) (d_law_counted.dvs K) [] (He.fAd K d_law_counted.at_) fd := let ⟨_, c⟩ := T; c.2.2.1.def_ 6 (d := d_law_counted) rfl
theorem Tx.f_law_told_of (T : Tx w K mg) : ∃ fd, FunD K "_law_told_of" "_law_told_of" (defArgs s_law_told_of) (defBody s_law_told_of) (defScope s_law_told_of) (d_law_told_of.dvs K) [] (He.fAd K d_law_told_of.at_) fd := let ⟨_, c⟩ := T; c.2.2.1.def_ 7 (d := d_law_told_of) rfl
theorem Tx.f_law_marked_copy (T : Tx w K mg) : ∃ fd, FunD K "_law_marked_copy" "_law_marked_copy" (defArgs s_law_marked_copy) (defBody s_law_marked_copy) (defScope s_law_marked_copy) (d_law_marked_copy.dvs K) [] (He.fAd K d_law_marked_copy.at_) fd := let ⟨_, c⟩ := T; c.2.2.1.def_ 8 (d := d_law_marked_copy) rfl
theorem Tx.f_law_only_in_all_ways (T : Tx w K mg) : ∃ fd, FunD K "_law_only_in_all_ways" "_law_only_in_all_ways" (defArgs s_law_only_in_all_ways) (defBody s_law_only_in_all_ways) (defScope s_law_only_in_all_ways) (d_law_only_in_all_ways.dvs K) [] (He.fAd K d_law_only_in_all_ways.at_) fd := let ⟨_, c⟩ := T; c.2.2.1.def_ 9 (d := d_law_only_in_all_ways) rfl
theorem Tx.f_law (T : Tx w K mg) : ∃ fd, FunD K "law" "law" (defArgs s_law) (defBody s_law) (defScope s_law) (d_law.dvs K) [] (He.fAd K d_law.at_) fd := let ⟨_, c⟩ := T; c.2.2.1.def_ 10 (d := d_law) rfl
end
end K23
set_option maxHeartbeats 1000000
/-! The law's bag and its draws. -/
namespace K23
open PySem PySem.Spec PyProof.Rows L2 Ax DL
section
variable {P : Program} {w : World} {K : PySem.W.Frag} {mg : Str → Option Value} {base : Heap}
def spBag (K : PySem.W.Frag) : Sp := fun vs H Q _ => ∃ (a : Addr) (ns : List Int), vs = [.ref a] ∧ SqL K H a (ns.map V.int) ∧ ns.length ≤ 63 ∧ ∀ b c ms H', Ext H H' → H b = none → BagAt H' b c ms 0 → Q (.ref b) H'
theorem ok_bag (T : Tx w K mg) : Dn P w K mg base CX0 1 "_law_bag" ["script"] (spBag K) := by
  obtain ⟨fd, F⟩ := T.f_law_bag
  refine ⟨_, fd, F.ok sc_law_bag (fun vs H Q E h => ?_) (fun cdv A outer s H vs Q E hr h => ⟨_, PSs.nox (pss_cons
    (ps_setLc (i := 1) (own := [("cell", 2)]) (g := gName 2) (tt := tYes) (te := tCB (fun xs H Q => ∃ i, xs = [.int i] ∧ Q (.int (if i < 0 then -i else i)) H) (tCons (tVar 2) tNil)) (by rfl) sc_law_bag.nd rfl rfl (sw_true rfl rfl rfl (by decide +kernel)) (pi_list (pe_slice sl_list (pv 0) po_none (po_some pe_int)))
      (blkOk_by (own := [("cell", 2)]) (N := n_law_bag) (sc := defScope s_law_bag) (by decide +kernel)) (fun _ _ _ _ _ => pg_name (i := 2) sc_law_bag.nd rfl (Or.inl rfl)) (fun _ _ _ _ _ => pts_nil)
      (fun _ _ _ _ _ => pe_callB call_abs rfl T.b_abs (by decide +kernel) (pa_cons (pv 2) pa_nil))) (pss_cons
    (ps_if (pt_cmpR op_eq (pe_callB call_len_seq rfl T.b_len (by decide +kernel) (pa_cons (pv 1) pa_nil)) pe_int (nomark _)) (pss_one (ps_set (i := 1) sc_law_bag.nd rfl (Or.inl rfl) (pe_lst (pa_cons pe_int pa_nil)))) pss_nil)
    (pss_one (ps_ret (pe_lst (pa_cons (pv 1) (pa_cons pe_int (pa_cons pe_int pa_nil)))))))), ?_⟩), T.g_law_bag, F.kp, F.bindsN fun _ _ _ _ _ _ us hl => match us, hl with | [_], _ => rfl⟩
  · obtain ⟨a, ns, rfl, _⟩ := h
    rfl
  · obtain ⟨a, ns, rfl, ha, hl, h⟩ := h
    have hcut : cutV (ns.map V.int) none (some 63) = ns.map V.int := by
      have e := cut_to (ns.map V.int) 63
      rw [List.take_of_length_le (by rw [List.length_map]; exact hl)] at e
      exact e
    refine ⟨_, rfl, _, rfl, a, _, rfl, ha, fun p hp => ?_⟩
    have x1 : Ext H (upd H p (.lst (cutV (ns.map V.int) none (some 63)))) := Ext.upd hp
    have hp1 : (upd H p (.lst (cutV (ns.map V.int) none (some 63)))) p = some (.lst (ns.map V.int)) := by rw [upd_same, hcut]
    generalize (upd H p (.lst (cutV (ns.map V.int) none (some 63)))) = H1 at x1 hp1 ⊢
    refine ⟨p, rfl, ⟨_, SqL.of hp1⟩, fun D hD => ?_⟩
    refine lc_acc (walk_list (K := K) (xs := ns.map V.int)) hD (fun i acc B => Ext H1 B ∧ acc = (ns.take i).map fun m => V.int (if m < 0 then -m else m)) ⟨Ext.rfl', rfl⟩ (fun i acc H4 _ _ q => SqL.of (ext_del _ _ (q.1 _ _ hp1))) ?_ ?_
    · rintro i y H4 H' acc hi hacc hl2 ⟨xB, ea⟩ ⟨eH, hy⟩
      subst eH
      rw [List.getElem?_map] at hy
      rw [List.length_map] at hi
      cases qz : ns[i]? with
      | none => rw [qz] at hy; cases hy
      | some z =>
        rw [qz] at hy
        cases Option.some.inj hy
        refine ⟨rfl, ?_⟩
        refine yes_go (iteT ?_)
        refine ⟨_, rfl, z, rfl, ?_⟩
        refine acc_add hacc hl2 (by have : 63 < sizeLine := by decide
                                    omega) ⟨xB, ?_⟩
        rw [ea, List.take_add_one, qz, List.map_append]
        rfl
    · rintro H4 acc hacc hl2 ⟨xB, ea⟩
      have ea2 : acc = (ns.map fun m => if m < 0 then -m else m).map V.int := by
        rw [ea, List.map_map, List.length_map, List.take_of_length_le (Nat.le_refl _)]
        rfl
      rw [ea2] at hacc
      have x4 : Ext H H4 := x1.trans fun b o hb => ext_del _ _ (xB b o hb)
      have hD0 : H D = none := by
        cases q : H D with
        | none => rfl
        | some o => rw [x1 _ _ q] at hD; cases hD
      have fin : ∀ (c : Addr) (ms : List Int) (H5 : Hp), Ext H H5 → H5 c = some (.lst (ms.map V.int)) → ms ≠ [] → ms.length ≤ 63 → (∀ m ∈ ms, 0 ≤ m) → ∀ b, H5 b = none → Q (.ref b) (upd H5 b (.lst [.ref c, .int 0, .int 0])) := by
        intro c ms H5 x5 hc hne hln hpos b hb
        have hcb : c ≠ b := ne_of_none hc hb
        have hb0 : H b = none := by
          cases q : H b with
          | none => rfl
          | some o => rw [x5 _ _ q] at hb; cases hb
        exact h b c ms _ (ext_upd_of x5 hb0) hb0 ⟨0, 0, upd_same, (upd_ne hcb).trans hc, Ne.symm hcb, by decide, by decide, by decide, hne, hln, hpos⟩
      refine ⟨_, rfl, D, _, rfl, .inl (SqL.of hacc), rfl, _, rfl, ?_⟩
      by_cases c : ns = []
      · subst c
        refine iteTd (by rfl) ?_
        refine ⟨by decide, fun l hl3 => ?_⟩
        refine ⟨_, rfl, ?_, fun b hb => ?_⟩
        · show 3 ≤ sizeLine
          decide
        · exact fin l [5] _ (x4.trans (Ext.upd hl3)) upd_same (by decide) (by decide) (by decide) b hb
      · refine iteFd' ?_ ?_
        · have : ns.length ≠ 0 := fun z => c (List.length_eq_zero_iff.mp z)
          simp only [List.length_map, decide_eq_false_iff_not]
          intro z
          injection z with z
          omega
        · refine ⟨_, rfl, ?_, fun b hb => ?_⟩
          · show 3 ≤ sizeLine
            decide
          · refine fin D _ H4 x4 hacc ?_ ?_ ?_ b hb
            · intro z
              exact c (List.map_eq_nil_iff.mp z)
            · rw [List.length_map]
              exact hl
            · intro m hm
              obtain ⟨z, _, rfl⟩ := List.mem_map.mp hm
              split <;> omega
/-! ### draw -/
def spDraw : Sp := fun vs H Q _ => ∃ (b c : Addr) (ms : List Int) (n : Nat) (lim : Int), vs = [.ref b, .int lim] ∧ BagAt H b c ms n ∧ n < 1000000 ∧ 1 ≤ lim ∧ lim.natAbs < 2 ^ 200 ∧ ∀ d H', 0 ≤ d → d < lim → Off b H H' → BagAt H' b c ms (n + 1) → Q (.int d) H'
theorem ok_draw (T : Tx w K mg) : Dn P w K mg base CX0 1 "_law_draw" ["bag", "limit"] spDraw := by
  obtain ⟨fd, F⟩ := T.f_law_draw
  refine ⟨_, fd, F.ok sc_law_draw (fun vs H Q E h => ?_) (fun cdv A outer s H vs Q E hr h => ⟨_, PSs.nox (pss_cons
    (ps_if (pt_cmpR op_gt (pe_ix ix_list (pv 0) pe_int (fun _ _ => rfl)) pe_int (nomark _)) (pss_cons
      (ps_set (i := 2) sc_law_draw.nd rfl (Or.inl rfl) (pe_op op_mod (pe_callTy call_int1 rfl T.b_int (by decide +kernel) (pa_cons (pe_ix ix_list (pv 0) pe_int (fun _ _ => rfl)) pa_nil)) (pv 1))) (pss_cons
      (ps_asg (pe_op op_fdivW (pe_ix ix_list (pv 0) pe_int (fun _ _ => rfl)) (pv 1)) (pg_sub (pv 0) pe_int set_list))
      (pss_one (ps_ret (pv 2))))) pss_nil) (pss_cons
    (ps_set (i := 3) sc_law_draw.nd rfl (Or.inl rfl) (pe_ix ix_list (pv 0) pe_int (fun _ _ => rfl))) (pss_cons
    (ps_asg (pe_op op_add (pv 3) pe_int) (pg_sub (pv 0) pe_int set_list)) (pss_cons
    (ps_set (i := 4) sc_law_draw.nd rfl (Or.inl rfl) (pe_ix ix_list (pv 0) pe_int (fun _ _ => rfl))) (pss_cons
    (ps_set (i := 5) sc_law_draw.nd rfl (Or.inl rfl) (pe_ix ix_list (pv 4) (pe_op op_mod (pe_callTy call_int1 rfl T.b_int (by decide +kernel) (pa_cons (pv 3) pa_nil)) (pe_callB call_len_seq rfl T.b_len (by decide +kernel) (pa_cons (pv 4) pa_nil))) (fun _ _ => rfl))) (pss_cons
    (ps_if (PW.pt (pw_and (pt_cmpR op_lt (pv 3) (pe_callB call_len_seq rfl T.b_len (by decide +kernel) (pa_cons (pv 4) pa_nil)) (nomark _)) (pw_and1 (pt_cmpR op_ge (pv 5) (pe_op op_pow pe_int pe_int) (nomark _))))) (pss_cons
      (ps_asg (pe_op op_fdivW (pv 5) (pv 1)) (pg_sub (pv 0) pe_int set_list))
      (pss_one (ps_ret (pe_op op_mod (pe_callTy call_int1 rfl T.b_int (by decide +kernel) (pa_cons (pv 5) pa_nil)) (pv 1))))) pss_nil) (pss_cons
    (ps_set (i := 6) sc_law_draw.nd rfl (Or.inl rfl) (pe_op op_mod (pe_callTy call_int1 rfl T.b_int (by decide +kernel) (pa_cons
      (pe_op op_add (pe_op op_add (pe_op op_mul (pe_op op_add (pv 5) pe_int) pe_int) (pe_op op_mul (pe_op op_mul (pv 3) (pv 3)) pe_int)) (pe_op op_mul (pv 3) pe_int)) pa_nil)) pe_int)) (pss_cons
    (ps_set (i := 6) sc_law_draw.nd rfl (Or.inl rfl) (pe_op op_mod (pe_callTy call_int1 rfl T.b_int (by decide +kernel) (pa_cons
      (pe_op op_add (pe_op op_mul (pv 6) pe_int) (pe_op op_mul (pe_op op_add (pv 3) pe_int) pe_int)) pa_nil)) pe_int))
    (pss_one (ps_ret (pe_op op_mod (pe_callTy call_int1 rfl T.b_int (by decide +kernel) (pa_cons (pe_op op_fdiv (pv 6) pe_int) pa_nil)) (pv 1)))))))))))), ?_⟩), T.g_law_draw, F.kp, F.bindsN fun _ _ _ _ _ _ us hl => match us, hl with | [_, _], _ => rfl⟩
  · obtain ⟨b, c, ms, n, lim, rfl, _⟩ := h
    rfl
  · obtain ⟨b, c, ms, n, lim, rfl, ⟨t, r, hb, hc, hbc, ht0, htn, hr0, hne, hln, hpos⟩, hn, hl1, hl2, h⟩ := h
    refine ⟨_, rfl, b, _, _, _, rfl, rfl, SqL.of hb, atI_nat (j := 2) rfl, _, _, rfl, rfl, _, rfl, ?_⟩
    by_cases c0 : 0 < r
    · refine iteTd (decide_eq_true c0) ?_
      refine ⟨_, rfl, b, _, _, _, rfl, rfl, SqL.of hb, atI_nat (j := 2) rfl, .inl ⟨r, rfl, ?_⟩⟩
      refine ⟨_, rfl, _, _, rfl, rfl, by omega, ?_⟩
      refine ⟨_, rfl, b, _, _, _, rfl, rfl, SqL.of hb, atI_nat (j := 2) rfl, _, rfl, _, _, rfl, rfl, wide_div (by omega) hl2 (by decide) (by decide), ?_⟩
      refine ⟨_, rfl, b, _, _, 2, rfl, rfl, hb, rfl, ?_⟩
      refine ⟨_, rfl, ?_⟩
      refine h _ _ (mod_lt hl1).1 (mod_lt hl1).2 off_upd ⟨t, r / lim, upd_same, (upd_ne hbc.symm).trans hc, hbc, ht0, by omega, Int.ediv_nonneg hr0 (by omega), hne, hln, hpos⟩
    refine iteFd c0 ?_
    refine ⟨_, rfl, b, _, _, _, rfl, rfl, SqL.of hb, atI_nat (j := 1) rfl, ?_⟩
    refine ⟨_, rfl, _, _, rfl, rfl, _, rfl, b, _, _, 1, rfl, rfl, hb, rfl, ?_⟩
    have hb2 : (upd H b (.lst ([V.ref c, V.int t, V.int r].set 1 (V.int (t + 1))))) b = some (.lst [.ref c, .int (t + 1), .int r]) := upd_same
    have hc2 : (upd H b (.lst ([V.ref c, V.int t, V.int r].set 1 (V.int (t + 1))))) c = some (.lst (ms.map V.int)) := (upd_ne hbc.symm).trans hc
    have o2 : Off b H (upd H b (.lst ([V.ref c, V.int t, V.int r].set 1 (V.int (t + 1))))) := off_upd
    generalize (upd H b (.lst ([V.ref c, V.int t, V.int r].set 1 (V.int (t + 1))))) = H2 at hb2 hc2 o2 ⊢
    refine ⟨_, rfl, b, _, _, _, rfl, rfl, SqL.of hb2, atI_nat (j := 0) rfl, ?_⟩
    have hml : 0 < ms.length := by
      cases ms with
      | nil => exact absurd rfl hne
      | cons m r => exact Nat.zero_lt_succ _
    obtain ⟨j, hj⟩ : ∃ j : Nat, t % (ms.length : Int) = (j : Int) := ⟨(t % (ms.length : Int)).toNat, by
      have := Int.emod_nonneg t (show (ms.length : Int) ≠ 0 by omega)
      omega⟩
    have hjl : j < ms.length := by
      have := Int.emod_lt_of_pos t (show 0 < (ms.length : Int) by omega)
      omega
    have qm : ms[j]? = some ms[j] := List.getElem?_eq_getElem hjl
    have hm0 : 0 ≤ ms[j] := hpos _ (List.getElem_mem hjl)
    generalize ms[j] = m at qm hm0
    have hat : atI (ms.map V.int) (t % (ms.length : Int)) = some (.int m) := by
      rw [hj]
      exact atI_nat (by rw [List.getElem?_map, qm]; rfl)
    refine ⟨_, rfl, _, rfl, .inl ⟨t, rfl, ?_⟩⟩
    refine ⟨_, rfl, c, _, rfl, .inl (SqL.of hc2), ?_⟩
    refine ⟨_, _, rfl, rfl, by rw [List.length_map]; omega, ?_⟩
    refine ⟨c, _, _, _, rfl, rfl, SqL.of hc2, by rw [List.length_map]; exact hat, ?_⟩
    refine ⟨_, rfl, _, rfl, c, _, rfl, .inl (SqL.of hc2), _, _, rfl, rfl, _, rfl, ?_⟩
    by_cases c1 : t < ((ms.map V.int).length : Int)
    · refine iteTd (decide_eq_true c1) ?_
      refine ⟨_, rfl, _, _, rfl, rfl, ⟨by decide, by decide, by decide⟩, _, _, rfl, rfl, _, rfl, ?_⟩
      by_cases c2 : (10 : Int) ^ (18 : Int).toNat ≤ m
      · rw [decide_eq_true c2]
        refine iteT ?_
        refine ⟨_, rfl, _, rfl, _, _, rfl, rfl, wide_div (by omega) hl2 (by decide) (by decide), _, rfl, b, _, _, 2, rfl, rfl, hb2, rfl, ?_⟩
        refine ⟨_, rfl, .inl ⟨_, rfl, _, rfl, _, _, rfl, rfl, by omega, ?_⟩⟩
        refine h _ _ (mod_lt hl1).1 (mod_lt hl1).2 (o2.trans off_upd) ⟨t + 1, m / lim, upd_same, (upd_ne hbc.symm).trans hc2, hbc, by omega, by omega, Int.ediv_nonneg hm0 (by omega), hne, hln, hpos⟩
      · rw [decide_eq_false c2]
        refine iteF ?_
        refine ⟨_, rfl, _, _, rfl, rfl, _, _, rfl, rfl, .inr ⟨by decide, by decide⟩, _, rfl, _, rfl, _, _, rfl, rfl, .inl ⟨by omega, by omega⟩, _, _, rfl, rfl, .inr ⟨by decide, by decide⟩, _, _, rfl, rfl, _, rfl, _, _, rfl, rfl, .inr ⟨by decide, by decide⟩, _, _, rfl, rfl, .inl ⟨_, rfl, _, _, rfl, rfl, by show (0 : Int) < _; decide, ?_⟩⟩
        refine ⟨_, rfl, _, _, rfl, rfl, .inr ⟨by decide, by decide⟩, _, rfl, _, _, rfl, rfl, _, _, rfl, rfl, .inr ⟨by decide, by decide⟩, _, _, rfl, rfl, .inl ⟨_, rfl, _, _, rfl, rfl, by show (0 : Int) < _; decide, ?_⟩⟩
        refine ⟨_, rfl, _, _, rfl, rfl, ⟨by decide, by decide⟩, .inl ⟨_, rfl, _, rfl, _, _, rfl, rfl, by omega, ?_⟩⟩
        refine h _ _ (mod_lt hl1).1 (mod_lt hl1).2 o2 ⟨t + 1, r, hb2, hc2, hbc, by omega, by omega, hr0, hne, hln, hpos⟩
    · refine iteFd c1 ?_
      refine iteF ?_
      refine ⟨_, rfl, _, _, rfl, rfl, _, _, rfl, rfl, .inr ⟨by decide, by decide⟩, _, rfl, _, rfl, _, _, rfl, rfl, .inl ⟨by omega, by omega⟩, _, _, rfl, rfl, .inr ⟨by decide, by decide⟩, _, _, rfl, rfl, _, rfl, _, _, rfl, rfl, .inr ⟨by decide, by decide⟩, _, _, rfl, rfl, .inl ⟨_, rfl, _, _, rfl, rfl, by show (0 : Int) < _; decide, ?_⟩⟩
      refine ⟨_, rfl, _, _, rfl, rfl, .inr ⟨by decide, by decide⟩, _, rfl, _, _, rfl, rfl, _, _, rfl, rfl, .inr ⟨by decide, by decide⟩, _, _, rfl, rfl, .inl ⟨_, rfl, _, _, rfl, rfl, by show (0 : Int) < _; decide, ?_⟩⟩
      refine ⟨_, rfl, _, _, rfl, rfl, ⟨by decide, by decide⟩, .inl ⟨_, rfl, _, rfl, _, _, rfl, rfl, by omega, ?_⟩⟩
      refine h _ _ (mod_lt hl1).1 (mod_lt hl1).2 o2 ⟨t + 1, r, hb2, hc2, hbc, by omega, by omega, hr0, hne, hln, hpos⟩
/-! ### the same over data -/
def SDraw : GFB := fun ds n Φ => ∃ lim : Int, ds = [.int lim] ∧ 1 ≤ lim ∧ lim.natAbs < 2 ^ 200 ∧ n < 1000000 ∧ ∀ d, 0 ≤ d → d < lim → Φ (.int d) (n + 1)
theorem dn_draw (T : Tx w K mg) : Dn P w K mg base CX0 1 "_law_draw" ["bag", "limit"] (spB ⟨P, w, K⟩ SDraw) := (ok_draw T).imp fun vs H Q E h => by
  obtain ⟨B, b, c, ms, n, us, ds, Φ, rfl, hb, b0, c0, xB, r, ⟨lim, rfl, h1, h2, h3, g⟩, q⟩ := h
  cases r with
  | cons a t =>
    cases a
    cases t
    refine ⟨b, c, ms, n, lim, rfl, hb, h3, h1, h2, fun d H' d0 d1 o hB => ?_⟩
    exact q B H' (.int d) (.int d) (n + 1) Ext.rfl' (fun a u e => o a u (ne_of_none e b0) (xB a u e)) (fun a u ne e => o a u ne e) (fun a e n => absurd n e) hB (.int d) (g d d0 d1)
end
end K23
set_option maxHeartbeats 1000000
/-! Entries as data: equality, order. -/
namespace DL
open PySem PySem.Spec PyProof.Rows L2 Ax
theorem eqD_str (a b : Str) : eqD (.str a) (.str b) = decide (a = b) := by
  show PyData.eqv (.str a) (.str b) = _
  simp only [PyData.eqv]
  exact PySem.W.beq_decide a b
theorem eqD_int (a b : Int) : eqD (.int a) (.int b) = decide (a = b) := by
  show PyData.eqv (.int a) (.int b) = _
  simp only [PyData.eqv]
  exact PySem.W.beq_decide a b
def kD (k : List Int) : D := .tup (k.map D.int)
theorem toPs_ints (k : List Int) : toPs (k.map D.int) = k.map PyData.int := by
  rw [toPs_map, List.map_map]
  refine List.map_congr_left fun x _ => ?_
  simp [toP]
theorem eqvAll_ints : ∀ a b : List Int, PyData.eqvAll (a.map PyData.int) (b.map PyData.int) = decide (a = b)
  | [], [] => by simp [PyData.eqvAll]
  | [], _ :: _ => by simp [PyData.eqvAll]
  | _ :: _, [] => by simp [PyData.eqvAll]
  | x :: a, y :: b => by
    rw [List.map_cons, List.map_cons, PyData.eqvAll, eqvAll_ints a b]
    have : PyData.eqv (.int x) (.int y) = decide (x = y) := eqD_int x y
    rw [this]
    by_cases h : x = y <;> by_cases g : a = b <;> simp [h, g]
theorem eqD_k (a b : List Int) : eqD (kD a) (kD b) = decide (a = b) := by
  show PyData.eqv (toP (kD a)) (toP (kD b)) = _
  simp only [kD, toP, toPs_ints, PyData.eqv]
  exact eqvAll_ints a b
abbrev E := Str × List Int × Int
def eD (e : E) : D := .tup [.str e.1, kD e.2.1, .int e.2.2]
theorem toP_eD (e : E) : toP (eD e) = .tuple [.str e.1, .tuple (e.2.1.map PyData.int), .int e.2.2] := by
  simp [eD, kD, toP, toPs, toPs_ints]
theorem eqD_e (a b : E) : eqD (eD a) (eD b) = decide (a = b) := by
  show PyData.eqv (toP (eD a)) (toP (eD b)) = _
  rw [toP_eD, toP_eD]
  simp only [PyData.eqv, PyData.eqvAll, eqvAll_ints]
  obtain ⟨a1, a2, a3⟩ := a
  obtain ⟨b1, b2, b3⟩ := b
  simp only [PySem.W.beq_decide, Prod.mk.injEq, Bool.and_true]
  by_cases h1 : a1 = b1 <;> by_cases h2 : a2 = b2 <;> by_cases h3 : a3 = b3 <;> simp [h1, h2, h3]
theorem pureA_ints (k : List Int) : pureA (k.map D.int) = true := by
  induction k with
  | nil => rfl
  | cons x k ih => simp [pureA, pureD, ih]
theorem canLay_ints (k : List Int) : PyData.canLayAll0 (k.map PyData.int) = true := by
  induction k with
  | nil => simp [PyData.canLayAll0]
  | cons x k ih => simp [PyData.canLayAll0, PyData.canLay0, ih]
theorem depth_k (k : List Int) : (toP (kD k)).depth = 1 := by
  simp only [kD, toP, toPs_ints, PyData.depth, PySem.W.depth_ints]
theorem okD_k (k : List Int) : okD (kD k) = true := by
  simp only [okD, SeqAt.shaped, Bool.and_eq_true, decide_eq_true_eq]
  refine ⟨by simp [kD, pureD, pureA_ints], ?_, ?_⟩
  · simp only [kD, toP, toPs_ints, PyData.canLay0, canLay_ints]
  · rw [depth_k]; decide
theorem depth_e (e : E) : (toP (eD e)).depth = 2 := by
  rw [toP_eD]
  simp only [PyData.depth, PyData.depthAll, PySem.W.depth_ints]
  decide
theorem pure_e (e : E) : pureD (eD e) = true := by
  simp [eD, kD, pureD, pureA, pureA_ints]
abbrev strK (x : Str) : Bool := PyData.strOk x
theorem canLay_e {e : E} (h : strK e.1 = true) : (toP (eD e)).canLay0 = true := by
  rw [toP_eD]
  simp [PyData.canLay0, PyData.canLayAll0, canLay_ints]
  exact h
theorem okD_e {e : E} (h : strK e.1 = true) : okD (eD e) = true := by
  simp only [okD, SeqAt.shaped, Bool.and_eq_true, decide_eq_true_eq]
  exact ⟨pure_e e, canLay_e h, by rw [depth_e]; decide⟩
theorem okD_int (i : Int) : okD (.int i) = true := by rfl
theorem okD_non : okD .non = true := by rfl
theorem okD_bl (b : Bool) : okD (.bl b) = true := by rfl
theorem okD_str {x : Str} (h : strK x = true) : okD (.str x) = true := by
  simp only [okD, SeqAt.shaped, Bool.and_eq_true, decide_eq_true_eq]
  refine ⟨rfl, ?_, by simp [toP, PyData.depth]⟩
  simp only [toP, PyData.canLay0]
  exact h
/-- lists of data of one depth -/
theorem pureA_map {α : Type} {f : α → D} : ∀ {l : List α}, (∀ a ∈ l, pureD (f a) = true) → pureA (l.map f) = true
  | [], _ => rfl
  | a :: l, h => by simp [pureA, h a List.mem_cons_self, pureA_map fun b hb => h b (List.mem_cons_of_mem _ hb)]
theorem canLay_map {α : Type} {f : α → D} : ∀ {l : List α}, (∀ a ∈ l, (toP (f a)).canLay0 = true) → PyData.canLayAll0 (toPs (l.map f)) = true
  | [], _ => by simp [toPs, PyData.canLayAll0]
  | a :: l, h => by simp [toPs, PyData.canLayAll0, h a List.mem_cons_self, canLay_map fun b hb => h b (List.mem_cons_of_mem _ hb)]
theorem depth_map {α : Type} {f : α → D} {n : Nat} : ∀ {l : List α}, (∀ a ∈ l, (toP (f a)).depth ≤ n) → PyData.depthAll (toPs (l.map f)) ≤ n
  | [], _ => by simp [toPs, PyData.depthAll]
  | a :: l, h => by
    simp only [List.map_cons, toPs, PyData.depthAll]
    exact Nat.max_le.mpr ⟨h a List.mem_cons_self, depth_map fun b hb => h b (List.mem_cons_of_mem _ hb)⟩
/-- a datum that == serves, of at most this depth -/
structure Dk (n : Nat) (d : D) : Prop where
  pure : pureD d = true
  lay : (toP d).canLay0 = true
  dep : (toP d).depth ≤ n
theorem Dk.ok {n : Nat} {d : D} (h : Dk n d) (hn : n ≤ 60) : okD d = true := by
  simp only [okD, SeqAt.shaped, Bool.and_eq_true, decide_eq_true_eq]
  exact ⟨h.pure, h.lay, by have := h.dep; omega⟩
theorem Dk.mono {n m : Nat} {d : D} (h : Dk n d) (hn : n ≤ m) : Dk m d := ⟨h.pure, h.lay, Nat.le_trans h.dep hn⟩
theorem Dk.lst {α : Type} {f : α → D} {n : Nat} {l : List α} (h : ∀ a ∈ l, Dk n (f a)) : Dk (n + 1) (.lst (l.map f)) := by
  refine ⟨by simp [pureD, pureA_map fun a ha => (h a ha).pure], ?_, ?_⟩
  · simp only [toP, PyData.canLay0]; exact canLay_map fun a ha => (h a ha).lay
  · have := depth_map fun a ha => (h a ha).dep
    simp only [toP, PyData.depth]
    omega
theorem Dk.tup {α : Type} {f : α → D} {n : Nat} {l : List α} (h : ∀ a ∈ l, Dk n (f a)) : Dk (n + 1) (.tup (l.map f)) := by
  refine ⟨by simp [pureD, pureA_map fun a ha => (h a ha).pure], ?_, ?_⟩
  · simp only [toP, PyData.canLay0]; exact canLay_map fun a ha => (h a ha).lay
  · have := depth_map fun a ha => (h a ha).dep
    simp only [toP, PyData.depth]
    omega
theorem dk_e {e : E} (h : strK e.1 = true) : Dk 2 (eD e) := ⟨pure_e e, canLay_e h, Nat.le_of_eq (depth_e e)⟩
theorem okD_es {l : List E} (h : ∀ e ∈ l, strK e.1 = true) : okD (.lst (l.map eD)) = true := (Dk.lst fun e he => dk_e (h e he)).ok (by decide)
theorem inD_e (a : E) (l : List E) : inD (eD a) (l.map eD) = decide (a ∈ l) := by
  unfold inD
  rw [List.any_map]
  induction l with
  | nil => simp
  | cons b l ih =>
    rw [List.any_cons, ih]
    show (eqD (eD b) (eD a) || _) = _
    rw [eqD_e]
    by_cases h : b = a
    · subst h; simp
    · have h' : ¬ a = b := fun z => h z.symm
      simp [h, h']
/-! ### the order -/
def leE (a b : E) : Bool := leD (eD a) (eD b)
theorem leE_total : PySem.W.TotalLe leE where
  trans a b c h1 h2 := (PySem.W.sortLe_total (α := E) (PyProof.Rows.listOrd PyProof.Rows.itemOrd) false (fun e => PySem.W.keyToks (toP (eD e)))).trans a b c h1 h2
  total a b := (PySem.W.sortLe_total (α := E) (PyProof.Rows.listOrd PyProof.Rows.itemOrd) false (fun e => PySem.W.keyToks (toP (eD e)))).total a b
theorem alike_e (a b : E) : PySem.W.alike (toP (eD a)) (toP (eD b)) = true := by
  rw [toP_eD, toP_eD]
  simp [PySem.W.alike, PySem.W.alikeAll, PySem.W.alike_ints]
theorem toks_of {x y : PyData} (h : PySem.W.alike x y = true) (e : PySem.W.keyToks x = PySem.W.keyToks y) : PyData.eqv x y = true := by
  cases q : PyData.eqv x y with
  | true => rfl
  | false =>
    have h2 := (PySem.W.toks_eqv x y h).2 q [] [.inl 0]
    rw [e, PySem.W.lex_pre] at h2
    rw [PyProof.Rows.lex_irrefl] at h2
    cases h2
theorem le_anti {x y : D} (h : PySem.W.alike (toP x) (toP y) = true) (h1 : leD x y = true) (h2 : leD y x = true) : eqD x y = true := by
  have e : PySem.W.keyToks (toP x) = PySem.W.keyToks (toP y) := by
    have a1 : (!PySem.W.dataLt (toP y) (toP x)) = true := h1
    have a2 : (!PySem.W.dataLt (toP x) (toP y)) = true := h2
    rw [Bool.not_eq_true'] at a1 a2
    exact (PyProof.Rows.listOrd PyProof.Rows.itemOrd).total _ _ a2 a1
  exact toks_of h e
theorem leE_anti {a b : E} (h1 : leE a b = true) (h2 : leE b a = true) : a = b := by
  have := le_anti (alike_e a b) h1 h2
  rw [eqD_e] at this
  exact of_decide_eq_true this
def pD (p : E × Int) : D := .tup [eD p.1, .int p.2]
theorem toP_pD (p : E × Int) : toP (pD p) = .tuple [toP (eD p.1), .int p.2] := by simp [pD, toP, toPs]
theorem alike_p (p q : E × Int) : PySem.W.alike (toP (pD p)) (toP (pD q)) = true := by
  rw [toP_pD, toP_pD]
  simp [PySem.W.alike, PySem.W.alikeAll, alike_e]
theorem leD_refl (d : D) : leD d d = true := by
  show (!PySem.W.dataLt (toP d) (toP d)) = true
  rw [PySem.W.dataLt_self]
  rfl
theorem le_p {p q : E × Int} (h : p.1 ≠ q.1) : leD (pD p) (pD q) = leE p.1 q.1 := by
  show (!PySem.W.dataLt (toP (pD q)) (toP (pD p))) = (!PySem.W.dataLt (toP (eD q.1)) (toP (eD p.1)))
  rw [toP_pD, toP_pD, PySem.W.dataLt_pair (alike_e _ _) (by simp [PySem.W.alike])]
  have : PyData.eqv (toP (eD q.1)) (toP (eD p.1)) = false := by
    have := eqD_e q.1 p.1
    unfold eqD at this
    rw [this]
    exact decide_eq_false fun z => h z.symm
  rw [this]
  simp
end DL
set_option maxHeartbeats 1000000
/-! k23: what is counted, what is sure, and in all ways. -/
namespace K23
open PySem PySem.Spec PyProof.Rows L2 Ax DL
/-! ### each entry once -/
/-- the first of each, behind those seen -/
def dd : List E → List E → List E
  | _, [] => []
  | seen, x :: xs => if x ∈ seen then dd (seen ++ [x]) xs else x :: dd (seen ++ [x]) xs
theorem mem_dd : ∀ {xs seen : List E} {x : E}, x ∈ dd seen xs ↔ x ∈ xs ∧ x ∉ seen
  | [], seen, x => by simp [dd]
  | y :: xs, seen, x => by
    rw [dd]
    by_cases c : y ∈ seen
    · rw [if_pos c, mem_dd]
      simp only [List.mem_append, List.mem_cons, List.not_mem_nil, or_false, not_or]
      constructor
      · rintro ⟨h1, h2, h3⟩; exact ⟨.inr h1, h2⟩
      · rintro ⟨h1 | h1, h2⟩
        · subst h1; exact absurd c h2
        · refine ⟨h1, h2, fun z => ?_⟩
          subst z
          exact h2 c
    · rw [if_neg c, List.mem_cons, mem_dd]
      simp only [List.mem_append, List.mem_cons, List.not_mem_nil, or_false, not_or]
      constructor
      · rintro (h | ⟨h1, h2, h3⟩)
        · subst h; exact ⟨.inl rfl, c⟩
        · exact ⟨.inr h1, h2⟩
      · rintro ⟨h1, h2⟩
        by_cases z : x = y
        · exact .inl z
        · exact .inr ⟨h1.resolve_left z, h2, z⟩
theorem nodup_dd : ∀ {xs seen : List E}, (dd seen xs).Nodup
  | [], seen => List.nodup_nil
  | y :: xs, seen => by
    rw [dd]
    split
    · exact nodup_dd
    · refine List.nodup_cons.mpr ⟨fun h => ?_, nodup_dd⟩
      have := (mem_dd.mp h).2
      simp at this
theorem sub_dd : ∀ {xs seen : List E}, (dd seen xs).Sublist xs
  | [], seen => List.Sublist.refl _
  | y :: xs, seen => by
    rw [dd]
    split
    · exact (sub_dd).cons _
    · exact (sub_dd).cons₂ _
def sortE (T : List E) : List E := T.mergeSort leE
theorem sortE_dd (T : List E) : sortE (dd [] T) = dd [] (sortE T) := by
  refine (PySem.W.sort_unique leE_total ?_ fun c => ?_).symm
  · exact List.Pairwise.sublist sub_dd (PySem.W.sort_pairwise leE_total T)
  · -- each group is one entry
    have key : ∀ l : List E, l.Nodup → l.filter (PySem.W.sameRank leE c) = if c ∈ l then [c] else [] := by
      intro l
      induction l with
      | nil => intro _; rfl
      | cons a l ih =>
        intro hn
        rw [List.nodup_cons] at hn
        by_cases z : a = c
        · subst z
          rw [List.filter_cons_of_pos (PySem.W.sameRank_self leE_total a), ih hn.2, if_neg hn.1, if_pos List.mem_cons_self]
        · have hf : ¬ PySem.W.sameRank leE c a = true := fun h => by
            unfold PySem.W.sameRank at h
            rw [Bool.and_eq_true] at h
            exact z (leE_anti h.2 h.1)
          rw [List.filter_cons_of_neg hf, ih hn.2]
          by_cases m : c ∈ l
          · rw [if_pos m, if_pos (List.mem_cons_of_mem _ m)]
          · rw [if_neg m, if_neg (fun h => (List.mem_cons.mp h).elim (fun y => z y.symm) m)]
    rw [key _ nodup_dd, key _ nodup_dd]
    have : c ∈ dd [] (sortE T) ↔ c ∈ dd [] T := by
      rw [mem_dd, mem_dd]
      simp [sortE, (List.mergeSort_perm T leE).mem_iff]
    by_cases m : c ∈ dd [] T
    · rw [if_pos m, if_pos (this.mpr m)]
    · rw [if_neg m, if_neg fun h => m (this.mp h)]
def cnt (T : List E) (e : E) : E × Int := (e, ((T.count e : Nat) : Int))
def counted (T : List E) : List (E × Int) := (dd [] (sortE T)).map (cnt T)
/-- pairs with each entry once, sorted as pairs -/
theorem sort_pairs (T : List E) {l : List E} (hn : l.Nodup) : sortD ((l.map (cnt T)).map pD) = ((sortE l).map (cnt T)).map pD := by
  unfold sortD sortE
  rw [List.map_map, List.map_map]
  refine (PySem.W.sort_maps (pD ∘ cnt T) (r := leE) (s := leD) fun a ha b hb => ?_).symm
  by_cases z : a = b
  · subst z
    show leE a a = leD _ _
    rw [leD_refl]
    exact leE_total.refl a
  · exact (le_p (p := cnt T a) (q := cnt T b) z).symm
theorem sort_counted (T : List E) : sortD (((dd [] T).map (cnt T)).map pD) = (counted T).map pD := by
  rw [sort_pairs T nodup_dd, sortE_dd]
  rfl
/-! ### the dict of counts -/
def nkE (e : E) : NK := .tup [.text e.1, .tup (e.2.1.map .num), .num e.2.2]
theorem dNs_nums (k : List Int) : dNs (k.map NestedKey.num) = k.map D.int := by
  induction k with
  | nil => simp [dNs]
  | cons x k ih => simp [dNs, dN, ih]
theorem dN_nkE (e : E) : dN (nkE e) = eD e := by
  simp [nkE, eD, kD, dN, dNs, dNs_nums]
theorem nkE_inj {a b : E} (h : nkE a = nkE b) : a = b := by
  have := congrArg dN h
  rw [dN_nkE, dN_nkE] at this
  have e := eqD_e a b
  rw [this] at e
  have z := eqD_e b b
  rw [z] at e
  exact of_decide_eq_true (by rw [← e]; exact decide_eq_true rfl)
theorem depth_nums (k : List Int) : NestedKey.depthAll (k.map NestedKey.num) = 0 := by
  induction k with
  | nil => simp [NestedKey.depthAll]
  | cons x k ih => simp [NestedKey.depthAll, NestedKey.depth, ih]
theorem depth_nkE (e : E) : (nkE e).depth ≤ 8 := by
  simp [nkE, NestedKey.depth, NestedKey.depthAll, depth_nums]
/-- the dict behind these entries -/
def kvOf (T : List E) : List (NK × D) := (dd [] T).map fun e => (nkE e, .int ((T.count e : Nat) : Int))
theorem getK_map {f : E → D} (e : E) : ∀ l : List E, getK (l.map fun x => (nkE x, f x)) (nkE e) = if e ∈ l then some (f e) else none
  | [] => rfl
  | x :: l => by
    unfold getK
    rw [List.map_cons, List.find?_cons]
    by_cases c : x = e
    · subst c
      simp
    · have hd : decide (nkE x = nkE e) = false := decide_eq_false fun h => c (nkE_inj h)
      rw [hd]
      have := getK_map (f := f) e l
      unfold getK at this
      simp only
      rw [this]
      have c' : ¬ e = x := fun z => c z.symm
      simp [c']
theorem dd_snoc : ∀ (T seen : List E) (e : E), dd seen (T ++ [e]) = if e ∈ seen ∨ e ∈ T then dd seen T else dd seen T ++ [e]
  | [], seen, e => by
    simp [dd]
  | x :: T, seen, e => by
    rw [List.cons_append, dd, dd, dd_snoc T]
    by_cases c : x ∈ seen
    · rw [if_pos c, if_pos c]
      by_cases h : e ∈ seen ∨ e ∈ x :: T
      · rw [if_pos h]
        have : e ∈ seen ++ [x] ∨ e ∈ T := by
          rcases h with h | h
          · exact .inl (by simp [h])
          · rcases List.mem_cons.mp h with h | h
            · exact .inl (by simp [h])
            · exact .inr h
        rw [if_pos this]
      · rw [if_neg h]
        have : ¬ (e ∈ seen ++ [x] ∨ e ∈ T) := by
          simp only [List.mem_append, List.mem_cons, List.not_mem_nil, or_false] at h ⊢
          intro z
          apply h
          rcases z with (z | z) | z
          · exact .inl z
          · exact .inr (.inl z)
          · exact .inr (.inr z)
        rw [if_neg this]
    · rw [if_neg c, if_neg c]
      by_cases h : e ∈ seen ∨ e ∈ x :: T
      · rw [if_pos h]
        have : e ∈ seen ++ [x] ∨ e ∈ T := by
          rcases h with h | h
          · exact .inl (by simp [h])
          · rcases List.mem_cons.mp h with h | h
            · exact .inl (by simp [h])
            · exact .inr h
        rw [if_pos this]
      · rw [if_neg h]
        have : ¬ (e ∈ seen ++ [x] ∨ e ∈ T) := by
          simp only [List.mem_append, List.mem_cons, List.not_mem_nil, or_false] at h ⊢
          intro z
          apply h
          rcases z with (z | z) | z
          · exact .inl z
          · exact .inr (.inl z)
          · exact .inr (.inr z)
        rw [if_neg this]
        rfl
theorem kv_get (T : List E) (e : E) : (getK (kvOf T) (nkE e)).getD (.int 0) = .int ((T.count e : Nat) : Int) := by
  unfold kvOf
  rw [getK_map (f := fun e => .int ((T.count e : Nat) : Int)) e]
  by_cases h : e ∈ dd [] T
  · rw [if_pos h]; rfl
  · rw [if_neg h]
    have : e ∉ T := fun z => h (mem_dd.mpr ⟨z, by simp⟩)
    rw [List.count_eq_zero_of_not_mem this]
    rfl
theorem kv_put (T : List E) (e : E) : DL.putK (kvOf T) (nkE e) (.int ((T.count e : Nat) + 1 : Int)) = kvOf (T ++ [e]) := by
  unfold DL.putK
  have g := getK_map (f := fun e => D.int ((T.count e : Nat) : Int)) e (dd [] T)
  have g' : getK (kvOf T) (nkE e) = if e ∈ dd [] T then some (D.int ((T.count e : Nat) : Int)) else none := g
  rw [g']
  have hm : e ∈ dd [] T ↔ e ∈ T := by rw [mem_dd]; simp
  unfold kvOf
  rw [dd_snoc]
  by_cases h : e ∈ T
  · have h2 : e ∈ ([] : List E) ∨ e ∈ T := .inr h
    rw [if_pos (hm.mpr h), if_pos h2, Option.isSome_some, if_pos rfl, List.map_map]
    refine List.map_congr_left fun x hx => ?_
    show (if nkE x = nkE e then _ else _) = _
    by_cases c : x = e
    · subst c
      rw [if_pos rfl, List.count_append, List.count_singleton_self]
      simp
    · rw [if_neg fun z => c (nkE_inj z), List.count_append]
      have : List.count x [e] = 0 := List.count_eq_zero_of_not_mem (by simp [c])
      rw [this]
      simp
  · have h2 : ¬ (e ∈ ([] : List E) ∨ e ∈ T) := by simp [h]
    rw [if_neg fun z => h (hm.mp z), if_neg h2, if_neg (by simp : ¬ (none : Option D).isSome = true), List.map_append]
    congr 1
    · refine List.map_congr_left fun x hx => ?_
      have hx' : x ∈ T := (mem_dd.mp hx).1
      have c : x ≠ e := fun z => h (z ▸ hx')
      rw [List.count_append]
      have : List.count x [e] = 0 := List.count_eq_zero_of_not_mem (by simp [c])
      rw [this]
      simp
    · show [(nkE e, D.int ((T.count e : Nat) + 1 : Int))] = [(nkE e, D.int (((T ++ [e]).count e : Nat) : Int))]
      rw [List.count_append, List.count_singleton_self]
      simp
theorem kv_it (T : List E) : (kvOf T).map itD = ((dd [] T).map (cnt T)).map pD := by
  unfold kvOf
  rw [List.map_map, List.map_map]
  refine List.map_congr_left fun e _ => ?_
  show itD (nkE e, _) = pD (cnt T e)
  simp [itD, pD, cnt, dN_nkE]
end K23
set_option maxHeartbeats 1000000
/-! k23: what is sure, told in two ways. -/
namespace K23
open PySem PySem.Spec PyProof.Rows L2 Ax DL
/-! ### by the greatest other number -/
def othersF (a : Nat) : Nat → List (E × Int) → List Int
  | _, [] => []
  | k, p :: ps => if k = a then othersF a (k + 1) ps else p.2 :: othersF a (k + 1) ps
theorem mem_others {a n : Nat} {m : Int} : ∀ {ps : List (E × Int)}, m ∈ othersF a n ps ↔ ∃ (j : Nat) (p : E × Int), n + j ≠ a ∧ ps[j]? = some p ∧ p.2 = m
  | [] => by simp [othersF]
  | p :: ps => by
    rw [othersF]
    have step : (∃ (j : Nat) (q : E × Int), n + 1 + j ≠ a ∧ ps[j]? = some q ∧ q.2 = m) ↔ ∃ (j : Nat) (q : E × Int), n + (j + 1) ≠ a ∧ (p :: ps)[j + 1]? = some q ∧ q.2 = m := by
      constructor
      · rintro ⟨j, q, h1, h2, h3⟩; exact ⟨j, q, by omega, by simpa using h2, h3⟩
      · rintro ⟨j, q, h1, h2, h3⟩; exact ⟨j, q, by omega, by simpa using h2, h3⟩
    by_cases c : n = a
    · rw [if_pos c, mem_others (n := n + 1), step]
      constructor
      · rintro ⟨j, q, h1, h2, h3⟩; exact ⟨j + 1, q, h1, h2, h3⟩
      · rintro ⟨j, q, h1, h2, h3⟩
        cases j with
        | zero => exact absurd c h1
        | succ j => exact ⟨j, q, h1, h2, h3⟩
    · rw [if_neg c, List.mem_cons, mem_others (n := n + 1), step]
      constructor
      · rintro (h | ⟨j, q, h1, h2, h3⟩)
        · exact ⟨0, p, c, rfl, h.symm⟩
        · exact ⟨j + 1, q, h1, h2, h3⟩
      · rintro ⟨j, q, h1, h2, h3⟩
        cases j with
        | zero =>
          have : p = q := by simpa using h2
          exact .inl (this ▸ h3.symm)
        | succ j => exact .inr ⟨j, q, h1, h2, h3⟩
def fitsF (L : List (E × Int)) (could total : Int) : Nat → List (E × Int) → List E
  | _, [] => []
  | k, p :: ps => if could < total - maxOr (othersF k 0 L) 0 then p.1 :: fitsF L could total (k + 1) ps else fitsF L could total (k + 1) ps
def one : List E → Option E
  | [e] => some e
  | _ => none
def sumOf (L : List (E × Int)) : Int := (L.map (·.2)).sum
def sure (L : List (E × Int)) (could : Int) : Option E := one (fitsF L could (sumOf L) 0 L)
theorem foldl_max_lt {m : Int} : ∀ {ns : List Int} {n : Int}, ns.foldl max n < m ↔ n < m ∧ ∀ x ∈ ns, x < m
  | [], n => by simp
  | x :: ns, n => by
    have h : max n x < m ↔ n < m ∧ x < m := by rw [Int.max_def]; split <;> omega
    rw [List.foldl_cons, foldl_max_lt, h]
    simp only [List.mem_cons, forall_eq_or_imp, and_assoc]
theorem maxOr_lt {ns : List Int} {m : Int} : maxOr ns 0 < m ↔ (∀ x ∈ ns, x < m) ∧ (ns = [] → 0 < m) := by
  cases ns with
  | nil => simp [maxOr]
  | cons n ns =>
    show ns.foldl max n < m ↔ _
    rw [foldl_max_lt]
    simp
theorem fits_sub {L : List (E × Int)} {could total : Int} : ∀ {ps : List (E × Int)} {k : Nat}, (fitsF L could total k ps).Sublist (ps.map (·.1))
  | [], k => List.Sublist.refl _
  | p :: ps, k => by
    rw [fitsF, List.map_cons]
    split
    · exact (fits_sub).cons₂ _
    · exact (fits_sub).cons _
theorem mem_fits {L : List (E × Int)} {could total : Int} {e : E} : ∀ {ps : List (E × Int)} {k : Nat}, e ∈ fitsF L could total k ps ↔ ∃ (j : Nat) (p : E × Int), ps[j]? = some p ∧ p.1 = e ∧ could < total - maxOr (othersF (k + j) 0 L) 0
  | [], k => by simp [fitsF]
  | p :: ps, k => by
    have step : (∃ (j : Nat) (q : E × Int), ps[j]? = some q ∧ q.1 = e ∧ could < total - maxOr (othersF (k + 1 + j) 0 L) 0) ↔ ∃ (j : Nat) (q : E × Int), (p :: ps)[j + 1]? = some q ∧ q.1 = e ∧ could < total - maxOr (othersF (k + (j + 1)) 0 L) 0 := by
      constructor
      · rintro ⟨j, q, h1, h2, h3⟩; exact ⟨j, q, by simpa using h1, h2, by rw [show k + (j + 1) = k + 1 + j by omega]; exact h3⟩
      · rintro ⟨j, q, h1, h2, h3⟩; exact ⟨j, q, by simpa using h1, h2, by rw [show k + 1 + j = k + (j + 1) by omega]; exact h3⟩
    rw [fitsF]
    by_cases c : could < total - maxOr (othersF k 0 L) 0
    · rw [if_pos c, List.mem_cons, mem_fits (k := k + 1), step]
      constructor
      · rintro (h | ⟨j, q, h1, h2, h3⟩)
        · exact ⟨0, p, rfl, h.symm, c⟩
        · exact ⟨j + 1, q, h1, h2, h3⟩
      · rintro ⟨j, q, h1, h2, h3⟩
        cases j with
        | zero =>
          have : p = q := by simpa using h1
          exact .inl (this ▸ h2.symm)
        | succ j => exact .inr ⟨j, q, h1, h2, h3⟩
    · rw [if_neg c, mem_fits (k := k + 1), step]
      constructor
      · rintro ⟨j, q, h1, h2, h3⟩; exact ⟨j + 1, q, h1, h2, h3⟩
      · rintro ⟨j, q, h1, h2, h3⟩
        cases j with
        | zero => exact absurd h3 c
        | succ j => exact ⟨j, q, h1, h2, h3⟩
/-- an entry that all the others can be false of -/
def isF (L : List (E × Int)) (could total : Int) (e : E) : Prop := ∃ n, (e, n) ∈ L ∧ total - n ≤ could
def Sure (L : List (E × Int)) (could total : Int) (e : E) : Prop := could < total ∧ isF L could total e ∧ ∀ e', isF L could total e' → e' = e
theorem nodup_all {l : List E} {e : E} (hn : l.Nodup) (he : e ∈ l) (h : ∀ x ∈ l, x = e) : l = [e] := by
  cases l with
  | nil => cases he
  | cons a l =>
    cases l with
    | nil => rw [h a List.mem_cons_self]
    | cons b l =>
      have h1 := h a List.mem_cons_self
      have h2 := h b (List.mem_cons_of_mem _ List.mem_cons_self)
      rw [h1, h2] at hn
      simp at hn
theorem one_iff {l : List E} {e : E} : one l = some e ↔ l = [e] := by
  unfold one
  split
  · simp
  · rename_i h
    constructor
    · intro z; cases z
    · intro z; exact absurd z (h e)
theorem sure_iff {L : List (E × Int)} {could : Int} {e : E} (hn : (L.map (·.1)).Nodup) (h1 : ∀ p ∈ L, 1 ≤ p.2) (h0 : 0 ≤ could) : sure L could = some e ↔ Sure L could (sumOf L) e := by
  unfold sure
  rw [one_iff]
  have nd : (fitsF L could (sumOf L) 0 L).Nodup := hn.sublist fits_sub
  -- a place tells its entry
  have inj : ∀ {i j : Nat} {p q : E × Int}, L[i]? = some p → L[j]? = some q → p.1 = q.1 → i = j := by
    intro i j p q hi hj hpq
    have a : (L.map (·.1))[i]? = some p.1 := by rw [List.getElem?_map, hi]; rfl
    have b : (L.map (·.1))[j]? = some q.1 := by rw [List.getElem?_map, hj]; rfl
    refine (List.getElem?_inj (List.getElem?_eq_some_iff.mp a).1 hn).mp ?_
    rw [a, b, hpq]
  have mem : ∀ {x : E}, x ∈ fitsF L could (sumOf L) 0 L ↔ (∃ n, (x, n) ∈ L) ∧ could < sumOf L ∧ ∀ p ∈ L, p.1 ≠ x → could < sumOf L - p.2 := by
    intro x
    rw [mem_fits]
    constructor
    · rintro ⟨j, p, hj, rfl, hc⟩
      rw [Nat.zero_add] at hc
      have hm : maxOr (othersF j 0 L) 0 < sumOf L - could := by omega
      rw [maxOr_lt] at hm
      have hp : p ∈ L := List.mem_of_getElem? hj
      have oth : ∀ q ∈ L, q.1 ≠ p.1 → could < sumOf L - q.2 := by
        intro q hq hne
        obtain ⟨i, hi⟩ := List.mem_iff_getElem?.mp hq
        have hij : i ≠ j := fun z => by
          subst z
          rw [hi] at hj
          exact hne (by rw [Option.some.inj hj])
        have := hm.1 q.2 (mem_others.mpr ⟨i, q, by omega, hi, rfl⟩)
        omega
      refine ⟨⟨p.2, hp⟩, ?_, oth⟩
      by_cases z : othersF j 0 L = []
      · have := hm.2 z; omega
      · obtain ⟨m, hmm⟩ := List.exists_mem_of_ne_nil _ z
        obtain ⟨i, q, hi, hq, rfl⟩ := mem_others.mp hmm
        have a := hm.1 _ hmm
        have b := h1 q (List.mem_of_getElem? hq)
        omega
    · rintro ⟨⟨n, hx⟩, hc, oth⟩
      obtain ⟨j, hj⟩ := List.mem_iff_getElem?.mp hx
      refine ⟨j, (x, n), hj, rfl, ?_⟩
      rw [Nat.zero_add]
      have hm : maxOr (othersF j 0 L) 0 < sumOf L - could := by
        rw [maxOr_lt]
        refine ⟨fun m hmm => ?_, fun _ => by omega⟩
        obtain ⟨i, q, hi, hq, rfl⟩ := mem_others.mp hmm
        have hne : q.1 ≠ x := fun z => hi (by
          have := inj hq hj z
          omega)
        have := oth q (List.mem_of_getElem? hq) hne
        omega
      omega
  constructor
  · intro hl
    have he : e ∈ fitsF L could (sumOf L) 0 L := by rw [hl]; exact List.mem_cons_self
    obtain ⟨⟨n, hen⟩, hc, oth⟩ := mem.mp he
    have hF : isF L could (sumOf L) e := by
      by_cases z : sumOf L - n ≤ could
      · exact ⟨n, hen, z⟩
      · exfalso
        -- then all fit, so there is no other
        have all : ∀ p ∈ L, could < sumOf L - p.2 := by
          intro p hp
          by_cases y : p.1 = e
          · obtain ⟨i, hi⟩ := List.mem_iff_getElem?.mp hp
            obtain ⟨j, hj⟩ := List.mem_iff_getElem?.mp hen
            have := inj hi hj y
            subst this
            rw [hi] at hj
            rw [Option.some.inj hj]
            show could < sumOf L - n
            omega
          · exact oth p hp y
        have only : ∀ x ∈ L.map (·.1), x = e := by
          intro x hx
          obtain ⟨p, hp, rfl⟩ := List.mem_map.mp hx
          have : p.1 ∈ fitsF L could (sumOf L) 0 L := mem.mpr ⟨⟨p.2, hp⟩, hc, fun q hq _ => all q hq⟩
          rw [hl] at this
          simpa using this
        have hone := nodup_all hn (List.mem_map.mpr ⟨_, hen, rfl⟩) only
        cases L with
        | nil => cases hen
        | cons p l =>
          cases l with
          | nil =>
            have hp' : (e, n) = p := by simpa using hen
            have hp := hp'.symm
            have hs : sumOf [p] = p.2 := by simp [sumOf]
            rw [hs, hp] at z
            apply z
            show n - n ≤ could
            omega
          | cons q l => simp at hone
    refine ⟨hc, hF, fun e' he' => ?_⟩
    by_cases z : e' = e
    · exact z
    · obtain ⟨n', hen', hle⟩ := he'
      have := oth _ hen' z
      simp only at this
      omega
  · rintro ⟨hc, ⟨n, hen, hle⟩, huniq⟩
    refine nodup_all nd (mem.mpr ⟨⟨n, hen⟩, hc, fun p hp hne => ?_⟩) fun x hx => ?_
    · by_cases z : could < sumOf L - p.2
      · exact z
      · exact absurd (huniq p.1 ⟨p.2, hp, by omega⟩) hne
    · obtain ⟨_, _, oth⟩ := mem.mp hx
      by_cases z : x = e
      · exact z
      · have := oth _ hen (fun y => z y.symm)
        simp only at this
        omega
/-! ### by all ways to be false -/
def ways : Nat → List (List Bool)
  | 0 => [[]]
  | k + 1 => (ways k).map (· ++ [true]) ++ (ways k).map (· ++ [false])
theorem mem_ways : ∀ {k : Nat} {w : List Bool}, w ∈ ways k ↔ w.length = k
  | 0, w => by simp [ways, List.length_eq_zero_iff]
  | k + 1, w => by
    rw [ways, List.mem_append, List.mem_map, List.mem_map]
    constructor
    · rintro (⟨u, hu, rfl⟩ | ⟨u, hu, rfl⟩) <;> simp [mem_ways.mp hu]
    · intro h
      have hne : w ≠ [] := fun z => by rw [z] at h; cases h
      have e := List.dropLast_concat_getLast hne
      have hl : w.dropLast ∈ ways k := mem_ways.mpr (by rw [List.length_dropLast]; omega)
      cases q : w.getLast hne with
      | true => rw [q] at e; exact .inl ⟨_, hl, e⟩
      | false => rw [q] at e; exact .inr ⟨_, hl, e⟩
theorem len_ways : ∀ k : Nat, (ways k).length = 2 ^ k
  | 0 => rfl
  | k + 1 => by simp [ways, len_ways k, Nat.pow_succ]; omega
def falses (w : List Bool) : Nat := (w.filter id).length
def sel : List E → List Bool → List E
  | x :: xs, b :: bs => if b = true then sel xs bs else x :: sel xs bs
  | _, _ => []
theorem sel_len : ∀ {T : List E} {w : List Bool}, w.length = T.length → (sel T w).length + falses w = T.length
  | [], [], _ => rfl
  | [], _ :: _, h => by cases h
  | _ :: _, [], h => by cases h
  | x :: T, b :: w, h => by
    have ih := sel_len (T := T) (w := w) (by simpa using h)
    cases b with
    | true =>
      simp only [sel, falses, if_true, List.filter_cons, id, List.length_cons] at ih ⊢
      omega
    | false =>
      simp only [sel, falses, List.filter_cons, id, List.length_cons] at ih ⊢
      simp
      omega
theorem sel_sub : ∀ {T : List E} {w : List Bool}, (sel T w).Sublist T
  | [], [] => List.Sublist.refl _
  | [], _ :: _ => List.Sublist.refl _
  | _ :: _, [] => by simp [sel]
  | x :: T, b :: w => by
    rw [sel]
    split
    · exact (sel_sub).cons _
    · exact (sel_sub).cons₂ _
theorem sel_own (e : E) : ∀ T : List E, sel T (T.map fun x => decide (x ≠ e)) = T.filter (fun x => decide (x = e))
  | [] => rfl
  | x :: T => by
    rw [List.map_cons, sel, sel_own e T]
    by_cases c : x = e
    · simp [c]
    · simp [c]
theorem falses_own (e : E) (T : List E) : falses (T.map fun x => decide (x ≠ e)) + T.count e = T.length := by
  have h := sel_len (T := T) (w := T.map fun x => decide (x ≠ e)) (by simp)
  rw [sel_own] at h
  have : (T.filter fun x => decide (x = e)).length = T.count e := by
    rw [List.count, ← List.countP_eq_length_filter]
    congr 1
    funext x
    by_cases c : x = e <;> simp [c]
  omega
def goF (T : List E) (could : Int) : List (List Bool) → List E → Option (List E)
  | [], f => some f
  | w :: ws, f => if ((falses w : Nat) : Int) ≤ could then (match sel T w with
    | [] => none
    | r :: rs => if (∀ x ∈ r :: rs, x = r) ∧ r ∉ f then goF T could ws (f ++ [r]) else goF T could ws f) else goF T could ws f
def Got (T : List E) (could : Int) (ws : List (List Bool)) (e : E) : Prop := ∃ w ∈ ws, ((falses w : Nat) : Int) ≤ could ∧ ∃ rs, sel T w = e :: rs ∧ ∀ x ∈ e :: rs, x = e
theorem go_none {T : List E} {could : Int} : ∀ {ws : List (List Bool)} {f : List E}, goF T could ws f = none ↔ ∃ w ∈ ws, ((falses w : Nat) : Int) ≤ could ∧ sel T w = []
  | [], f => by simp [goF]
  | w :: ws, f => by
    rw [goF]
    by_cases c : ((falses w : Nat) : Int) ≤ could
    · rw [if_pos c]
      cases q : sel T w with
      | nil => simp [c, q]
      | cons r rs =>
        simp only
        split
        · rw [go_none]; simp [q]
        · rw [go_none]; simp [q]
    · rw [if_neg c, go_none]
      simp [c]
theorem go_some {T : List E} {could : Int} : ∀ {ws : List (List Bool)} {f f' : List E}, goF T could ws f = some f' → (f.Nodup → f'.Nodup) ∧ ∀ e, e ∈ f' ↔ e ∈ f ∨ Got T could ws e
  | [], f, f', h => by
    simp only [goF, Option.some.injEq] at h
    subst h
    exact ⟨id, fun e => by simp [Got]⟩
  | w :: ws, f, f', h => by
    have cons : ∀ e, Got T could (w :: ws) e ↔ (((falses w : Nat) : Int) ≤ could ∧ ∃ rs, sel T w = e :: rs ∧ ∀ x ∈ e :: rs, x = e) ∨ Got T could ws e := by
      intro e
      unfold Got
      simp [List.mem_cons]
    rw [goF] at h
    by_cases c : ((falses w : Nat) : Int) ≤ could
    · rw [if_pos c] at h
      cases q : sel T w with
      | nil => rw [q] at h; cases h
      | cons r rs =>
        rw [q] at h
        simp only at h
        split at h
        · rename_i hr
          obtain ⟨h1, h2⟩ := go_some h
          refine ⟨fun hn => h1 (by
            rw [List.nodup_append]
            refine ⟨hn, by simp, fun a ha b hb => ?_⟩
            rw [List.mem_singleton.mp hb]
            exact fun z => hr.2 (z ▸ ha)), fun e => ?_⟩
          rw [h2 e, cons e, List.mem_append, List.mem_singleton]
          constructor
          · rintro ((z | z) | z)
            · exact .inl z
            · subst z
              exact .inr (.inl ⟨c, rs, q, hr.1⟩)
            · exact .inr (.inr z)
          · rintro (z | ⟨_, rs', e1, e2⟩ | z)
            · exact .inl (.inl z)
            · rw [q] at e1
              injection e1 with a b
              exact .inl (.inr a.symm)
            · exact .inr z
        · rename_i hr
          obtain ⟨h1, h2⟩ := go_some h
          refine ⟨h1, fun e => ?_⟩
          rw [h2 e, cons e]
          constructor
          · rintro (z | z)
            · exact .inl z
            · exact .inr (.inr z)
          · rintro (z | ⟨_, rs', e1, e2⟩ | z)
            · exact .inl z
            · rw [q] at e1
              injection e1 with a b
              subst a b
              by_cases y : r ∈ f
              · exact .inl y
              · exact absurd ⟨e2, y⟩ hr
            · exact .inr z
    · rw [if_neg c] at h
      obtain ⟨h1, h2⟩ := go_some h
      refine ⟨h1, fun e => ?_⟩
      rw [h2 e, cons e]
      simp [c]
def only (T : List E) (could : Int) : Option E := match goF T could (ways T.length) [] with
  | none => none
  | some f => one f
def isT (T : List E) (could : Int) (e : E) : Prop := e ∈ T ∧ (T.length : Int) - T.count e ≤ could
theorem got_iff {T : List E} {could : Int} {e : E} : Got T could (ways T.length) e ↔ isT T could e := by
  constructor
  · rintro ⟨w, hw, hc, rs, hs, hall⟩
    have hl := mem_ways.mp hw
    have h1 := sel_len hl
    have hsub := sel_sub (T := T) (w := w)
    have hmem : e ∈ T := hsub.subset (by rw [hs]; exact List.mem_cons_self)
    have hcnt : (sel T w).length ≤ T.count e := by
      have a : (sel T w).count e = (sel T w).length := by
        rw [List.count_eq_length]
        intro x hx
        rw [hs] at hx
        exact (hall x hx).symm
      rw [← a]
      exact hsub.count_le e
    exact ⟨hmem, by omega⟩
  · rintro ⟨hm, hc⟩
    have h1 := falses_own e T
    have hpos : 0 < T.count e := List.count_pos_iff.mpr hm
    refine ⟨T.map fun x => decide (x ≠ e), mem_ways.mpr (by simp), by omega, ?_⟩
    rw [sel_own]
    have hne : (T.filter fun x => decide (x = e)) ≠ [] := fun z => by
      have : e ∈ T.filter fun x => decide (x = e) := List.mem_filter.mpr ⟨hm, by simp⟩
      rw [z] at this
      cases this
    have hall : ∀ x ∈ T.filter (fun x => decide (x = e)), x = e := fun x hx => of_decide_eq_true (List.mem_filter.mp hx).2
    cases q : T.filter (fun x => decide (x = e)) with
    | nil => exact absurd q hne
    | cons r rs =>
      rw [q] at hall
      have hr := hall r List.mem_cons_self
      subst hr
      exact ⟨rs, rfl, hall⟩
theorem none_iff {T : List E} {could : Int} : goF T could (ways T.length) [] = none ↔ (T.length : Int) ≤ could := by
  rw [go_none]
  constructor
  · rintro ⟨w, hw, hc, hs⟩
    have h1 := sel_len (mem_ways.mp hw)
    rw [hs] at h1
    simp at h1
    omega
  · intro h
    refine ⟨List.replicate T.length true, mem_ways.mpr (by simp), ?_, ?_⟩
    · have : falses (List.replicate T.length true) = T.length := by simp [falses]
      rw [this]; exact h
    · have h1 := sel_len (T := T) (w := List.replicate T.length true) (by simp)
      have : falses (List.replicate T.length true) = T.length := by simp [falses]
      rw [this] at h1
      exact List.length_eq_zero_iff.mp (by omega)
theorem only_iff {T : List E} {could : Int} {e : E} : only T could = some e ↔ could < T.length ∧ isT T could e ∧ ∀ e', isT T could e' → e' = e := by
  unfold only
  cases q : goF T could (ways T.length) [] with
  | none =>
    simp only
    have := none_iff.mp q
    constructor
    · intro z; cases z
    · rintro ⟨h, _⟩; omega
  | some f =>
    simp only
    have hlt : could < T.length := by
      have : ¬ (T.length : Int) ≤ could := fun z => by rw [none_iff.mpr z] at q; cases q
      omega
    obtain ⟨h1, h2⟩ := go_some q
    have nd := h1 List.nodup_nil
    have mem : ∀ x, x ∈ f ↔ isT T could x := fun x => by rw [h2 x, got_iff]; simp
    rw [one_iff]
    constructor
    · intro z
      subst z
      exact ⟨hlt, (mem e).mp List.mem_cons_self, fun e' he' => by simpa using (mem e').mpr he'⟩
    · rintro ⟨_, he, hu⟩
      exact nodup_all nd ((mem e).mpr he) fun x hx => hu x ((mem x).mp hx)
/-! ### both are one -/
theorem sum_counts : ∀ (T : List E) (l : List E), l.Nodup → (∀ x ∈ T, x ∈ l) → ((l.map fun e => ((T.count e : Nat) : Int)).sum) = T.length
  | T, [], _, h => by
    cases T with
    | nil => rfl
    | cons x T => exact absurd (h x List.mem_cons_self) (by simp)
  | T, a :: l, hn, h => by
    rw [List.nodup_cons] at hn
    have ih := sum_counts (T.filter fun x => decide (x ≠ a)) l hn.2 fun x hx => by
      obtain ⟨h1, h2⟩ := List.mem_filter.mp hx
      have h2 := of_decide_eq_true h2
      exact (List.mem_cons.mp (h x h1)).resolve_left h2
    have e1 : (l.map fun e => (((T.filter fun x => decide (x ≠ a)).count e : Nat) : Int)) = l.map fun e => ((T.count e : Nat) : Int) := by
      refine List.map_congr_left fun e he => ?_
      have : e ≠ a := fun z => hn.1 (z ▸ he)
      rw [List.count_filter (by simp [this])]
    rw [List.map_cons, List.sum_cons, ← e1, ih]
    have h2 := sel_len (T := T) (w := T.map fun x => decide (x ≠ a)) (by simp)
    have h3 := falses_own a T
    have h4 : (T.filter fun x => decide (x ≠ a)).length = falses (T.map fun x => decide (x ≠ a)) := by
      unfold falses
      rw [List.filter_map, List.length_map]
      rfl
    rw [h4]
    omega
theorem sum_perm {L L' : List (E × Int)} (h : L.Perm L') : sumOf L = sumOf L' := by
  unfold sumOf
  induction h with
  | nil => rfl
  | cons x _ ih => simp only [List.map_cons, List.sum_cons, ih]
  | swap x y l => simp only [List.map_cons, List.sum_cons]; omega
  | trans _ _ ih1 ih2 => exact ih1.trans ih2
theorem sure_only {T : List E} {L : List (E × Int)} {could : Int} (hp : L.Perm (counted T)) (h0 : 0 ≤ could) : sure L could = only T could := by
  have nd : ((counted T).map (·.1)).Nodup := by
    unfold counted
    rw [List.map_map]
    show ((dd [] (sortE T)).map (fun e => e)).Nodup
    rw [List.map_id']
    exact nodup_dd
  have memC : ∀ {e : E} {n : Int}, (e, n) ∈ counted T ↔ e ∈ T ∧ n = T.count e := by
    intro e n
    unfold counted
    rw [List.mem_map]
    constructor
    · rintro ⟨x, hx, hxe⟩
      have hx' := (mem_dd.mp hx).1
      unfold cnt at hxe
      injection hxe with a b
      subst a
      exact ⟨(List.mergeSort_perm T leE).mem_iff.mp hx', b.symm⟩
    · rintro ⟨h, rfl⟩
      exact ⟨e, mem_dd.mpr ⟨(List.mergeSort_perm T leE).mem_iff.mpr h, by simp⟩, rfl⟩
  have hn : (L.map (·.1)).Nodup := (hp.map (·.1)).nodup_iff.mpr nd
  have h1 : ∀ p ∈ L, 1 ≤ p.2 := by
    intro p hpL
    obtain ⟨a, b⟩ := memC.mp (hp.mem_iff.mp hpL)
    have := List.count_pos_iff.mpr a
    omega
  have hs : sumOf L = T.length := by
    rw [sum_perm hp]
    unfold sumOf counted
    rw [List.map_map]
    exact sum_counts T (dd [] (sortE T)) nodup_dd fun x hx => mem_dd.mpr ⟨(List.mergeSort_perm T leE).mem_iff.mpr hx, by simp⟩
  have hF : ∀ e, isF L could (sumOf L) e ↔ isT T could e := by
    intro e
    unfold isF isT
    rw [hs]
    constructor
    · rintro ⟨n, hn, hle⟩
      obtain ⟨a, b⟩ := memC.mp (hp.mem_iff.mp hn)
      exact ⟨a, by omega⟩
    · rintro ⟨a, b⟩
      exact ⟨_, hp.mem_iff.mpr (memC.mpr ⟨a, rfl⟩), b⟩
  refine Option.ext fun e => ?_
  rw [sure_iff hn h1 h0, only_iff]
  unfold Sure
  rw [hs] at hF ⊢
  simp only [hF]
end K23
/-! Readings that leave the state as it is, and rules of readings by their values. -/
namespace DL
open PySem PySem.Spec PyProof.Rows L2 Ax
def Ev (g : GX) (s : Stt) (w : W) : Prop := ∀ Φ : W → Stt → Prop, Φ w s → g s Φ
def EvB (g : GB) (s : Stt) (b : Bool) : Prop := ∀ Φ : Bool → Stt → Prop, Φ b s → g s Φ
def EvA (g : GA) (s : Stt) (ws : List W) : Prop := ∀ Φ : List W → Stt → Prop, Φ ws s → g s Φ
def EvI (g : GI) (s : Stt) (ds : List D) : Prop := ∀ Φ : List D → Stt → Prop, Φ ds s → g s Φ
def EvO (g : Stt → (Option Int → Stt → Prop) → Prop) (s : Stt) (o : Option Int) : Prop := ∀ Φ : Option Int → Stt → Prop, Φ o s → g s Φ
section
variable {s s' s2 : Stt} {g g1 g2 : GX} {gt gt1 gt2 : GB} {ga gk : GA} {w w1 w2 : W} {d e : D} {ds es : List D} {ws us : List W} {b b1 b2 : Bool} {i : Nat}
theorem Ev.name (h : s.r[i]? = some (some (.val d))) : Ev (gName i) s (.dat d) := fun Φ q => by
  unfold gName; rw [h]; exact q
theorem Ev.nameO (h : s.r[i]? = some (some (.own ds))) : Ev (gName i) s (.loc i) := fun Φ q => by
  unfold gName; rw [h]; exact q
theorem Ev.dt : Ev (gDat d) s (.dat d) := fun _ q => q
theorem Ev.bin {f : D → D → Option W} (h1 : Ev g1 s w1) (h2 : Ev g2 s w2) (r1 : rd w1 s = some d) (r2 : rd w2 s = some e) (h : f d e = some w) : Ev (gBin f g1 g2) s w := fun _ q => h1 _ (h2 _ ⟨d, e, w, r1, r2, h, q⟩)
theorem Ev.un {f : D → Option W} (h1 : Ev g1 s w1) (r1 : rd w1 s = some d) (h : f d = some w) : Ev (gUn f g1) s w := fun _ q => h1 _ ⟨d, w, r1, h, q⟩
theorem Ev.and (h1 : Ev g1 s w1) (r1 : rd w1 s = some (.bl b1)) (h2 : b1 = true → Ev g2 s w2 ∧ rd w2 s = some (.bl b2) ∧ w2 = .dat (.bl b2)) : Ev (gAnd g1 g2) s (.dat (.bl (b1 && b2))) := fun Φ q => h1 _ ⟨b1, r1, by
  cases b1 with
  | true =>
    obtain ⟨x, y, z⟩ := h2 rfl
    rw [if_pos rfl]
    subst z
    exact x _ q
  | false => exact q⟩
theorem Ev.or (h1 : Ev g1 s w1) (r1 : rd w1 s = some (.bl b1)) (h2 : b1 = false → Ev g2 s (.dat (.bl b2))) : Ev (gOr g1 g2) s (.dat (.bl (b1 || b2))) := fun Φ q => h1 _ ⟨b1, r1, by
  cases b1 with
  | false =>
    rw [if_neg (by decide)]
    exact h2 rfl _ q
  | true => exact q⟩
theorem Ev.not (h1 : Ev g1 s w1) (r1 : rd w1 s = some (.bl b1)) : Ev (gNot g1) s (.dat (.bl (!b1))) := fun Φ q => h1 _ ⟨b1, r1, q⟩
theorem Ev.isN (h1 : Ev g1 s w1) (r1 : rd w1 s = some d) : Ev (gIsN g1) s (.dat (.bl (isNonD d))) := fun Φ q => h1 _ ⟨d, r1, q⟩
theorem Ev.notN (h1 : Ev g1 s w1) (r1 : rd w1 s = some d) : Ev (gNotN g1) s (.dat (.bl (!isNonD d))) := fun Φ q => h1 _ ⟨d, r1, q⟩
theorem Ev.ifT (h : EvB gt s true) (h1 : Ev g1 s w) : Ev (gIf gt g1 g2) s w := fun Φ q => h _ (by rw [if_pos rfl]; exact h1 _ q)
theorem Ev.ifF (h : EvB gt s false) (h1 : Ev g2 s w) : Ev (gIf gt g1 g2) s w := fun Φ q => h _ (by rw [if_neg (by decide)]; exact h1 _ q)
theorem EvB.v (h1 : Ev g1 s w1) (r1 : rd w1 s = some (.bl b)) : EvB (gTv g1) s b := fun Φ q => h1 _ ⟨b, r1, q⟩
theorem EvB.of (h : EvB gt s b) (e : b = b1) : EvB gt s b1 := e ▸ h
theorem EvB.not (h : EvB gt s b) : EvB (gTNot gt) s (!b) := fun Φ q => h _ q
theorem EvB.yes : EvB gYes s true := fun Φ q => q
theorem EvB.and (h1 : EvB gt1 s b1) (h2 : b1 = true → EvB gt2 s b2) : EvB (gTAnd gt1 gt2) s (b1 && b2) := fun Φ q => h1 _ (by
  cases b1 with
  | true => rw [if_pos rfl]; exact h2 rfl _ q
  | false => exact q)
theorem EvB.or (h1 : EvB gt1 s b1) (h2 : b1 = false → EvB gt2 s b2) : EvB (gTOr gt1 gt2) s (b1 || b2) := fun Φ q => h1 _ (by
  cases b1 with
  | false => rw [if_neg (by decide)]; exact h2 rfl _ q
  | true => exact q)
theorem EvA.nil : EvA gaNil s [] := fun _ q => q
theorem EvA.cons (h1 : Ev g s w) (h2 : EvA ga s ws) : EvA (gaCons g ga) s (fixW w :: ws) := fun Φ q => h1 _ (h2 _ q)
theorem EvA.one (h1 : Ev g s w) : EvA (gaCons g gaNil) s [fixW w] := .cons h1 .nil
theorem Ev.tup (h : EvA ga s ws) (r : frzA ws s = some (ds, s)) (hl : ws.length ≤ 1000) : Ev (gTup ga) s (.dat (.tup ds)) := fun Φ q => h _ ⟨ds, s, r, hl, q⟩
theorem Ev.lst (h : EvA ga s ws) (r : frzA ws s = some (ds, s)) (hl : ws.length ≤ 1000) : Ev (gLst ga) s (.new ds) := fun Φ q => h _ ⟨ds, s, r, hl, q⟩
theorem Ev.cl {f : List D → Option W} (h : EvA ga s ws) (r : rdA ws s = some ds) (hf : f ds = some w) : Ev (gCl f ga) s w := fun Φ q => h _ ⟨ds, w, r, hf, q⟩
theorem Ev.isi {n : String} (h1 : Ev g1 s w1) (r1 : rd w1 s = some d) (hb : isiD n d = some b) : Ev (gIsi n g1) s (.dat (.bl b)) := fun Φ q => h1 _ ⟨d, b, r1, hb, q⟩
theorem Ev.sorted (h : EvA ga s ws) (r : rdA ws s = some [.lst ds]) (ok : okS ds) : Ev (gSorted ga) s (.new (sortD ds)) := fun Φ q => h _ ⟨ds, r, ok, q⟩
theorem Ev.count (h1 : Ev g1 s w1) (r1 : rd w1 s = some (.lst ds)) (h2 : Ev g2 s w2) (r2 : rd w2 s = some d) (o1 : okD (.lst ds) = true) (o2 : okD d = true) : Ev (gCount g1 g2) s (.dat (.int ((ds.countP fun z => eqD z d : Nat) : Int))) :=
  fun Φ q => h1 _ ⟨⟨ds, r1⟩, h2 _ ⟨ds, d, r1, r2, o1, o2, q⟩⟩
theorem Ev.sl {gl gh : Stt → (Option Int → Stt → Prop) → Prop} {lo hi : Option Int} (h1 : Ev g s w1) (hl : EvO gl s lo) (hh : EvO gh s hi) (r1 : rd w1 s = some d) (h : fSl d lo hi = some w) : Ev (gSl g gl gh) s w :=
  fun Φ q => h1 _ (hl _ (hh _ ⟨d, w, r1, h, q⟩))
theorem EvO.none : EvO goNone s none := fun _ q => q
theorem EvO.some {j : Int} (h1 : Ev g s w) (r : rd w s = some (.int j)) : EvO (goSome g) s (some j) := fun _ q => h1 _ ⟨j, r, q⟩
theorem Ev.maxA {ns : List Int} {k : Int} (h : EvA ga s ws) (hk : EvA gk s us) (r : rdA ws s = some [.lst (ns.map D.int)]) (rk : rdA us s = some [.int k]) : Ev (gMaxA ga gk) s (.dat (.int (maxOr ns k))) := fun Φ q => h _ (hk _ ⟨ns, k, r, rk, q⟩)
theorem EvI.seq (h : Ev g s w) (r : frz w s = some (d, s)) (hi : itemsD d = some ds) : EvI (giSeq g) s ds := fun Φ q => h _ ⟨d, s, ds, r, hi, q⟩
theorem EvI.range1 {j : Int} (h : EvA ga s ws) (r : rdA ws s = some [.int j]) (hj : -(2 ^ 62) ≤ j ∧ j < 2 ^ 62) : EvI (giRange1 ga) s (rangeD 0 j.toNat) := fun Φ q => h _ ⟨j, r, hj, q⟩
theorem EvI.enum (h : EvA ga s ws) (e1 : ws = [w]) (r : frz w s = some (d, s)) (hi : itemsD d = some ds) : EvI (giEnum ga) s ((enumD 0 ds).map fun p => D.tup [p.1, p.2]) := fun Φ q => h _ ⟨w, d, s, ds, e1, r, hi, q⟩
/-! ### promises -/
theorem Ev.call {G : GF} {dd : List D} (h : EvA ga s ws) (r : frzA ws s = some (ds, s)) (hG : ∀ Φ : D → Prop, Φ d → G (ds ++ dd) Φ) : Ev (gCall G dd ga) s (.dat d) := fun Φ q => h _ ⟨ds, s, r, hG _ q⟩
theorem Ev.callN {G : GF} {gV : List D → List D → List D} {n m : Nat} (h : EvA ga s ws) (hk : EvA gk s us) (r : frzA ws s = some (ds, s)) (rk : frzA us s = some (es, s)) (l1 : ds.length = n) (l2 : es.length = m) (hG : ∀ Φ : D → Prop, Φ d → G (gV ds es) Φ) :
    Ev (gCallN n m G gV ga gk) s (.dat d) := fun Φ q => h _ (hk _ ⟨ds, es, s, s, r, rk, l1, l2, hG _ q⟩)
theorem callB {G : GFB} {Φ : W → Stt → Prop} (hb : s.r[i]? = some (some .bag)) (h : EvA ga s ws) (r : frzA ws s = some (ds, s)) (hG : G ds s.n fun d n' => Φ (.dat d) { s with n := n' }) : gCallB i G ga s Φ := ⟨hb, h _ ⟨ds, s, r, hG⟩⟩
end
theorem div_int {i j : Int} (h : CDiv i j) : fIc CDiv (fun i j => i / j) (.int i) (.int j) = some (.dat (.int (i / j))) := if_pos h
theorem cutD_to (xs : List D) (k : Nat) : cutD xs none (some (k : Int)) = xs.take k := by
  unfold cutD
  rw [HT.sIx_nat, HT.sIx_none, List.drop_zero, Nat.sub_zero]
  by_cases h : k ≤ xs.length
  · rw [Nat.min_eq_left h]
  · rw [Nat.min_eq_right (by omega), List.take_of_length_le (Nat.le_refl _), List.take_of_length_le (by omega)]
theorem cutD_from (xs : List D) (k : Nat) : cutD xs (some (k : Int)) none = xs.drop k := by
  unfold cutD
  rw [HT.sIx_nat, HT.sIx_none]
  by_cases h : k ≤ xs.length
  · rw [Nat.min_eq_left h, List.take_of_length_le (by rw [List.length_drop]; omega)]
  · rw [Nat.min_eq_right (by omega), List.drop_eq_nil_of_le (Nat.le_refl _), List.drop_eq_nil_of_le (by omega), List.take_nil]
theorem add_lst {ds es : List D} (h : ds.length + es.length ≤ 1000000) : fAdd (.lst ds) (.lst es) = some (.new (ds ++ es)) := by
  simp [fAdd, orF, fI, fCat, h]
theorem add_tup {ds es : List D} (h : ds.length + es.length ≤ 1000000) : fAdd (.tup ds) (.tup es) = some (.dat (.tup (ds ++ es))) := by
  simp [fAdd, orF, fI, fCat, fCatT, h]
theorem add_int (i j : Int) : fAdd (.int i) (.int j) = some (.dat (.int (i + j))) := rfl
theorem allI_ints : ∀ l : List Int, allI (l.map D.int) = some l
  | [] => rfl
  | x :: l => by simp only [List.map_cons, allI, allI_ints l]
theorem sum_ints (l : List Int) : fSum [.lst (l.map D.int)] = some (.dat (.int l.sum)) := by
  show (allI (l.map D.int)).map _ = _
  rw [allI_ints]; rfl
theorem allB_bls : ∀ l : List Bool, DL.allB (l.map D.bl) = some l
  | [] => rfl
  | x :: l => by simp only [List.map_cons, DL.allB, allB_bls l]
theorem all_bls (l : List Bool) : fAll [.lst (l.map D.bl)] = some (.dat (.bl (l.all id))) := by
  show (DL.allB (l.map D.bl)).map _ = _
  rw [allB_bls]; rfl
theorem any_bls (l : List Bool) : fAny [.lst (l.map D.bl)] = some (.dat (.bl (l.any id))) := by
  show (DL.allB (l.map D.bl)).map _ = _
  rw [allB_bls]; rfl
def enumL {α : Type} : Nat → List α → List (Nat × α)
  | _, [] => []
  | k, e :: es => (k, e) :: enumL (k + 1) es
theorem enumL_D {α : Type} (f : α → D) : ∀ (k : Nat) (l : List α), (enumD k (l.map f)).map (fun p => D.tup [p.1, p.2]) = (enumL k l).map fun p => D.tup [.int (p.1 : Nat), f p.2]
  | _, [] => rfl
  | k, e :: l => by
    rw [List.map_cons, enumD, List.map_cons, enumL_D f (k + 1) l]
    rfl
theorem enumL_at {α : Type} : ∀ {l : List α} {k : Nat} {p : Nat × α}, p ∈ enumL k l → ∃ j, p.1 = k + j ∧ l[j]? = some p.2
  | [], k, p, h => by cases h
  | e :: l, k, p, h => by
    rcases List.mem_cons.mp h with rfl | h
    · exact ⟨0, rfl, rfl⟩
    · obtain ⟨j, h1, h2⟩ := enumL_at h
      exact ⟨j + 1, by omega, h2⟩
theorem enumL_len {α : Type} : ∀ (k : Nat) (l : List α), (enumL k l).length = l.length
  | _, [] => rfl
  | k, e :: l => by rw [enumL, List.length_cons, enumL_len (k + 1) l, List.length_cons]
/-! ### comprehensions -/
theorem getD_len {r : List (Option En)} {j : Nat} (h : j < r.length) : some ((r[j]?).getD none) = r[j]? := by
  rw [List.getElem?_eq_getElem h]; rfl
theorem back_wipe : ∀ {r0 r1 : List (Option En)} {vs : List Nat}, wipeS r1 vs = wipeS r0 vs → backS r0 r1 vs = r0 := by
  intro r0 r1 vs h
  have hl : r1.length = r0.length := by rw [← wipeS_len r1 vs, h, wipeS_len]
  have out : ∀ (r : List (Option En)) (j : Nat) (vs : List Nat), j ∉ vs → (wipeS r vs)[j]? = r[j]? := by
    intro r j vs
    induction vs with
    | nil => intro _; rfl
    | cons v vs ih =>
      intro hj
      rw [List.mem_cons, not_or] at hj
      rw [wipeS, List.getElem?_set_ne (Ne.symm hj.1)]
      exact ih hj.2
  apply List.ext_getElem?
  intro j
  by_cases c : j ∈ vs
  · by_cases q : j < r0.length
    · exact backS_in hl.symm c
    · rw [List.getElem?_eq_none (by rw [backS_len]; omega), List.getElem?_eq_none (by omega)]
  · rw [backS_out c, ← out r1 j vs c, h, out r0 j vs c]
theorem Stt.back_eq {s0 s1 : Stt} {vs : List Nat} (h : s1.wipe vs = s0.wipe vs) : s0.back s1 vs = s0 := by
  have h1 : wipeS s1.r vs = wipeS s0.r vs := congrArg Stt.r h
  have h2 : s1.n = s0.n := show (s1.wipe vs).n = (s0.wipe vs).n from by rw [h]
  cases s0; cases s1
  simp only [Stt.back]
  rw [back_wipe h1]
  cases h2; rfl
section
variable {s : Stt} {gi : GI} {f : D → Stt → Option Stt} {gc : GB} {ge : GX} {vs : List Nat}
theorem loopC_pure {α : Type} {dOf : α → D} {p : α → Bool} {g : α → D} {Φ : List D → Stt → Prop} : ∀ (xs : List α) (acc : List D) (s1 : Stt), s1.wipe vs = s.wipe vs →
    (∀ x ∈ xs, ∃ S, f (dOf x) (s.wipe vs) = some S ∧ S.wipe vs = s.wipe vs ∧ EvB gc S (p x) ∧ (p x = true → ∃ w, Ev ge S w ∧ frz w S = some (g x, S))) →
    (∀ s2, s2.wipe vs = s.wipe vs → Φ (acc ++ (xs.filter p).map g) s2) → loopC f gc ge vs (xs.map dOf) acc s1 Φ
  | [], acc, s1, e, h, q => by
    have := q s1 e
    simp only [List.filter_nil, List.map_nil, List.append_nil] at this
    exact this
  | x :: xs, acc, s1, e, h, q => by
    obtain ⟨S, a, b, c, d⟩ := h x (List.mem_cons_self ..)
    refine ⟨S, by rw [e]; exact a, c _ ?_⟩
    cases hp : p x with
    | true =>
      rw [if_pos rfl]
      obtain ⟨w, hw, hf⟩ := d hp
      refine hw _ ⟨_, _, hf, loopC_pure xs _ S b (fun y hy => h y (List.mem_cons_of_mem _ hy)) fun s2 e2 => ?_⟩
      have := q s2 e2
      rw [List.filter_cons_of_pos hp, List.map_cons] at this
      rw [List.append_assoc]
      exact this
    | false =>
      rw [if_neg (by decide)]
      refine loopC_pure xs _ S b (fun y hy => h y (List.mem_cons_of_mem _ hy)) fun s2 e2 => ?_
      have := q s2 e2
      rw [List.filter_cons_of_neg (by rw [hp]; decide)] at this
      exact this
theorem Ev.lc {α : Type} {xs : List α} {dOf : α → D} {p : α → Bool} {g : α → D} {ds : List D} (hi : EvI gi s ds) (hd : ds = xs.map dOf) (hl : xs.length ≤ 1000000)
    (h : ∀ x ∈ xs, ∃ S, f (dOf x) (s.wipe vs) = some S ∧ S.wipe vs = s.wipe vs ∧ EvB gc S (p x) ∧ (p x = true → ∃ w, Ev ge S w ∧ frz w S = some (g x, S))) : Ev (gLc gi f gc ge vs) s (.new ((xs.filter p).map g)) := by
  intro Φ q
  subst hd
  refine hi _ ⟨by rw [List.length_map]; exact hl, loopC_pure xs [] s rfl h fun s2 e2 => ?_⟩
  rw [Stt.back_eq e2]
  exact q
theorem Ev.lcA {α : Type} {xs : List α} {dOf : α → D} {g : α → D} {ds : List D} (hi : EvI gi s ds) (hd : ds = xs.map dOf) (hl : xs.length ≤ 1000000)
    (h : ∀ x ∈ xs, ∃ S, f (dOf x) (s.wipe vs) = some S ∧ S.wipe vs = s.wipe vs ∧ ∃ w, Ev ge S w ∧ frz w S = some (g x, S)) : Ev (gLc gi f gYes ge vs) s (.new (xs.map g)) := by
  have := Ev.lc (gc := gYes) (p := fun _ => true) (g := g) hi hd hl fun x hx => by
    obtain ⟨S, a, b, c⟩ := h x hx
    exact ⟨S, a, b, EvB.yes, fun _ => c⟩
  rw [List.filter_eq_self.mpr fun _ _ => rfl] at this
  exact this
end
/-! ### statements -/
section
variable {s s' : Stt} {De : EndsD} {g : GX} {gt : GB} {gi : GI} {a b : GS} {w : W} {d : D} {ds : List D} {i : Nat} {k : Bool} {f : D → Stt → Option Stt}
theorem gs_seq (h : a s { De with nx := fun s' => b s' De }) : gsSeq a b s De := h
theorem gs_nil (q : De.nx s) : gsNil s De := q
theorem gs_set (h : Ev g s w) (r : frz w s = some (d, s')) (q : De.nx (s'.put i (.val d))) : gsSet i g s De := h _ ⟨d, s', r, q⟩
theorem gs_own (h : Ev g s (.new ds)) (q : De.nx (s.put i (.own ds))) : gsOwn i g s De := h _ ⟨ds, rfl, q⟩
theorem gs_ret (h : Ev g s w) (q : De.rt w s) : gsRet g s De := h _ q
theorem gs_if (h : EvB gt s k) (h1 : k = true → a s De) (h2 : k = false → b s De) : gsIf gt a b s De := h _ (by
  cases k with
  | true => rw [if_pos rfl]; exact h1 rfl
  | false => rw [if_neg (by decide)]; exact h2 rfl)
theorem gs_ifT (h : EvB gt s true) (h1 : a s De) : gsIf gt a b s De := gs_if h (fun _ => h1) fun z => by cases z
theorem gs_ifF (h : EvB gt s false) (h1 : b s De) : gsIf gt a b s De := gs_if h (fun z => by cases z) fun _ => h1
theorem gs_app (h0 : s.r[i]? = some (some (.own ds))) (h : Ev g s w) (r : frz w s = some (d, s)) (hl : ds.length < 1000000) (q : De.nx (s.put i (.own (ds ++ [d])))) : gsApp i g s De := ⟨⟨ds, h0⟩, h _ ⟨d, s, ds, r, h0, hl, q⟩⟩
theorem gs_for (h : EvI gi s ds) (q : loopF f b ds s De) : gsFor gi f b s De := h _ q
theorem gs_loop {α : Type} {dOf : α → D} (I : List α → Stt → Prop) {L : List α}
    (step : ∀ pre x post s De', L = pre ++ x :: post → I pre s → De'.rt = De.rt → De'.bk = De.nx → (∀ s', I (pre ++ [x]) s' → De'.nx s') → (∀ s', I (pre ++ [x]) s' → De'.ct s') → ∃ s1, f (dOf x) s = some s1 ∧ b s1 De')
    (fin : ∀ s', I L s' → De.nx s') : ∀ (xs pre : List α) (s : Stt), L = pre ++ xs → I pre s → loopF f b (xs.map dOf) s De
  | [], pre, s, e, h => fin s (by rw [e, List.append_nil]; exact h)
  | x :: xs, pre, s, e, h => by
    obtain ⟨s1, h1, h2⟩ := step pre x xs s { nx := fun s2 => loopF f b (xs.map dOf) s2 De, ct := fun s2 => loopF f b (xs.map dOf) s2 De, bk := De.nx, rt := De.rt } e h rfl rfl
      (fun s' h' => gs_loop I step fin xs (pre ++ [x]) s' (by rw [e, List.append_assoc]; rfl) h') (fun s' h' => gs_loop I step fin xs (pre ++ [x]) s' (by rw [e, List.append_assoc]; rfl) h')
    exact ⟨s1, h1, h2⟩
theorem gs_forL {α : Type} {dOf : α → D} (I : List α → Stt → Prop) {L : List α} (h : EvI gi s ds) (hd : ds = L.map dOf) (h0 : I [] s)
    (step : ∀ pre x post s De', L = pre ++ x :: post → I pre s → De'.rt = De.rt → De'.bk = De.nx → (∀ s', I (pre ++ [x]) s' → De'.nx s') → (∀ s', I (pre ++ [x]) s' → De'.ct s') → ∃ s1, f (dOf x) s = some s1 ∧ b s1 De')
    (fin : ∀ s', I L s' → De.nx s') : gsFor gi f b s De := gs_for h (by rw [hd]; exact gs_loop I step fin L [] s rfl h0)
end
section
variable {s : Stt} {De : EndsD} {g1 g2 ge gk : GX} {w w2 : W} {d k : D} {kvs : List (NK × D)} {ks : List NK} {i : Nat}
theorem gs_dct (q : De.nx (s.put i (.dct []))) : gsDct i s De := q
theorem Ev.get2 (h0 : s.r[i]? = some (some (.dct kvs))) (h1 : Ev g1 s w) (r1 : rd w s = some (dN (.tup ks))) (hd : (NestedKey.tup ks).depth ≤ 8) (h2 : Ev g2 s w2) (r : frz w2 s = some (d, s)) : Ev (gGet2 i g1 g2) s (.dat ((getK kvs (.tup ks)).getD d)) :=
  fun Φ q => ⟨⟨kvs, h0⟩, h1 _ (h2 _ ⟨kvs, ks, d, s, r1, hd, r, h0, q⟩)⟩
theorem gs_putK (h0 : s.r[i]? = some (some (.dct kvs))) (he : Ev ge s w) (re : frz w s = some (d, s)) (hk : Ev gk s w2) (rk : frz w2 s = some (dN (.tup ks), s)) (hd : (NestedKey.tup ks).depth ≤ 8) (hl : kvs.length < 1000000) (q : De.nx (s.put i (.dct (DL.putK kvs (.tup ks) d)))) : gsPutK i ge gk s De :=
  he _ ⟨d, s, re, ⟨kvs, h0⟩, hk _ ⟨kvs, ks, s, rk, hd, h0, hl, q⟩⟩
theorem Ev.sortIt (h0 : s.r[i]? = some (some (.dct kvs))) (ok : okIt kvs) : Ev (gSortIt i) s (.new (sortD (kvs.map itD))) := fun Φ q => ⟨kvs, h0, ok, q⟩
end
/-! ### one step -/
section
variable {s : Stt} {De : EndsD} {g g1 g2 : GX} {gt gt1 gt2 : GB} {ga : GA} {gi : GI} {a b : GS} {i n : Nat} {dd : List D} {G : GF} {GB' : GFB}
theorem if_run (h : gt s fun k s1 => if k = true then a s1 De else b s1 De) : gsIf gt a b s De := h
theorem tv_run {Φ : Bool → Stt → Prop} (h : g s fun w s1 => ∃ b, rd w s1 = some (.bl b) ∧ Φ b s1) : gTv g s Φ := h
theorem tand_run {Φ : Bool → Stt → Prop} (h : gt1 s fun b s1 => if b = true then gt2 s1 Φ else Φ false s1) : gTAnd gt1 gt2 s Φ := h
theorem tor_run {Φ : Bool → Stt → Prop} (h : gt1 s fun b s1 => if b = true then Φ true s1 else gt2 s1 Φ) : gTOr gt1 gt2 s Φ := h
theorem tnot_run {Φ : Bool → Stt → Prop} (h : gt s fun b s1 => Φ (!b) s1) : gTNot gt s Φ := h
section
variable {Φ : W → Stt → Prop}
theorem bin_run {f : D → D → Option W} (h : g1 s fun w1 s1 => g2 s1 fun w2 s2 => ∃ d e w, rd w1 s2 = some d ∧ rd w2 s2 = some e ∧ f d e = some w ∧ Φ w s2) : gBin f g1 g2 s Φ := h
theorem binR {f : D → D → Option W} {w1 : W} (h1 : Ev g1 s w1) (h : g2 s fun w2 s2 => ∃ d e w, rd w1 s2 = some d ∧ rd w2 s2 = some e ∧ f d e = some w ∧ Φ w s2) : gBin f g1 g2 s Φ := h1 _ h
theorem and_run (h : g1 s fun w s1 => ∃ b, rd w s1 = some (.bl b) ∧ if b = true then g2 s1 Φ else Φ (.dat (.bl false)) s1) : gAnd g1 g2 s Φ := h
theorem or_run (h : g1 s fun w s1 => ∃ b, rd w s1 = some (.bl b) ∧ if b = true then Φ (.dat (.bl true)) s1 else g2 s1 Φ) : gOr g1 g2 s Φ := h
theorem xif_run (h : gt s fun b s1 => if b = true then g1 s1 Φ else g2 s1 Φ) : gIf gt g1 g2 s Φ := h
theorem cl_run {f : List D → Option W} (h : ga s fun ws s1 => ∃ ds w, rdA ws s1 = some ds ∧ f ds = some w ∧ Φ w s1) : gCl f ga s Φ := h
theorem tup_run (h : ga s fun ws s1 => ∃ ds s2, frzA ws s1 = some (ds, s2) ∧ ws.length ≤ 1000 ∧ Φ (.dat (.tup ds)) s2) : gTup ga s Φ := h
theorem lst_run (h : ga s fun ws s1 => ∃ ds s2, frzA ws s1 = some (ds, s2) ∧ ws.length ≤ 1000 ∧ Φ (.new ds) s2) : gLst ga s Φ := h
theorem lc_run {f : D → Stt → Option Stt} {gc : GB} {ge : GX} {vs : List Nat} (h : gi s fun ds s1 => ds.length ≤ 1000000 ∧ loopC f gc ge vs ds [] s1 fun acc s2 => Φ (.new acc) (s1.back s2 vs)) : gLc gi f gc ge vs s Φ := h
theorem lcR {f : D → Stt → Option Stt} {gc : GB} {ge : GX} {vs : List Nat} {ds : List D} (hi : EvI gi s ds) (hl : ds.length ≤ 1000000) (h : loopC f gc ge vs ds [] s fun acc s2 => Φ (.new acc) (s.back s2 vs)) : gLc gi f gc ge vs s Φ := hi _ ⟨hl, h⟩
theorem callB_run (hb : s.r[i]? = some (some .bag)) (h : ga s fun ws s1 => ∃ ds s2, frzA ws s1 = some (ds, s2) ∧ GB' ds s2.n fun d n' => Φ (.dat d) { s2 with n := n' }) : gCallB i GB' ga s Φ := ⟨hb, h⟩
theorem call_run (h : ga s fun ws s1 => ∃ ds s2, frzA ws s1 = some (ds, s2) ∧ G (ds ++ dd) fun d => Φ (.dat d) s2) : gCall G dd ga s Φ := h
end
theorem ga_run {Φ : List W → Stt → Prop} (h : g s fun w s1 => ga s1 fun ws s2 => Φ (fixW w :: ws) s2) : gaCons g ga s Φ := h
theorem gaR {Φ : List W → Stt → Prop} {w : W} (h1 : Ev g s w) (h : ga s fun ws s2 => Φ (fixW w :: ws) s2) : gaCons g ga s Φ := h1 _ h
theorem set_run (h : g s fun w s1 => ∃ d s2, frz w s1 = some (d, s2) ∧ De.nx (s2.put i (.val d))) : gsSet i g s De := h
theorem own_run (h : g s fun w s1 => ∃ ds, w = .new ds ∧ De.nx (s1.put i (.own ds))) : gsOwn i g s De := h
theorem ret_run (h : g s De.rt) : gsRet g s De := h
theorem app_run (h0 : ∃ ds, s.r[i]? = some (some (.own ds))) (h : g s fun w s1 => ∃ d s2 ds, frz w s1 = some (d, s2) ∧ s2.r[i]? = some (some (.own ds)) ∧ ds.length < 1000000 ∧ De.nx (s2.put i (.own (ds ++ [d])))) : gsApp i g s De := ⟨h0, h⟩
theorem range_run {Φ : List D → Stt → Prop} (h : ga s fun ws s1 => ∃ j : Int, rdA ws s1 = some [.int j] ∧ (-(2 ^ 62) ≤ j ∧ j < 2 ^ 62) ∧ Φ (rangeD 0 j.toNat) s1) : giRange1 ga s Φ := h
theorem for_run {f : D → Stt → Option Stt} (h : gi s fun ds s1 => loopF f b ds s1 De) : gsFor gi f b s De := h
end
end DL
set_option maxHeartbeats 1000000
namespace K23
open PySem PySem.Spec PyProof.Rows L2 Ax DL
def copD (c : List E) : D := .tup (c.map eD)
def copsD (cs : List (List E)) : D := .lst (cs.map copD)
def keyD : Option (List Int) → D
  | none => .non
  | some k => kD k
def keyHit : Option (List Int) → E → Bool
  | none, _ => true
  | some k, e => decide (e.2.1 = k)
def hit (name : Str) (key : Option (List Int)) (e : E) : Bool := decide (e.1 = name) && keyHit key e
def told (cs : List (List E)) (name : Str) (key : Option (List Int)) : List E := (cs.map fun c => c.filter (hit name key)).flatten
structure OkC (cs : List (List E)) : Prop where
  len : cs.length ≤ 6
  each : ∀ c ∈ cs, c.length ≤ 3 ∧ ∀ e ∈ c, strK e.1 = true ∧ e.2.1.length ≤ 2
def cntD (L : List (E × Int)) : D := .tup (L.map pD)
def optD : Option E → D
  | none => .non
  | some e => eD e
def S_law_is_whole : GF := fun ds Φ => ∃ i : Int, ds = [.int i] ∧ Φ (.bl true)
def S_law_is_entry : GF := fun ds Φ => ∃ e : E, ds = [eD e] ∧ strK e.1 = true ∧ e.2.1.length ≤ 1000000 ∧ Φ (.bl true)
def S_told_counts : GF := fun ds Φ => ∃ cs name key, ds = [copsD cs, .str name, keyD key] ∧ OkC cs ∧ strK name = true ∧ Φ (cntD (counted (told cs name key)))
def seqD (b : Bool) (ds : List D) : D := if b then .tup ds else .lst ds
def S_sure_entry : GF := fun ds Φ => ∃ (b : Bool) (L : List (E × Int)) (could : Int), ds = [seqD b (L.map pD), .int could] ∧ L.length ≤ 100 ∧ Φ (optD (sure L could))
def S_law_counted : GF := fun ds Φ => ∃ T : List E, ds = [.lst (T.map eD)] ∧ T.length ≤ 100 ∧ (∀ e ∈ T, strK e.1 = true) ∧ Φ (.lst ((counted T).map pD))
def S_law_told_of : GF := fun ds Φ => ∃ cs name key, ds = [copsD cs, .str name, keyD key] ∧ OkC cs ∧ strK name = true ∧ Φ (.lst ((told cs name key).map eD))
def S_law_only_in_all_ways : GF := fun ds Φ => ∃ (T : List E) (could : Int), ds = [.lst (T.map eD), .int could] ∧ T.length ≤ 18 ∧ (∀ e ∈ T, strK e.1 = true) ∧ Φ (optD (only T could))
def S_law_marked_copy : GFB := fun ds n Φ => ∃ (name : Str) (wide : Nat) (tw : Bool), ds = [.str name, .int (wide : Nat), .bl tw] ∧ strK name = true ∧ wide ≤ 2 ∧ (tw = true → 0 < wide) ∧ n < 900000 ∧
  ∀ (c : List E) n', c.length ≤ 3 → (∀ e ∈ c, strK e.1 = true ∧ e.2.1.length ≤ 2) → n' ≤ n + 20 → Φ (copD c) n'
def B_told_counts : GS := (gsSeq (gsDct 3)
    (gsSeq (gsFor (giSeq (DL.gName 0)) (tgName 4) (gsFor (giSeq (DL.gName 4)) (tgName 5) (gsIf (gTAnd (gTv (gBin fEq (gBin fIx (DL.gName 5) (gDat (.int 0))) (DL.gName 1))) (gTOr (gTv (gIsN (DL.gName 2))) (gTv (gBin fEq (gBin fIx (DL.gName 5) (gDat (.int 1))) (DL.gName 2))))) (gsPutK 3 (gBin fAdd (gGet2 3 (DL.gName 5) (gDat (.int 0))) (gDat (.int 1))) (DL.gName 5)) gsNil)))
    (gsRet (gCl fTuple (gaCons (gSortIt 3) gaNil)))))
def B_sure_entry : GS := (gsSeq (gsOwn 2 (gLst gaNil))
    (gsSeq (gsSet 3 (gCl fSum (gaCons (gLc (giSeq (DL.gName 0)) (tgTup 2 (tgCons (tgName 6) (tgCons (tgName 8) tgNil))) gYes (DL.gName 8) [6, 8]) gaNil)))
    (gsSeq (gsFor (giEnum (gaCons (DL.gName 0) gaNil)) (tgTup 2 (tgCons (tgName 4) (tgCons (tgTup 2 (tgCons (tgName 5) (tgCons (tgName 6) tgNil))) tgNil))) (gsSeq (gsSet 7 (gLc (giEnum (gaCons (DL.gName 0) gaNil)) (tgTup 2 (tgCons (tgName 9) (tgCons (tgTup 2 (tgCons (tgName 6) (tgCons (tgName 8) tgNil))) tgNil))) (gTv (gBin fNe (DL.gName 9) (DL.gName 4))) (DL.gName 8) [9, 6, 8]))
    (gsIf (gTv (gBin (fB fun i j => decide (j < i)) (gBin (fI fun i j => i - j) (DL.gName 3) (gMaxA (gaCons (DL.gName 7) gaNil) (gaCons (gDat (.int 0)) gaNil))) (DL.gName 1))) (gsApp 2 (DL.gName 5)) gsNil)))
    (gsRet (gIf (gTv (gBin fEq (gCl fLen (gaCons (DL.gName 2) gaNil)) (gDat (.int 1)))) (gBin fIx (DL.gName 2) (gDat (.int 0))) (gDat .non))))))
def B_law_is_whole : GS := (gsRet (gAnd (gIsi "int" (DL.gName 0)) (gNot (gIsi "bool" (DL.gName 0)))))
def B_law_is_entry : GS := (gsSeq (gsIf (gTOr (gTNot (gTv (gIsi "tuple" (DL.gName 0)))) (gTOr (gTv (gBin fNe (gCl fLen (gaCons (DL.gName 0) gaNil)) (gDat (.int 3)))) (gTNot (gTv (gIsi "str" (gBin fIx (DL.gName 0) (gDat (.int 0)))))))) (gsRet (gDat (.bl false))) gsNil)
    (gsSeq (gsIf (gTOr (gTNot (gTv (gIsi "tuple" (gBin fIx (DL.gName 0) (gDat (.int 1)))))) (gTNot (gTv (gCall S_law_is_whole [] (gaCons (gBin fIx (DL.gName 0) (gDat (.int 2))) gaNil))))) (gsRet (gDat (.bl false))) gsNil)
    (gsRet (gCl fAll (gaCons (gLc (giSeq (gBin fIx (DL.gName 0) (gDat (.int 1)))) (tgName 1) gYes (gCall S_law_is_whole [] (gaCons (DL.gName 1) gaNil)) [1]) gaNil)))))
def B_law_counted : GS := (gsSeq (gsSet 1 (gSorted (gaCons (DL.gName 0) gaNil)))
    (gsRet (gLc (giEnum (gaCons (DL.gName 1) gaNil)) (tgTup 2 (tgCons (tgName 2) (tgCons (tgName 3) tgNil))) (gTv (gBin fNotIn (DL.gName 3) (gSl (DL.gName 1) goNone (goSome (DL.gName 2))))) (DL.gTup (gaCons (DL.gName 3) (gaCons (gCount (DL.gName 0) (DL.gName 3)) gaNil))) [2, 3])))
def B_law_told_of : GS := (gsSeq (gsSet 3 (gLst gaNil))
    (gsSeq (gsFor (giSeq (DL.gName 0)) (tgName 4) (gsSet 3 (gBin fAdd (DL.gName 3) (gLc (giSeq (DL.gName 4)) (tgName 5) (gTAnd (gTv (gBin fEq (gBin fIx (DL.gName 5) (gDat (.int 0))) (DL.gName 1))) (gTOr (gTv (gIsN (DL.gName 2))) (gTv (gBin fEq (gBin fIx (DL.gName 5) (gDat (.int 1))) (DL.gName 2))))) (DL.gName 5) [5]))))
    (gsRet (DL.gName 3))))
def B_law_marked_copy : GS := (gsSeq (gsOwn 4 (gLst gaNil))
    (gsSeq (gsIf (gTv (gBin (fB fun i j => decide (j < i)) (gCallB 0 SDraw (gaCons (gDat (.int 4)) gaNil)) (gDat (.int 0)))) (gsApp 4 (DL.gTup (gaCons (gDat (.str ("a" : Str))) (gaCons (DL.gTup gaNil) (gaCons (gCallB 0 SDraw (gaCons (gDat (.int 3)) gaNil)) gaNil))))) gsNil)
    (gsSeq (gsIf (gTv (gBin (fB fun i j => decide (j < i)) (gCallB 0 SDraw (gaCons (gDat (.int 5)) gaNil)) (gDat (.int 0)))) (gsSeq (gsSet 5 (gCl fTuple (gaCons (gLc (giRange1 (gaCons (DL.gName 2) gaNil)) (tgName 6) gYes (gCl fInt (gaCons (gBin (fIc CDiv fun i j => i / j) (gCallB 0 SDraw (gaCons (gDat (.int 4)) gaNil)) (gDat (.int 3))) gaNil)) [6]) gaNil)))
    (gsSeq (gsApp 4 (DL.gTup (gaCons (DL.gName 1) (gaCons (DL.gName 5) (gaCons (gCl fInt (gaCons (gBin (fIc CDiv fun i j => i / j) (gCallB 0 SDraw (gaCons (gDat (.int 5)) gaNil)) (gDat (.int 2))) gaNil)) gaNil)))))
    (gsIf (gTAnd (gTv (DL.gName 3)) (gTv (gBin fEq (gCallB 0 SDraw (gaCons (gDat (.int 2)) gaNil)) (gDat (.int 0))))) (gsApp 4 (DL.gTup (gaCons (DL.gName 1) (gaCons (gBin fAdd (DL.gTup (gaCons (gBin fAdd (gBin fIx (DL.gName 5) (gDat (.int 0))) (gDat (.int 1))) gaNil)) (gSl (DL.gName 5) (goSome (gDat (.int 1))) goNone)) (gaCons (gCl fInt (gaCons (gBin (fIc CDiv fun i j => i / j) (gCallB 0 SDraw (gaCons (gDat (.int 5)) gaNil)) (gDat (.int 2))) gaNil)) gaNil))))) gsNil))) gsNil)
    (gsRet (gCl fTuple (gaCons (gSorted (gaCons (DL.gName 4) gaNil)) gaNil))))))
def B_law_only_in_all_ways : GS := (gsSeq (gsSet 2 (gLst (gaCons (gLst gaNil) gaNil)))
    (gsSeq (gsFor (giSeq (DL.gName 0)) (tgName 3) (gsSet 2 (gBin fAdd (gLc (giSeq (DL.gName 2)) (tgName 5) gYes (gBin fAdd (DL.gName 5) (gLst (gaCons (gDat (.bl true)) gaNil))) [5]) (gLc (giSeq (DL.gName 2)) (tgName 5) gYes (gBin fAdd (DL.gName 5) (gLst (gaCons (gDat (.bl false)) gaNil))) [5]))))
    (gsSeq (gsOwn 4 (gLst gaNil))
    (gsSeq (gsFor (giSeq (DL.gName 2)) (tgName 5) (gsSeq (gsSet 6 (gCl fLen (gaCons (gLc (giSeq (DL.gName 5)) (tgName 8) (gTv (DL.gName 8)) (DL.gName 8) [8]) gaNil)))
    (gsIf (gTv (gBin (fB fun i j => decide (i ≤ j)) (DL.gName 6) (DL.gName 1))) (gsSeq (gsSet 7 (gLc (giEnum (gaCons (DL.gName 0) gaNil)) (tgTup 2 (tgCons (tgName 9) (tgCons (tgName 3) tgNil))) (gTNot (gTv (gBin fIx (DL.gName 5) (DL.gName 9)))) (DL.gName 3) [9, 3]))
    (gsSeq (gsIf (gTv (gBin fEq (gCl fLen (gaCons (DL.gName 7) gaNil)) (gDat (.int 0)))) (gsRet (gDat .non)) gsNil)
    (gsIf (gTAnd (gTv (gCl fAll (gaCons (gLc (giSeq (DL.gName 7)) (tgName 3) gYes (gBin fEq (DL.gName 3) (gBin fIx (DL.gName 7) (gDat (.int 0)))) [3]) gaNil))) (gTv (gBin fNotIn (gBin fIx (DL.gName 7) (gDat (.int 0))) (DL.gName 4)))) (gsApp 4 (gBin fIx (DL.gName 7) (gDat (.int 0)))) gsNil))) gsNil)))
    (gsRet (gIf (gTv (gBin fEq (gCl fLen (gaCons (DL.gName 4) gaNil)) (gDat (.int 1)))) (gBin fIx (DL.gName 4) (gDat (.int 0))) (gDat .non)))))))
def B_law : GS := (gsSeq (gsSet 2 (gCallB 1 SDraw (gaCons (gDat (.int 3)) gaNil)))
    (gsSeq (gsSet 3 (gBin fIx (gLst (gaCons (gDat (.str ("b" : Str))) (gaCons (gDat (.str ("a1" : Str))) (gaCons (gDat (.str ("z" : Str))) gaNil)))) (gCallB 1 SDraw (gaCons (gDat (.int 3)) gaNil))))
    (gsSeq (gsSet 4 (gAnd (gBin (fB fun i j => decide (j < i)) (DL.gName 2) (gDat (.int 0))) (gBin fEq (gCallB 1 SDraw (gaCons (gDat (.int 2)) gaNil)) (gDat (.int 0)))))
    (gsSeq (gsSet 5 (gLc (giRange1 (gaCons (gCallB 1 SDraw (gaCons (gDat (.int 7)) gaNil)) gaNil)) (tgName 18) gYes (gCallB 1 S_law_marked_copy (gaCons (DL.gName 3) (gaCons (DL.gName 2) (gaCons (DL.gName 4) gaNil)))) [18]))
    (gsSeq (gsIf (gTAnd (gTv (gBin fEq (gCallB 1 SDraw (gaCons (gDat (.int 3)) gaNil)) (gDat (.int 0)))) (gTv (gBin (fB fun i j => decide (j < i)) (gCl fLen (gaCons (DL.gName 5) gaNil)) (gDat (.int 0))))) (gsSet 5 (gBin fAdd (gSl (DL.gName 5) goNone (goSome (gDat (.int 3)))) (gLc (giRange1 (gaCons (gDat (.int 3)) gaNil)) (tgName 18) gYes (gBin fIx (DL.gName 5) (gUn fNeg (gDat (.int 1)))) [18]))) gsNil)
    (gsSeq (gsOwn 6 (gLst (gaCons (gDat .non) gaNil)))
    (gsSeq (gsIf (gTv (DL.gName 4)) (gsSeq (gsOwn 6 (gLst gaNil))
    (gsSeq (gsFor (giSeq (DL.gName 5)) (tgName 7) (gsFor (giSeq (DL.gName 7)) (tgName 8) (gsIf (gTAnd (gTv (gBin fEq (gBin fIx (DL.gName 8) (gDat (.int 0))) (DL.gName 3))) (gTv (gBin fNotIn (gBin fIx (DL.gName 8) (gDat (.int 1))) (DL.gName 6)))) (gsApp 6 (gBin fIx (DL.gName 8) (gDat (.int 1)))) gsNil)))
    (gsApp 6 (gCl fTuple (gaCons (gLc (giRange1 (gaCons (DL.gName 2) gaNil)) (tgName 18) gYes (gDat (.int 9)) [18]) gaNil))))) gsNil)
    (gsSeq (gsFor (giSeq (DL.gName 6)) (tgName 9) (gsSeq (gsSet 10 (gCl fList (gaCons (DL.gName 5) gaNil)))
    (gsSeq (gsSet 11 (gIf (gTv (gIsN (DL.gName 9))) (gCall S_told_counts [.non] (gaCons (DL.gName 10) (gaCons (DL.gName 3) gaNil))) (gCallN 2 1 S_told_counts (fun ds es => ds ++ es) (gaCons (DL.gName 10) (gaCons (DL.gName 3) gaNil)) (gaCons (DL.gName 9) gaNil))))
    (gsSeq (gsSet 12 (gCall S_law_told_of [] (gaCons (DL.gName 5) (gaCons (DL.gName 3) (gaCons (DL.gName 9) gaNil)))))
    (gsSeq (gsIf (gTOr (gTv (gBin fNe (DL.gName 11) (gCl fTuple (gaCons (gCall S_law_counted [] (gaCons (DL.gName 12) gaNil)) gaNil)))) (gTv (gBin fNe (DL.gName 10) (DL.gName 5)))) (gsRet (gDat (.bl false))) gsNil)
    (gsSeq (gsFor (giSeq (DL.gName 11)) (tgTup 2 (tgCons (tgName 8) (tgCons (tgName 13) tgNil))) (gsIf (gTOr (gTNot (gTv (gCall S_law_is_entry [] (gaCons (DL.gName 8) gaNil)))) (gTNot (gTv (gCall S_law_is_whole [] (gaCons (DL.gName 13) gaNil))))) (gsRet (gDat (.bl false))) gsNil))
    (gsSeq (gsSet 14 (gLc (giRange1 (gaCons (gCl fLen (gaCons (DL.gName 11) gaNil)) gaNil)) (tgName 18) gYes (gBin fIx (DL.gName 11) (gBin (fI fun i j => i - j) (gBin (fI fun i j => i - j) (gCl fLen (gaCons (DL.gName 11) gaNil)) (gDat (.int 1))) (DL.gName 18))) [18]))
    (gsFor (giRange1 (gaCons (gDat (.int 4)) gaNil)) (tgName 15) (gsSeq (gsSet 16 (gCall S_law_only_in_all_ways [] (gaCons (DL.gName 12) (gaCons (DL.gName 15) gaNil))))
    (gsIf (gTOr (gTv (gBin fNe (gCall S_sure_entry [] (gaCons (DL.gName 11) (gaCons (DL.gName 15) gaNil))) (DL.gName 16))) (gTv (gBin fNe (gCall S_sure_entry [] (gaCons (DL.gName 14) (gaCons (DL.gName 15) gaNil))) (DL.gName 16)))) (gsRet (gDat (.bl false))) gsNil))))))))))
    (gsSeq (gsSet 17 (gCall S_law_counted [] (gaCons (gCall S_law_told_of [] (gaCons (DL.gName 5) (gaCons (DL.gName 3) (gaCons (gDat .non) gaNil)))) gaNil)))
    (gsRet (gAnd (gBin fEq (gCall S_told_counts [.non] (gaCons (DL.gName 5) (gaCons (DL.gName 3) gaNil))) (gCl fTuple (gaCons (DL.gName 17) gaNil))) (gAnd (gBin fEq (gCall S_told_counts [.non] (gaCons (gLst gaNil) (gaCons (DL.gName 3) gaNil))) (DL.gTup gaNil)) (gIsN (gCall S_sure_entry [] (gaCons (DL.gTup gaNil) (gaCons (gDat (.int 0)) gaNil))))))))))))))))
end K23
set_option maxHeartbeats 1000000
/-! k23: the defs over data. -/
namespace K23
open PySem PySem.Spec PyProof.Rows L2 Ax DL
theorem isi_ii (i : Int) : isiD "int" (.int i) = some true := by show kitB "int" "int" = some true; decide +kernel
theorem isi_bi (i : Int) : isiD "bool" (.int i) = some false := by show kitB "int" "bool" = some false; decide +kernel
theorem isi_tt (l : List D) : isiD "tuple" (.tup l) = some true := by show kitB "tuple" "tuple" = some true; decide +kernel
theorem isi_ss (l : Str) : isiD "str" (.str l) = some true := by show kitB "str" "str" = some true; decide +kernel
theorem feq {d e : D} (h1 : okD d = true) (h2 : okD e = true) : fEq d e = some (.dat (.bl (eqD d e))) := if_pos ⟨h1, h2⟩
theorem fne {d e : D} (h1 : okD d = true) (h2 : okD e = true) : fNe d e = some (.dat (.bl (!eqD d e))) := if_pos ⟨h1, h2⟩
theorem at_e0 (e : E) : fIx (eD e) (.int 0) = some (.dat (.str e.1)) := rfl
theorem at_e1 (e : E) : fIx (eD e) (.int 1) = some (.dat (kD e.2.1)) := rfl
theorem at_e2 (e : E) : fIx (eD e) (.int 2) = some (.dat (.int e.2.2)) := rfl
/-- entry[0] == name and (key is None or entry[1] == key) -/
theorem hit_ev {s : Stt} {e : E} {name : Str} {key : Option (List Int)} (h5 : s.r[5]? = some (some (.val (eD e)))) (h1 : s.r[1]? = some (some (.val (.str name)))) (h2 : s.r[2]? = some (some (.val (keyD key))))
    (ok : strK e.1 = true) (on : strK name = true) : EvB (gTAnd (gTv (gBin fEq (gBin fIx (DL.gName 5) (gDat (.int 0))) (DL.gName 1))) (gTOr (gTv (gIsN (DL.gName 2))) (gTv (gBin fEq (gBin fIx (DL.gName 5) (gDat (.int 1))) (DL.gName 2))))) s (hit name key e) := by
  have a1 : EvB (gTv (gBin fEq (gBin fIx (DL.gName 5) (gDat (.int 0))) (DL.gName 1))) s (decide (e.1 = name)) := by
    rw [← eqD_str]
    exact .v (.bin (.bin (.name h5) .dt rfl rfl (at_e0 e)) (.name h1) rfl rfl (feq (okD_str ok) (okD_str on))) rfl
  have a2 : EvB (gTv (gIsN (DL.gName 2))) s (isNonD (keyD key)) := .v (.isN (.name h2) rfl) rfl
  have a3 : isNonD (keyD key) = false → EvB (gTv (gBin fEq (gBin fIx (DL.gName 5) (gDat (.int 1))) (DL.gName 2))) s (keyHit key e) := fun z => by
    cases key with
    | none => cases z
    | some k =>
      show EvB _ s (decide (e.2.1 = k))
      rw [← eqD_k]
      exact .v (.bin (.bin (.name h5) .dt rfl rfl (at_e1 e)) (.name h2) rfl rfl (feq (okD_k _) (okD_k _))) rfl
  exact (EvB.and a1 fun _ => EvB.or a2 a3).of (by cases key <;> rfl)
theorem hl_law_is_whole : ∀ ds Φ, S_law_is_whole ds Φ → ds.length = 1 := by rintro ds Φ ⟨i, rfl, _⟩; rfl
theorem ev_whole {s : Stt} {g : GX} {i : Int} (h : Ev g s (.dat (.int i))) : Ev (gCall S_law_is_whole [] (gaCons g gaNil)) s (.dat (.bl true)) := .call (.one h) rfl fun Φ q => ⟨i, rfl, q⟩
theorem hB_law_is_whole : ∀ ds Φ, S_law_is_whole ds Φ → B_law_is_whole ⟨startD n_law_is_whole ds, 0⟩ (retD Φ) := by
  rintro ds Φ ⟨i, rfl, h⟩
  exact gs_ret (.and (b2 := true) (.isi (.name rfl) rfl (isi_ii i)) rfl fun _ => ⟨.not (.isi (.name rfl) rfl (isi_bi i)) rfl, rfl, rfl⟩) ⟨_, _, rfl, h⟩
theorem hl_law_is_entry : ∀ ds Φ, S_law_is_entry ds Φ → ds.length = 1 := by rintro ds Φ ⟨i, rfl, _⟩; rfl
theorem allBt : ∀ l : List Int, allB (l.map fun _ => D.bl true) = some (l.map fun _ => true)
  | [] => rfl
  | x :: l => by
    simp only [List.map_cons, DL.allB, allBt l]
theorem all_true {α : Type} (l : List α) : (l.map fun _ => true).all id = true := by
  induction l with
  | nil => rfl
  | cons a l ih => rw [List.map_cons, List.all_cons, ih]; rfl
theorem hB_law_is_entry : ∀ ds Φ, S_law_is_entry ds Φ → B_law_is_entry ⟨startD n_law_is_entry ds, 0⟩ (retD Φ) := by
  rintro ds Φ ⟨e, rfl, ok, hk, h⟩
  refine gs_seq (gs_ifF (.of (.or (.not (.v (.isi (.name rfl) rfl (isi_tt _)) rfl)) fun _ => .or (.v (.bin (.cl (.one (.name rfl)) rfl (f := fLen) rfl) .dt rfl rfl (fne (okD_int _) (okD_int _))) rfl) fun _ => .not (.v (.isi (.bin (.name rfl) .dt rfl rfl (at_e0 e)) rfl (isi_ss _)) rfl)) (by rw [eqD_int]; rfl)) (gs_nil ?_))
  dsimp only
  refine gs_seq ?_
  refine gs_ifF ?_ (gs_nil ?_)
  · exact .of (.or (.not (.v (.isi (.bin (.name rfl) .dt rfl rfl (at_e1 e)) rfl (isi_tt _)) rfl)) fun _ => .not (.v (ev_whole (.bin (.name rfl) .dt rfl rfl (at_e2 e))) rfl)) rfl
  dsimp only
  refine gs_ret (.cl (w := .dat (.bl true)) (.one (.lcA (xs := e.2.1) (dOf := .int) (g := fun _ => .bl true) (.seq (.bin (.name rfl) .dt rfl rfl (at_e1 e)) rfl rfl) rfl hk fun x hx => ⟨_, rfl, rfl, _, ev_whole (.name rfl), rfl⟩)) rfl ?_) ⟨_, _, rfl, h⟩
  show (DL.allB (e.2.1.map fun _ => D.bl true)).map _ = _
  rw [allBt]
  show some (W.dat (.bl ((e.2.1.map fun _ => true).all id))) = _
  rw [all_true]
theorem hl_law_told_of : ∀ ds Φ, S_law_told_of ds Φ → ds.length = 3 := by rintro ds Φ ⟨cs, name, key, rfl, _⟩; rfl
theorem told_snoc (pre : List (List E)) (c : List E) (name : Str) (key : Option (List Int)) : told (pre ++ [c]) name key = told pre name key ++ c.filter (hit name key) := by
  unfold told
  simp
theorem told_len {cs : List (List E)} (ok : OkC cs) (name : Str) (key : Option (List Int)) : (told cs name key).length ≤ 18 := by
  have : ∀ l : List (List E), (∀ c ∈ l, c.length ≤ 3) → (told l name key).length ≤ 3 * l.length := by
    intro l
    induction l with
    | nil => intro _; exact Nat.le_refl 0
    | cons c l ih =>
      intro h
      have := ih fun x hx => h x (List.mem_cons_of_mem _ hx)
      have h1 := h c (List.mem_cons_self ..)
      have h2 := List.length_filter_le (hit name key) c
      unfold told at this ⊢
      rw [List.map_cons, List.flatten_cons, List.length_append, List.length_cons]
      omega
  have h1 := this cs fun c hc => (ok.each c hc).1
  have h2 := ok.len
  omega
theorem OkC.pre {pre post : List (List E)} (ok : OkC (pre ++ post)) : OkC pre := ⟨by have := ok.len; rw [List.length_append] at this; omega, fun c hc => ok.each c (List.mem_append_left _ hc)⟩
theorem hB_law_told_of : ∀ ds Φ, S_law_told_of ds Φ → B_law_told_of ⟨startD n_law_told_of ds, 0⟩ (retD Φ) := by
  rintro ds Φ ⟨cs, name, key, rfl, ok, on, h⟩
  refine gs_seq (gs_set (.lst .nil rfl (by decide)) rfl ?_)
  dsimp only
  refine gs_seq (gs_forL (L := cs) (dOf := copD) (fun pre s => ∃ x y, s = ⟨[some (.val (copsD cs)), some (.val (.str name)), some (.val (keyD key)), some (.val (.lst ((told pre name key).map eD))), x, y], 0⟩) (.seq (.name rfl) rfl rfl) rfl ⟨_, _, rfl⟩ ?_ ?_)
  · rintro pre c post s De' e ⟨x, y, rfl⟩ hrt hbk hnx _
    subst e
    have hc := ok.each c (by simp)
    simp only [told_snoc, List.map_append] at hnx
    refine ⟨_, rfl, ?_⟩
    refine gs_set (w := .new ((told pre name key).map eD ++ (c.filter (hit name key)).map eD)) (.bin (.name rfl) (.lc (xs := c) (dOf := eD) (p := hit name key) (g := eD) (.seq (.name rfl) rfl rfl) rfl (by omega) fun e he => ⟨_, rfl, rfl, hit_ev rfl rfl rfl (hc.2 e he).1 on, fun _ => ⟨_, .name rfl, rfl⟩⟩) rfl rfl (add_lst ?_)) rfl (hnx _ ⟨_, _, rfl⟩)
    · have h1 := told_len (OkC.pre ok) name key
      have h2 := List.length_filter_le (hit name key) c
      simp only [List.length_map]
      omega
  · rintro s ⟨x, y, rfl⟩
    dsimp only
    exact gs_ret (.name rfl) ⟨_, _, rfl, h⟩
theorem hl_told_counts : ∀ ds Φ, S_told_counts ds Φ → ds.length = 3 := by rintro ds Φ ⟨cs, name, key, rfl, _⟩; rfl
theorem told_ok {cs : List (List E)} (ok : OkC cs) {name : Str} {key : Option (List Int)} : ∀ e ∈ told cs name key, strK e.1 = true ∧ e.2.1.length ≤ 2 := by
  intro e he
  unfold told at he
  obtain ⟨l, hl, h⟩ := List.mem_flatten.mp he
  obtain ⟨c, hc, rfl⟩ := List.mem_map.mp hl
  exact (ok.each c hc).2 e (List.mem_filter.mp h).1
theorem kv_ok (T : List E) : okIt (kvOf T) := by
  have key : ∀ e, itD (nkE e, D.int ((T.count e : Nat) : Int)) = pD (cnt T e) := fun e => by
    unfold itD pD cnt
    rw [dN_nkE]
  refine ⟨fun p hp => ?_, ?_⟩
  · obtain ⟨e, _, rfl⟩ := List.mem_map.mp hp
    refine ⟨rfl, ?_⟩
    rw [key, toP_pD]
    have := depth_e e
    simp only [PyData.depth, PyData.depthAll, cnt]
    omega
  · intro x hx y hy
    obtain ⟨p, hp, rfl⟩ := List.mem_map.mp hx
    obtain ⟨q, hq, rfl⟩ := List.mem_map.mp hy
    obtain ⟨a, _, rfl⟩ := List.mem_map.mp hp
    obtain ⟨b, _, rfl⟩ := List.mem_map.mp hq
    show PySem.W.alike (toP (itD (nkE a, _))) (toP (itD (nkE b, _))) = true
    rw [key, key]
    exact alike_p _ _
theorem kv_len (T : List E) : (kvOf T).length ≤ T.length := by
  unfold kvOf
  rw [List.length_map]
  exact sub_dd.length_le
theorem hB_told_counts : ∀ ds Φ, S_told_counts ds Φ → B_told_counts ⟨startD n_told_counts ds, 0⟩ (retD Φ) := by
  rintro ds Φ ⟨cs, name, key, rfl, ok, on, h⟩
  refine gs_seq (gs_dct ?_)
  dsimp only
  refine gs_seq (gs_forL (L := cs) (dOf := copD) (fun pre s => ∃ x y, s = ⟨[some (.val (copsD cs)), some (.val (.str name)), some (.val (keyD key)), some (.dct (kvOf (told pre name key))), x, y], 0⟩) (.seq (.name rfl) rfl rfl) rfl ⟨_, _, rfl⟩ ?_ ?_)
  · rintro pre c post s De' e ⟨x, y, rfl⟩ hrt hbk hnx _
    subst e
    have hc := ok.each c (by simp)
    simp only [told_snoc] at hnx
    refine ⟨_, rfl, ?_⟩
    refine gs_forL (L := c) (dOf := eD) (fun p s => ∃ y, s = ⟨[some (.val (copsD (pre ++ c :: post))), some (.val (.str name)), some (.val (keyD key)), some (.dct (kvOf (told pre name key ++ p.filter (hit name key)))), some (.val (copD c)), y], 0⟩) (.seq (.name rfl) rfl rfl) rfl ⟨_, by rw [List.filter_nil, List.append_nil]; rfl⟩ ?_ ?_
    · rintro q e post2 s De2 e2 ⟨y, rfl⟩ _ _ hnx2 _
      have he : e ∈ c := by rw [e2]; simp
      refine ⟨_, rfl, gs_if (hit_ev rfl rfl rfl (hc.2 e he).1 on) (fun hh => ?_) fun hh => ?_⟩
      · have hk : Ev (DL.gName 5) (⟨[some (.val (copsD (pre ++ c :: post))), some (.val (.str name)), some (.val (keyD key)), some (.dct (kvOf (told pre name key ++ q.filter (hit name key)))), some (.val (copD c)), some (.val (eD e))], 0⟩ : Stt) (.dat (dN (nkE e))) := by
          rw [dN_nkE]
          exact .name rfl
        refine gs_putK rfl (.bin (.get2 rfl hk rfl (depth_nkE e) .dt rfl) .dt rfl rfl (w := .dat (.int (((told pre name key ++ q.filter (hit name key)).count e : Nat) + 1 : Int))) ?_) rfl hk rfl (depth_nkE e) ?_ (hnx2 _ ⟨some (.val (eD e)), ?_⟩)
        · show fAdd ((getK _ (nkE e)).getD (.int 0)) (.int 1) = _
          rw [kv_get, DL.add_int]
        · have h1 := kv_len (told pre name key ++ q.filter (hit name key))
          have h2 := told_len (OkC.pre ok) name key
          have h3 := List.length_filter_le (hit name key) q
          have h4 : q.length ≤ c.length := by rw [e2]; simp
          rw [List.length_append] at h1
          omega
        · rw [List.filter_append, List.filter_cons_of_pos hh, List.filter_nil, ← List.append_assoc, ← kv_put]
          rfl
      · refine gs_nil (hnx2 _ ⟨some (.val (eD e)), ?_⟩)
        rw [List.filter_append, List.filter_cons_of_neg (by rw [hh]; decide), List.filter_nil, List.append_nil]
        rfl
    · rintro s ⟨y, rfl⟩
      exact hnx _ ⟨_, _, rfl⟩
  · rintro s ⟨x, y, rfl⟩
    dsimp only
    refine gs_ret (.cl (w := .dat (cntD (counted (told cs name key)))) (.one (.sortIt rfl (kv_ok _))) rfl ?_) ⟨_, _, rfl, h⟩
    show some (W.dat (.tup (sortD ((kvOf (told cs name key)).map itD)))) = _
    rw [kv_it, sort_counted]
    rfl
theorem okS_e (T : List E) : okS (T.map eD) := by
  refine ⟨fun d hd => ?_, ?_, ?_⟩
  · obtain ⟨e, _, rfl⟩ := List.mem_map.mp hd
    exact ⟨pure_e e, by rw [depth_e]; decide⟩
  · intro x hx y hy
    rw [List.map_map] at hx hy
    obtain ⟨a, _, rfl⟩ := List.mem_map.mp hx
    obtain ⟨b, _, rfl⟩ := List.mem_map.mp hy
    exact alike_e a b
  · refine .inl fun d hd => ?_
    rw [List.map_map] at hd
    obtain ⟨a, _, rfl⟩ := List.mem_map.mp hd
    exact ⟨_, _, toP_eD a⟩
theorem sortD_e (T : List E) : sortD (T.map eD) = (sortE T).map eD := by
  unfold sortD sortE
  rw [List.map_mergeSort (f := eD) (r := leE) (s := leD)]
  intro a _ b _
  rfl
theorem hl_law_counted : ∀ ds Φ, S_law_counted ds Φ → ds.length = 1 := by rintro ds Φ ⟨cs, rfl, _⟩; rfl
def enumE : Nat → List E → List (Nat × E)
  | _, [] => []
  | k, e :: es => (k, e) :: enumE (k + 1) es
theorem enumE_D : ∀ (k : Nat) (l : List E), (enumD k (l.map eD)).map (fun p => D.tup [p.1, p.2]) = (enumE k l).map fun p => D.tup [.int (p.1 : Nat), eD p.2]
  | _, [] => rfl
  | k, e :: l => by
    rw [List.map_cons, enumD, List.map_cons, enumE_D (k + 1) l]
    rfl
theorem enumE_at : ∀ {l : List E} {k : Nat} {p : Nat × E}, p ∈ enumE k l → ∃ j, p.1 = k + j ∧ l[j]? = some p.2
  | [], k, p, h => by cases h
  | e :: l, k, p, h => by
    rcases List.mem_cons.mp h with rfl | h
    · exact ⟨0, rfl, rfl⟩
    · obtain ⟨j, h1, h2⟩ := enumE_at h
      exact ⟨j + 1, by omega, h2⟩
theorem enum_dd : ∀ (l pre : List E), ((enumE pre.length l).filter fun p => !decide (p.2 ∈ (pre ++ l).take p.1)).map (·.2) = dd pre l
  | [], pre => rfl
  | e :: l, pre => by
    have ih := enum_dd l (pre ++ [e])
    rw [List.length_append, List.append_assoc] at ih
    have ih' : ((enumE (pre.length + 1) l).filter fun p => !decide (p.2 ∈ (pre ++ e :: l).take p.1)).map (·.2) = dd (pre ++ [e]) l := ih
    have ht : (pre ++ e :: l).take pre.length = pre := by simp
    unfold enumE dd
    by_cases c : e ∈ pre
    · rw [if_pos c, List.filter_cons_of_neg (by show ¬ (!decide (e ∈ (pre ++ e :: l).take pre.length)) = true; rw [ht, decide_eq_true c]; decide), ih']
    · rw [if_neg c, List.filter_cons_of_pos (by show (!decide (e ∈ (pre ++ e :: l).take pre.length)) = true; rw [ht, decide_eq_false c]; decide), List.map_cons, ih']
theorem cut_to_e (l : List E) (k : Nat) : cutD (l.map eD) none (some (k : Nat)) = (l.take k).map eD := by
  rw [cutD_to, List.map_take]
theorem enumE_len : ∀ (k : Nat) (l : List E), (enumE k l).length = l.length
  | _, [] => rfl
  | k, e :: l => by rw [enumE, List.length_cons, enumE_len (k + 1) l, List.length_cons]
theorem count_e (T : List E) (e : E) : ((T.map eD).countP fun z => eqD z (eD e)) = T.count e := by
  rw [List.countP_map, List.count_eq_countP]
  refine List.countP_congr fun x _ => ?_
  show eqD (eD x) (eD e) = true ↔ _
  rw [eqD_e]
  simp
theorem hB_law_counted : ∀ ds Φ, S_law_counted ds Φ → B_law_counted ⟨startD n_law_counted ds, 0⟩ (retD Φ) := by
  rintro ds Φ ⟨T, rfl, hl, ok, h⟩
  have hS : (sortE T).length = T.length := List.length_mergeSort ..
  have okS' : ∀ e ∈ sortE T, strK e.1 = true := fun e he => ok e ((List.mem_mergeSort).mp he)
  refine gs_seq (gs_set (.sorted (.one (.name rfl)) rfl (okS_e T)) rfl ?_)
  dsimp only
  rw [sortD_e]
  refine gs_ret (.lc (xs := enumE 0 (sortE T)) (dOf := fun p => D.tup [.int (p.1 : Nat), eD p.2]) (p := fun p => !decide (p.2 ∈ (sortE T).take p.1)) (g := fun p => pD (cnt T p.2)) (.enum (.one (.name rfl)) rfl rfl rfl) (enumE_D 0 _) ?_ fun p hp => ?_) ⟨_, _, rfl, ?_⟩
  · rw [enumE_len, hS]
    omega
  · obtain ⟨j, _, hj⟩ := enumE_at hp
    have he : strK p.2.1 = true := okS' _ (List.mem_of_getElem? hj)
    refine ⟨_, rfl, rfl, .v (.bin (w := .dat (.bl (!decide (p.2 ∈ (sortE T).take p.1)))) (.name rfl) (.sl (w := .new (((sortE T).take p.1).map eD)) (.name rfl) .none (.some (.name rfl) rfl) rfl ?_) rfl rfl ?_) rfl, fun _ => ⟨_, .tup (.cons (.name rfl) (.one (.count (.name rfl) rfl (.name rfl) rfl (okD_es ok) (dk_e he |>.ok (by decide))))) rfl (Nat.le_of_ble_eq_true rfl), ?_⟩⟩
    · show some (W.new (cutD _ none (some _))) = _
      rw [cut_to_e]
    · refine (if_pos ⟨(dk_e he).ok (by decide), okD_es fun e h => okS' e (List.mem_of_mem_take h)⟩).trans ?_
      rw [inD_e]
    · show some (D.tup [eD p.2, .int ((T.map eD).countP _ : Nat)], _) = _
      rw [count_e]
      rfl
  · have := enum_dd (sortE T) []
    have e : ((enumE 0 (sortE T)).filter fun p => !decide (p.2 ∈ (sortE T).take p.1)).map (fun p => pD (cnt T p.2)) = (counted T).map pD := by
      unfold counted
      rw [← this, List.map_map, List.map_map]
      rfl
    rw [e]
    exact h
end K23
set_option maxHeartbeats 1000000
namespace K23
open PySem PySem.Spec PyProof.Rows L2 Ax DL
theorem hl_sure_entry : ∀ ds Φ, S_sure_entry ds Φ → ds.length = 2 := by rintro ds Φ ⟨b, L, could, rfl, _⟩; rfl
theorem items_seq (b : Bool) (ds : List D) : itemsD (seqD b ds) = some ds := by cases b <;> rfl
theorem fits_enum (L : List (E × Int)) (could total : Int) : ∀ (k : Nat) (ps : List (E × Int)), fitsF L could total k ps = ((enumL k ps).filter fun q => decide (could < total - maxOr (othersF q.1 0 L) 0)).map (·.2.1)
  | k, [] => rfl
  | k, p :: ps => by
    rw [fitsF, enumL, fits_enum L could total (k + 1) ps]
    by_cases c : could < total - maxOr (othersF k 0 L) 0
    · rw [if_pos c, List.filter_cons_of_pos (by show decide _ = true; exact decide_eq_true c), List.map_cons]
    · rw [if_neg c, List.filter_cons_of_neg (by show ¬ decide _ = true; rw [decide_eq_true_eq]; exact c)]
theorem others_enum (a : Nat) : ∀ (k : Nat) (ps : List (E × Int)), othersF a k ps = ((enumL k ps).filter fun q => !decide (q.1 = a)).map (·.2.2)
  | k, [] => rfl
  | k, p :: ps => by
    rw [othersF, enumL, others_enum a (k + 1) ps]
    by_cases c : k = a
    · rw [if_pos c, List.filter_cons_of_neg (by show ¬ (!decide (k = a)) = true; rw [decide_eq_true c]; decide)]
    · rw [if_neg c, List.filter_cons_of_pos (by show (!decide (k = a)) = true; rw [decide_eq_false c]; rfl), List.map_cons]
theorem at_0 (l : List E) (e : E) : fIx (.lst ((e :: l).map eD)) (.int 0) = some (.dat (eD e)) := by
  simp [fIx, wat, atI, ixN]
theorem one_ret {s : Stt} {i : Nat} {l : List E} (h : s.r[i]? = some (some (.own (l.map eD)))) : Ev (gIf (gTv (gBin fEq (gCl fLen (gaCons (DL.gName i) gaNil)) (gDat (.int 1)))) (gBin fIx (DL.gName i) (gDat (.int 0))) (gDat .non)) s (.dat (optD (one l))) := by
  have hr : rd (.loc i) s = some (.lst (l.map eD)) := by simp only [rd, h]
  have t : EvB (gTv (gBin fEq (gCl fLen (gaCons (DL.gName i) gaNil)) (gDat (.int 1)))) s (decide ((l.length : Int) = 1)) := by
    rw [← eqD_int]
    exact .v (.bin (.cl (w := .dat (.int (l.length : Nat))) (.one (.nameO h)) (ds := [.lst (l.map eD)]) (by simp only [fixW, rdA, hr]) (f := fLen) (by simp only [fLen, List.length_map])) .dt rfl rfl (feq (okD_int _) (okD_int _))) rfl
  match l with
  | [] => exact .ifF (t.of rfl) .dt
  | [e] => exact .ifT (t.of rfl) (.bin (.nameO h) .dt hr rfl (at_0 [] e))
  | e :: e2 :: l => exact .ifF (t.of (decide_eq_false (by simp only [List.length_cons]; omega))) .dt
theorem hB_sure_entry : ∀ ds Φ, S_sure_entry ds Φ → B_sure_entry ⟨startD n_sure_entry ds, 0⟩ (retD Φ) := by
  rintro ds Φ ⟨b, L, could, rfl, hl, h⟩
  have hz : ∀ (q : E × Int), (D.tup [eD q.1, .int q.2]) = pD q := fun q => rfl
  refine gs_seq (gs_own (.lst .nil rfl (by decide)) ?_)
  dsimp only
  refine gs_seq (gs_set (.cl (w := .dat (.int (sumOf L))) (.one (.lcA (xs := L) (dOf := pD) (g := fun p => .int p.2) (.seq (.name rfl) rfl (items_seq _ _)) rfl (by omega) fun x hx => ⟨_, rfl, rfl, _, .name rfl, rfl⟩)) rfl ?_) rfl ?_)
  · show fSum [.lst (L.map (D.int ∘ fun p => p.2))] = _
    rw [← List.map_map, sum_ints]
    rfl
  dsimp only
  refine gs_seq (gs_forL (L := enumL 0 L) (dOf := fun p => D.tup [.int (p.1 : Nat), pD p.2]) (fun pre s => ∃ x4 x5 x6 x7 x8 x9, s = ⟨[some (.val (seqD b (L.map pD))), some (.val (.int could)), some (.own (((pre.filter fun q => decide (could < sumOf L - maxOr (othersF q.1 0 L) 0)).map (·.2.1)).map eD)), some (.val (.int (sumOf L))), x4, x5, x6, x7, x8, x9], 0⟩)
    (.enum (.one (.name rfl)) rfl rfl (items_seq _ _)) (enumL_D pD 0 L) ⟨_, _, _, _, _, _, rfl⟩ ?_ ?_)
  · rintro pre ⟨k, p⟩ post s De' e ⟨x4, x5, x6, x7, x8, x9, rfl⟩ _ _ hnx _
    refine ⟨_, rfl, gs_seq (gs_set (.lc (xs := enumL 0 L) (dOf := fun p => D.tup [.int (p.1 : Nat), pD p.2]) (p := fun q => !decide (q.1 = k)) (g := fun q => .int q.2.2) (.enum (.one (.name rfl)) rfl rfl (items_seq _ _)) (enumL_D pD 0 L) (by rw [enumL_len]; omega) fun q hq =>
      ⟨_, rfl, rfl, .v (.bin (w := .dat (.bl (!decide (q.1 = k)))) (.name rfl) (.name rfl) rfl rfl ?_) rfl, fun _ => ⟨_, .name rfl, rfl⟩⟩) rfl ?_)⟩
    · rw [fne (okD_int _) (okD_int _), eqD_int]
      rw [decide_eq_decide.mpr (show ((q.1 : Nat) : Int) = (k : Int) ↔ q.1 = k by omega)]
    dsimp only
    have e1 : ((enumL 0 L).filter fun q => !decide (q.1 = k)).map (fun q => D.int q.2.2) = (othersF k 0 L).map D.int := by
      rw [others_enum, List.map_map]
      rfl
    rw [e1]
    refine gs_if (k := decide (could < sumOf L - maxOr (othersF k 0 L) 0)) (.v (.bin (.bin (.name rfl) (.maxA (.one (.name rfl)) (.one .dt) rfl rfl) rfl rfl rfl) (.name rfl) rfl rfl rfl) rfl) (fun hc => ?_) fun hc => ?_
    · have hh : (pre ++ [(k, p)]).filter (fun q => decide (could < sumOf L - maxOr (othersF q.1 0 L) 0)) = pre.filter (fun q => decide (could < sumOf L - maxOr (othersF q.1 0 L) 0)) ++ [(k, p)] := by
        rw [List.filter_append, List.filter_cons_of_pos (by exact hc), List.filter_nil]
      simp only [hh, List.map_append] at hnx
      refine gs_app rfl (.name rfl) rfl ?_ (hnx _ ⟨_, _, _, _, _, _, rfl⟩)
      have h1 := List.length_filter_le (fun q : Nat × E × Int => decide (could < sumOf L - maxOr (othersF q.1 0 L) 0)) pre
      have h2 : (enumL 0 L).length = pre.length + (post.length + 1) := by rw [e, List.length_append, List.length_cons]
      rw [enumL_len] at h2
      rw [List.length_map, List.length_map]
      omega
    · have hh : (pre ++ [(k, p)]).filter (fun q => decide (could < sumOf L - maxOr (othersF q.1 0 L) 0)) = pre.filter (fun q => decide (could < sumOf L - maxOr (othersF q.1 0 L) 0)) := by
        rw [List.filter_append, List.filter_cons_of_neg (by show ¬ decide _ = true; rw [hc]; decide), List.filter_nil, List.append_nil]
      simp only [hh] at hnx
      exact gs_nil (hnx _ ⟨_, _, _, _, _, _, rfl⟩)
  · rintro s ⟨x4, x5, x6, x7, x8, x9, rfl⟩
    dsimp only
    refine gs_ret (one_ret rfl) ⟨_, _, rfl, ?_⟩
    unfold sure at h
    rw [fits_enum] at h
    exact h
end K23
set_option maxHeartbeats 1000000
namespace K23
open PySem PySem.Spec PyProof.Rows L2 Ax DL
theorem hl_law_only_in_all_ways : ∀ ds Φ, S_law_only_in_all_ways ds Φ → ds.length = 2 := by rintro ds Φ ⟨T, could, rfl, _⟩; rfl
def wD (w : List Bool) : D := .lst (w.map D.bl)
theorem go_snoc (T : List E) (could : Int) (w : List Bool) : ∀ (pre : List (List Bool)) (f f' : List E), goF T could pre f = some f' → goF T could (pre ++ [w]) f = goF T could [w] f'
  | [], f, f', h => by cases h; rfl
  | v :: pre, f, f', h => by
    rw [goF] at h
    rw [List.cons_append, goF]
    by_cases c : ((falses v : Nat) : Int) ≤ could
    · rw [if_pos c] at h ⊢
      cases hs : sel T v with
      | nil => rw [hs] at h; cases h
      | cons r rs =>
        rw [hs] at h
        simp only at h ⊢
        by_cases q : (∀ x ∈ r :: rs, x = r) ∧ r ∉ f
        · rw [if_pos q] at h ⊢
          exact go_snoc T could w pre _ f' h
        · rw [if_neg q] at h ⊢
          exact go_snoc T could w pre _ f' h
    · rw [if_neg c] at h ⊢
      exact go_snoc T could w pre _ f' h
theorem go_early (T : List E) (could : Int) (post : List (List Bool)) : ∀ (pre : List (List Bool)) (f : List E), goF T could pre f = none → goF T could (pre ++ post) f = none
  | [], f, h => by cases h
  | v :: pre, f, h => by
    rw [goF] at h
    rw [List.cons_append, goF]
    by_cases c : ((falses v : Nat) : Int) ≤ could
    · rw [if_pos c] at h ⊢
      cases hs : sel T v with
      | nil => rfl
      | cons r rs =>
        rw [hs] at h
        simp only at h ⊢
        by_cases q : (∀ x ∈ r :: rs, x = r) ∧ r ∉ f
        · rw [if_pos q] at h ⊢
          exact go_early T could post pre _ h
        · rw [if_neg q] at h ⊢
          exact go_early T could post pre _ h
    · rw [if_neg c] at h ⊢
      exact go_early T could post pre _ h
theorem sel_enum : ∀ (T : List E) (w wp : List Bool), w.length = T.length → ((enumL wp.length T).filter fun q => !((wp ++ w)[q.1]?.getD false)).map (·.2) = sel T w
  | [], [], wp, _ => rfl
  | x :: T, b :: w, wp, h => by
    have ih := sel_enum T w (wp ++ [b]) (by simpa using h)
    rw [List.length_append, List.append_assoc] at ih
    have ih' : ((enumL (wp.length + 1) T).filter fun q => !((wp ++ b :: w)[q.1]?.getD false)).map (·.2) = sel T w := ih
    have hb : (wp ++ b :: w)[wp.length]?.getD false = b := by simp
    rw [enumL, sel]
    cases b with
    | true => rw [if_pos rfl, List.filter_cons_of_neg (by show ¬ (!((wp ++ true :: w)[wp.length]?.getD false)) = true; rw [hb]; decide), ih']
    | false => rw [if_neg (by decide), List.filter_cons_of_pos (by show (!((wp ++ false :: w)[wp.length]?.getD false)) = true; rw [hb]; decide), List.map_cons, ih']
theorem ways_le {k : Nat} (h : k ≤ 17) : (ways k).length ≤ 131072 := by
  rw [len_ways]
  exact Nat.pow_le_pow_right (n := 2) (by decide) h
theorem at_bls {w : List Bool} {k : Nat} (h : k < w.length) : fIx (wD w) (.int (k : Nat)) = some (.dat (.bl (w[k]?.getD false))) := by
  simp [fIx, wD, wat, atI, ixN, h]
theorem hB_law_only_in_all_ways : ∀ ds Φ, S_law_only_in_all_ways ds Φ → B_law_only_in_all_ways ⟨startD n_law_only_in_all_ways ds, 0⟩ (retD Φ) := by
  rintro ds Φ ⟨T, could, rfl, hl, ok, h⟩
  refine gs_seq (gs_set (.lst (.one (.lst .nil rfl (by decide))) rfl (by decide)) rfl ?_)
  dsimp only
  refine gs_seq (gs_forL (L := T) (dOf := eD) (fun pre s => ∃ x3, s = ⟨[some (.val (.lst (T.map eD))), some (.val (.int could)), some (.val (.lst ((ways pre.length).map wD))), x3, none, none, none, none, none, none], 0⟩) (.seq (.name rfl) rfl rfl) rfl ⟨_, rfl⟩ ?_ ?_)
  · rintro pre e post s De' eT ⟨x3, rfl⟩ _ _ hnx _
    have hp : pre.length ≤ 17 := by
      have := congrArg List.length eT
      rw [List.length_append, List.length_cons] at this
      omega
    have hw := ways_le hp
    simp only [List.length_append, List.length_cons, List.length_nil, ways, List.map_append, List.map_map] at hnx
    have hadd : ∀ (b : Bool), ∀ w ∈ ways pre.length, fAdd (wD w) (.lst [.bl b]) = some (.new ((w ++ [b]).map D.bl)) := fun b w hm => by
      have := mem_ways.mp hm
      rw [List.map_append]
      exact add_lst (by rw [List.length_map]; simp; omega)
    have lc : ∀ (b : Bool) (x3 : Option En), Ev (gLc (giSeq (DL.gName 2)) (tgName 5) gYes (gBin fAdd (DL.gName 5) (gLst (gaCons (gDat (.bl b)) gaNil))) [5]) (⟨[some (.val (.lst (T.map eD))), some (.val (.int could)), some (.val (.lst ((ways pre.length).map wD))), x3, none, none, none, none, none, none], 0⟩ : Stt) (.new ((ways pre.length).map fun w => wD (w ++ [b]))) :=
      fun b x3 => .lcA (xs := ways pre.length) (dOf := wD) (g := fun w => wD (w ++ [b])) (.seq (.name rfl) rfl rfl) rfl (by omega) fun w hm => ⟨_, rfl, rfl, _, .bin (.name rfl) (.lst (.one .dt) rfl (Nat.le_of_ble_eq_true rfl)) rfl rfl (hadd b w hm), rfl⟩
    exact ⟨_, rfl, gs_set (.bin (lc true _) (lc false _) rfl rfl (add_lst (by rw [List.length_map, List.length_map]; omega))) rfl (hnx _ ⟨_, rfl⟩)⟩
  · rintro s ⟨x3, rfl⟩
    dsimp only
    refine gs_seq (gs_own (.lst .nil rfl (by decide)) ?_)
    dsimp only
    have hW : (ways T.length).length ≤ 262144 := by
      rw [len_ways]
      exact Nat.pow_le_pow_right (n := 2) (by decide) hl
    refine gs_seq (gs_forL (L := ways T.length) (dOf := wD) (fun pre s => ∃ x3 x5 x6 x7 x8 x9 f, goF T could pre [] = some f ∧ f.length ≤ pre.length ∧ (∀ e ∈ f, strK e.1 = true) ∧ s = ⟨[some (.val (.lst (T.map eD))), some (.val (.int could)), some (.val (.lst ((ways T.length).map wD))), x3, some (.own (f.map eD)), x5, x6, x7, x8, x9], 0⟩) (.seq (.name rfl) rfl rfl) rfl ⟨_, _, _, _, _, _, [], rfl, Nat.le_refl _, fun e he => (List.not_mem_nil he).elim, rfl⟩ ?_ ?_)
    · rintro pre w post s De' eW ⟨x3, x5, x6, x7, x8, x9, f, hg, hfl, hfo, rfl⟩ hrt _ hnx _
      have hw : w ∈ ways T.length := by rw [eW]; simp
      have hwl := mem_ways.mp hw
      refine ⟨_, rfl, gs_seq (gs_set (.cl (w := .dat (.int (falses w : Nat))) (.one (.lc (xs := w) (dOf := .bl) (p := id) (g := .bl) (.seq (.name rfl) rfl rfl) rfl (by omega) fun b hb => ⟨_, rfl, rfl, .v (.name rfl) rfl, fun _ => ⟨_, .name rfl, rfl⟩⟩)) rfl ?_) rfl ?_)⟩
      · show some (W.dat (.int (((w.filter id).map D.bl).length : Nat))) = _
        rw [List.length_map]
        rfl
      dsimp only
      have gsn := go_snoc T could w pre [] f hg
      rw [goF] at gsn
      refine gs_if (k := decide (((falses w : Nat) : Int) ≤ could)) (.v (.bin (.name rfl) (.name rfl) rfl rfl rfl) rfl) (fun hc => ?_) fun hc => ?_
      · rw [if_pos (of_decide_eq_true hc)] at gsn
        refine gs_seq (gs_set (w := .new ((sel T w).map eD)) ?_ rfl ?_)
        · have e1 : ((enumL 0 T).filter fun q => !(w[q.1]?.getD false)).map (fun q => eD q.2) = (sel T w).map eD := by
            rw [← sel_enum T w [] hwl, List.map_map]
            rfl
          rw [← e1]
          refine .lc (xs := enumL 0 T) (dOf := fun p => D.tup [.int (p.1 : Nat), eD p.2]) (p := fun q => !(w[q.1]?.getD false)) (g := fun q => eD q.2) (.enum (.one (.name rfl)) rfl rfl rfl) (enumL_D eD 0 T) (by rw [enumL_len]; omega) fun q hq => ?_
          obtain ⟨j, hj, hq2⟩ := enumL_at hq
          have : j < T.length := (List.getElem?_eq_some_iff.mp hq2).1
          exact ⟨_, rfl, rfl, .not (.v (.bin (.name rfl) (.name rfl) rfl rfl (at_bls (by omega))) rfl), fun _ => ⟨_, .name rfl, rfl⟩⟩
        dsimp only
        have hsl := sel_sub (T := T) (w := w)
        have hlen : (sel T w).length ≤ T.length := hsl.length_le
        have hokr : ∀ e ∈ sel T w, strK e.1 = true := fun e he => ok e (hsl.mem he)
        cases hs : sel T w with
        | nil =>
          rw [hs] at gsn
          refine gs_seq (gs_ifT (.of (.v (.bin (.cl (w := .dat (.int (0 : Nat))) (.one (.name rfl)) rfl (f := fLen) rfl) .dt rfl rfl (feq (okD_int _) (okD_int _))) rfl) (by rw [eqD_int]; rfl)) (gs_ret .dt ?_))
          dsimp only
          rw [hrt]
          refine ⟨.non, _, rfl, ?_⟩
          have : only T could = none := by
            unfold only
            rw [eW, show pre ++ w :: post = (pre ++ [w]) ++ post by simp, go_early T could post _ _ gsn]
          rw [this] at h
          exact h
        | cons r rs =>
          rw [hs] at gsn hlen hokr
          refine gs_seq (gs_ifF (.of (.v (.bin (.cl (w := .dat (.int (((r :: rs).map eD).length : Nat))) (.one (.name rfl)) rfl (f := fLen) rfl) .dt rfl rfl (feq (okD_int _) (okD_int _))) rfl) (by rw [eqD_int]; exact decide_eq_false (by simp only [List.length_map, List.length_cons]; omega))) (gs_nil ?_))
          dsimp only
          have hr := hokr r (List.mem_cons_self ..)
          have a1 : ∀ x3 x5 x6 x8 x9, EvB (gTv (gCl fAll (gaCons (gLc (giSeq (DL.gName 7)) (tgName 3) gYes (gBin fEq (DL.gName 3) (gBin fIx (DL.gName 7) (gDat (.int 0)))) [3]) gaNil))) (⟨[some (.val (.lst (T.map eD))), some (.val (.int could)), some (.val (.lst ((ways T.length).map wD))), x3, some (.own (f.map eD)), x5, x6, some (.val (.lst ((r :: rs).map eD))), x8, x9], 0⟩ : Stt) (decide (∀ x ∈ r :: rs, x = r)) := by
            intro x3 x5 x6 x8 x9
            have e1 : decide (∀ x ∈ r :: rs, x = r) = ((r :: rs).map fun x => decide (x = r)).all id := by
              rw [List.all_map]
              rw [Bool.eq_iff_iff, decide_eq_true_eq, List.all_eq_true]
              exact forall_congr' fun x => forall_congr' fun _ => (by simp)
            rw [e1]
            refine .v (.cl (w := .dat (.bl (((r :: rs).map fun x => decide (x = r)).all id))) (.one (.lcA (xs := r :: rs) (dOf := eD) (g := fun x => .bl (decide (x = r))) (.seq (.name rfl) rfl rfl) rfl (by omega) fun x hx => ⟨_, rfl, rfl, .dat (.bl (decide (x = r))), ?_, rfl⟩)) rfl ?_) rfl
            · rw [← eqD_e]
              exact .bin (.name rfl) (.bin (.name rfl) .dt rfl rfl (at_0 rs r)) rfl rfl (feq ((dk_e (hokr x hx)).ok (by decide)) ((dk_e hr).ok (by decide)))
            · rw [← all_bls, List.map_map]
              rfl
          refine gs_if (k := decide (∀ x ∈ r :: rs, x = r) && !decide (r ∈ f)) (.and (a1 _ _ _ _ _) fun _ => ?_) (fun hk => ?_) fun hk => ?_
          · rw [← inD_e]
            exact .v (.bin (.bin (.name rfl) .dt rfl rfl (at_0 rs r)) (.nameO rfl) rfl rfl (if_pos ⟨(dk_e hr).ok (by decide), okD_es hfo⟩)) rfl
          · have hk' : (∀ x ∈ r :: rs, x = r) ∧ r ∉ f := by
              rw [Bool.and_eq_true, Bool.not_eq_true', decide_eq_true_eq, decide_eq_false_iff_not] at hk
              exact hk
            simp only at gsn
            rw [if_pos hk'] at gsn
            have hpl : pre.length < 262144 := by
              have := congrArg List.length eW
              rw [List.length_append, List.length_cons] at this
              omega
            refine gs_app rfl (.bin (.name rfl) .dt rfl rfl (at_0 rs r)) rfl (by rw [List.length_map]; omega) (hnx _ ⟨_, _, _, _, _, _, f ++ [r], gsn, by rw [List.length_append, List.length_append]; exact Nat.add_le_add_right hfl 1, fun e he => ?_, by rw [List.map_append]; rfl⟩)
            rcases List.mem_append.mp he with z | z
            · exact hfo e z
            · rw [List.mem_singleton.mp z]; exact hr
          · have hk' : ¬ ((∀ x ∈ r :: rs, x = r) ∧ r ∉ f) := fun z => by
              rw [decide_eq_true z.1, decide_eq_false z.2] at hk
              cases hk
            simp only at gsn
            rw [if_neg hk'] at gsn
            exact gs_nil (hnx _ ⟨_, _, _, _, _, _, f, gsn, by rw [List.length_append]; omega, hfo, rfl⟩)
      · rw [if_neg (of_decide_eq_false hc)] at gsn
        exact gs_nil (hnx _ ⟨_, _, _, _, _, _, f, gsn, by rw [List.length_append]; omega, hfo, rfl⟩)
    · rintro s ⟨x3, x5, x6, x7, x8, x9, f, hg, hfl, hfo, rfl⟩
      dsimp only
      refine gs_ret (one_ret rfl) ⟨_, _, rfl, ?_⟩
      unfold only at h
      rw [hg] at h
      exact h
end K23
set_option maxHeartbeats 1000000
namespace K23
open PySem PySem.Spec PyProof.Rows L2 Ax DL
theorem drw {i : Nat} {s : Stt} {lim : Int} {Φ : W → Stt → Prop} (hb : s.r[i]? = some (some .bag)) (h1 : 1 ≤ lim) (h2 : lim.natAbs < 2 ^ 200) (hn : s.n < 1000000) (q : ∀ d, 0 ≤ d → d < lim → Φ (.dat (.int d)) { s with n := s.n + 1 }) : gCallB i SDraw (gaCons (gDat (.int lim)) gaNil) s Φ :=
  callB hb (.one .dt) rfl ⟨lim, rfl, h1, h2, hn, fun d h0 h1 => q d h0 h1⟩
theorem hl_law_marked_copy : ∀ ds n Φ, S_law_marked_copy ds n Φ → ds.length = 3 := by rintro ds n Φ ⟨T, could, x, rfl, _⟩; rfl
abbrev mS (name : Str) (wide : Nat) (tw : Bool) (f : List E) (x5 x6 : Option En) (n : Nat) : Stt := ⟨[some .bag, some (.val (.str name)), some (.val (.int (wide : Nat))), some (.val (.bl tw)), some (.own (f.map eD)), x5, x6], n⟩
theorem key_loop {name : Str} {wide : Nat} {tw : Bool} {f : List E} {x5 : Option En} {Φ : List D → Stt → Prop} : ∀ (ds : List D) (ks : List Int) (x6 : Option En) (n : Nat), n + ds.length < 1000000 →
    (∀ (ks' : List Int) (x6' : Option En) (n' : Nat), ks'.length = ks.length + ds.length → n' = n + ds.length → Φ (ks'.map D.int) (mS name wide tw f x5 x6' n')) →
    loopC (tgName 6) gYes (gCl fInt (gaCons (gBin (fIc CDiv fun i j => i / j) (gCallB 0 SDraw (gaCons (gDat (.int 4)) gaNil)) (gDat (.int 3))) gaNil)) [6] ds (ks.map D.int) (mS name wide tw f x5 x6 n) Φ
  | [], ks, x6, n, hn, q => q ks x6 n rfl rfl
  | d :: ds, ks, x6, n, hn, q => by
    rw [List.length_cons] at hn
    refine ⟨_, rfl, ?_⟩
    refine EvB.yes _ ?_
    rw [if_pos rfl]
    refine cl_run (ga_run (bin_run (drw rfl (by decide) (by decide) (by show n < 1000000; omega) fun x h0 h1 => ?_)))
    refine ⟨_, _, _, rfl, rfl, div_int ⟨by decide, by decide⟩, _, _, rfl, rfl, _, _, rfl, ?_⟩
    have := key_loop (name := name) (wide := wide) (tw := tw) (f := f) (x5 := x5) (Φ := Φ) ds (ks ++ [x / 3]) (some (.val d)) (n + 1) (by omega) fun ks' x6' n' e1 e2 => q ks' x6' n' (by rw [e1, List.length_append, List.length_cons, List.length_cons, List.length_nil]; omega) (by rw [e2, List.length_cons]; omega)
    rw [List.map_append] at this
    exact this
theorem strK_a : strK ("a" : Str) = true := by decide +kernel
theorem hB_law_marked_copy : ∀ ds n Φ, S_law_marked_copy ds n Φ → B_law_marked_copy ⟨startB n_law_marked_copy ds, n⟩ (retB Φ) := by
  rintro ds n Φ ⟨name, wide, tw, rfl, on, hw, htw, hn, h⟩
  refine gs_seq (gs_own (.lst .nil rfl (by decide)) ?_)
  dsimp only
  have fin : ∀ (f : List E) x5 x6 n', f.length ≤ 3 → (∀ e ∈ f, strK e.1 = true ∧ e.2.1.length ≤ 2) → n' ≤ n + 20 → gsRet (gCl fTuple (gaCons (gSorted (gaCons (DL.gName 4) gaNil)) gaNil)) (mS name wide tw f x5 x6 n') (retB Φ) := fun f x5 x6 n' hf hok hn' =>
    gs_ret (.cl (w := .dat (copD (sortE f))) (.one (.sorted (.one (.nameO rfl)) rfl (okS_e f))) rfl (by rw [sortD_e]; rfl)) ⟨_, _, rfl, h (sortE f) n' (by rw [show (sortE f).length = f.length from List.length_mergeSort ..]; exact hf) (fun e he => hok e ((List.mem_mergeSort).mp he)) hn'⟩
  have snd : ∀ (f : List E) n', f.length ≤ 1 → (∀ e ∈ f, strK e.1 = true ∧ e.2.1.length ≤ 2) → n' ≤ n + 2 → (gsSeq (gsIf (gTv (gBin (fB fun i j => decide (j < i)) (gCallB 0 SDraw (gaCons (gDat (.int 5)) gaNil)) (gDat (.int 0)))) (gsSeq (gsSet 5 (gCl fTuple (gaCons (gLc (giRange1 (gaCons (DL.gName 2) gaNil)) (tgName 6) gYes (gCl fInt (gaCons (gBin (fIc CDiv fun i j => i / j) (gCallB 0 SDraw (gaCons (gDat (.int 4)) gaNil)) (gDat (.int 3))) gaNil)) [6]) gaNil)))
    (gsSeq (gsApp 4 (DL.gTup (gaCons (DL.gName 1) (gaCons (DL.gName 5) (gaCons (gCl fInt (gaCons (gBin (fIc CDiv fun i j => i / j) (gCallB 0 SDraw (gaCons (gDat (.int 5)) gaNil)) (gDat (.int 2))) gaNil)) gaNil)))))
    (gsIf (gTAnd (gTv (DL.gName 3)) (gTv (gBin fEq (gCallB 0 SDraw (gaCons (gDat (.int 2)) gaNil)) (gDat (.int 0))))) (gsApp 4 (DL.gTup (gaCons (DL.gName 1) (gaCons (gBin fAdd (DL.gTup (gaCons (gBin fAdd (gBin fIx (DL.gName 5) (gDat (.int 0))) (gDat (.int 1))) gaNil)) (gSl (DL.gName 5) (goSome (gDat (.int 1))) goNone)) (gaCons (gCl fInt (gaCons (gBin (fIc CDiv fun i j => i / j) (gCallB 0 SDraw (gaCons (gDat (.int 5)) gaNil)) (gDat (.int 2))) gaNil)) gaNil))))) gsNil))) gsNil)
    (gsRet (gCl fTuple (gaCons (gSorted (gaCons (DL.gName 4) gaNil)) gaNil)))) (mS name wide tw f none none n') (retB Φ) := by
    intro f n' hf hok hn'
    refine gs_seq ?_
    refine if_run (tv_run (bin_run (drw rfl (by decide) (by decide) (by show n' < 1000000; omega) fun d h0 h1 => ?_)))
    refine ⟨_, _, _, rfl, rfl, rfl, decide (0 < d), rfl, ?_⟩
    by_cases c : 0 < d
    · rw [decide_eq_true c, if_pos rfl]
      refine gs_seq ?_
      refine set_run (cl_run (ga_run (lcR (.range1 (.one (.name rfl)) rfl (by omega)) (by simp only [rangeD, List.length_map, List.length_range]; omega) ?_)))
      have hlen : (rangeD 0 ((wide : Nat) : Int).toNat).length = wide := by simp [rangeD]
      refine key_loop (rangeD 0 ((wide : Nat) : Int).toNat) [] none (n' + 1) (by omega) fun ks x6 n2 hk hn2 => ?_
      rw [hlen] at hk hn2
      refine ⟨_, _, rfl, rfl, _, _, rfl, ?_⟩
      dsimp only
      have ok2 : ∀ d2, ∀ e ∈ f ++ [(name, ks, d2)], strK e.1 = true ∧ e.2.1.length ≤ 2 := fun d2 e he => (List.mem_append.mp he).elim (hok e) fun z => by rw [List.mem_singleton.mp z]; exact ⟨on, by simp only [List.length_nil] at hk; show ks.length ≤ 2; omega⟩
      have len2 : ∀ d2, (f ++ [(name, ks, d2)]).length ≤ 2 := fun d2 => by rw [List.length_append]; exact Nat.add_le_add_right hf 1
      refine gs_seq (app_run ⟨_, rfl⟩ (tup_run (gaR (.name rfl) (gaR (.name rfl) (ga_run (cl_run (ga_run (bin_run (drw rfl (by decide) (by decide) (by show n2 < 1000000; omega) fun d2 h2 h3 => ?_)))))))))
      refine ⟨_, _, _, rfl, rfl, div_int ⟨by decide, by decide⟩, _, _, rfl, rfl, _, _, rfl, Nat.le_of_ble_eq_true rfl, _, _, _, rfl, rfl, by rw [List.length_map]; omega, ?_⟩
      dsimp only
      have st : ∀ (x : E) (s : Stt), s = mS name wide tw (f ++ [x]) (some (.val (kD ks))) none (n2 + 1) → s = mS name wide tw (f ++ [x]) (some (.val (kD ks))) none (n2 + 1) := fun _ _ h => h
      cases tw with
      | false =>
        refine gs_ifF (.and (b1 := false) (b2 := false) (.v (.name rfl) rfl) fun z => by cases z) (gs_nil ?_)
        dsimp only
        have := fin (f ++ [(name, ks, d2 / 2)]) (some (.val (kD ks))) none (n2 + 1) (by have := len2 (d2 / 2); omega) (ok2 _) (by omega)
        unfold mS at this
        rw [List.map_append] at this
        exact this
      | true =>
        have hwide := htw rfl
        cases ks with
        | nil => simp at hk; omega
        | cons k0 kr =>
          refine if_run (tand_run (EvB.v (.name rfl) rfl _ ?_))
          rw [if_pos rfl]
          refine tv_run (bin_run (drw rfl (by decide) (by decide) (by show n2 + 1 < 1000000; omega) fun d3 h4 h5 => ?_))
          refine ⟨_, _, _, rfl, rfl, feq (okD_int _) (okD_int _), _, rfl, ?_⟩
          rw [eqD_int]
          by_cases c3 : d3 = 0
          · rw [decide_eq_true c3, if_pos rfl]
            refine app_run ⟨_, rfl⟩ (tup_run (gaR (.name rfl) (gaR (w := .dat (kD ((k0 + 1) :: kr))) ?_ (ga_run (cl_run (ga_run (bin_run (drw rfl (by decide) (by decide) (by show n2 + 1 + 1 < 1000000; omega) fun d4 h6 h7 => ?_))))))))
            · refine .bin (.tup (.one (.bin (.bin (.name rfl) .dt rfl rfl (w := .dat (.int k0)) ?_) .dt rfl rfl (add_int _ _))) rfl (Nat.le_of_ble_eq_true rfl)) (.sl (w := .dat (kD kr)) (.name rfl) (.some .dt rfl) .none rfl ?_) rfl rfl ?_
              · simp [fIx, wat, atI, ixN, kD]
              · show some (W.dat (.tup (cutD _ (some ((1 : Nat) : Int)) none))) = _
                rw [cutD_from]
                rfl
              · refine (add_tup (ds := [.int (k0 + 1)]) (es := kr.map D.int) ?_).trans rfl
                simp only [List.length_cons, List.length_map, List.length_nil] at hk ⊢
                omega
            · refine ⟨_, _, _, rfl, rfl, div_int ⟨by decide, by decide⟩, _, _, rfl, rfl, _, _, rfl, Nat.le_of_ble_eq_true rfl, _, _, _, rfl, rfl, by rw [List.length_append, List.length_map]; simp; omega, ?_⟩
              dsimp only
              have := fin ((f ++ [(name, k0 :: kr, d2 / 2)]) ++ [(name, (k0 + 1) :: kr, d4 / 2)]) (some (.val (kD (k0 :: kr)))) none (n2 + 1 + 1 + 1) (by rw [List.length_append]; exact Nat.add_le_add_right (len2 _) 1) (fun e he => (List.mem_append.mp he).elim (ok2 _ e) fun z => by rw [List.mem_singleton.mp z]; exact ⟨on, by simp only [List.length_nil, List.length_cons] at hk ⊢; omega⟩) (by omega)
              unfold mS at this
              rw [List.map_append, List.map_append] at this
              exact this
          · rw [decide_eq_false c3, if_neg (by decide)]
            refine gs_nil ?_
            dsimp only
            have := fin (f ++ [(name, k0 :: kr, d2 / 2)]) (some (.val (kD (k0 :: kr)))) none (n2 + 1 + 1) (by have := len2 (d2 / 2); omega) (ok2 _) (by omega)
            unfold mS at this
            rw [List.map_append] at this
            exact this
    · rw [decide_eq_false c, if_neg (by decide)]
      exact gs_nil (fin f none none _ (by omega) hok (by show n' + 1 ≤ n + 20; omega))
  refine gs_seq ?_
  refine if_run (tv_run (bin_run (drw rfl (by decide) (by decide) (by show n < 1000000; omega) fun d h0 h1 => ?_)))
  refine ⟨_, _, _, rfl, rfl, rfl, decide (0 < d), rfl, ?_⟩
  by_cases c : 0 < d
  · rw [decide_eq_true c, if_pos rfl]
    refine app_run ⟨_, rfl⟩ (tup_run (gaR .dt (gaR (.tup .nil rfl (by decide)) (ga_run (drw rfl (by decide) (by decide) (by show n + 1 < 1000000; omega) fun d2 h2 h3 => ?_)))))
    refine ⟨_, _, rfl, Nat.le_of_ble_eq_true rfl, _, _, _, rfl, rfl, by decide, ?_⟩
    exact snd [("a", [], d2)] _ (Nat.le_refl 1) (fun e he => by rw [List.mem_singleton.mp he]; exact ⟨strK_a, Nat.zero_le _⟩) (by show n + 1 + 1 ≤ n + 2; omega)
  · rw [decide_eq_false c, if_neg (by decide)]
    exact gs_nil (snd [] _ (by decide) (fun e he => (List.not_mem_nil he).elim) (by show n + 1 ≤ n + 2; omega))
end K23
set_option maxHeartbeats 1000000
namespace K23
open PySem PySem.Spec PyProof.Rows L2 Ax DL
abbrev lS (name : Str) (cs : List (List E)) (x2 x4 x6 x7 x8 x9 x10 x11 x12 x13 x14 x15 x16 x17 x18 : Option En) (n : Nat) : Stt :=
  ⟨[none, some .bag, x2, some (.val (.str name)), x4, some (.val (copsD cs)), x6, x7, x8, x9, x10, x11, x12, x13, x14, x15, x16, x17, x18], n⟩
abbrev cS (name : Str) (wide : Nat) (tw : Bool) (x18 : Option En) (n : Nat) : Stt :=
  ⟨[none, some .bag, some (.val (.int (wide : Nat))), some (.val (.str name)), some (.val (.bl tw)), none, none, none, none, none, none, none, none, none, none, none, none, none, x18], n⟩
theorem cop_loop {name : Str} {wide : Nat} {tw : Bool} {Φ : List D → Stt → Prop} (on : strK name = true) (hw : wide ≤ 2) (htw : tw = true → 0 < wide) : ∀ (ds : List D) (cs : List (List E)) (x18 : Option En) (n : Nat), n + 20 * ds.length < 800000 →
    (∀ c ∈ cs, c.length ≤ 3 ∧ ∀ e ∈ c, strK e.1 = true ∧ e.2.1.length ≤ 2) →
    (∀ (cs' : List (List E)) (x18' : Option En) (n' : Nat), cs'.length = cs.length + ds.length → (∀ c ∈ cs', c.length ≤ 3 ∧ ∀ e ∈ c, strK e.1 = true ∧ e.2.1.length ≤ 2) → n' ≤ n + 20 * ds.length → Φ (cs'.map copD) (cS name wide tw x18' n')) →
    loopC (tgName 18) gYes (gCallB 1 S_law_marked_copy (gaCons (DL.gName 3) (gaCons (DL.gName 2) (gaCons (DL.gName 4) gaNil)))) [18] ds (cs.map copD) (cS name wide tw x18 n) Φ
  | [], cs, x18, n, hn, ok, q => q cs x18 n rfl ok (Nat.le_add_right _ _)
  | d :: ds, cs, x18, n, hn, ok, q => by
    rw [List.length_cons] at hn
    refine ⟨_, rfl, ?_⟩
    refine EvB.yes _ ?_
    rw [if_pos rfl]
    refine callB rfl (.cons (.name rfl) (.cons (.name rfl) (.one (.name rfl)))) rfl ⟨name, wide, tw, rfl, on, hw, htw, by show n < 900000; omega, fun c n' hc hok hn' => ?_⟩
    refine ⟨_, _, rfl, ?_⟩
    have := cop_loop (name := name) (wide := wide) (tw := tw) (Φ := Φ) on hw htw ds (cs ++ [c]) (some (.val d)) n' (by have : n' ≤ n + 20 := hn'; omega) (fun x hx => (List.mem_append.mp hx).elim (ok x) fun z => by rw [List.mem_singleton.mp z]; exact ⟨hc, hok⟩)
      fun cs' x18' n2 e1 e2 e3 => q cs' x18' n2 (by rw [e1, List.length_append, List.length_cons, List.length_cons, List.length_nil]; omega) e2 (by have : n' ≤ n + 20 := hn'; rw [List.length_cons]; omega)
    rw [List.map_append] at this
    exact this
/-! ### things that are like themselves -/
theorem eqD_refl {n : Nat} {d : D} (h : Dk n d) : eqD d d = true := PySem.SeqAt.eqv_refl _ h.lay
theorem ne_self {n : Nat} {d : D} (h : Dk n d) (hn : n ≤ 60) : fNe d d = some (.dat (.bl false)) := by
  rw [fne (h.ok hn) (h.ok hn), eqD_refl h]; rfl
theorem eq_self {n : Nat} {d : D} (h : Dk n d) (hn : n ≤ 60) : fEq d d = some (.dat (.bl true)) := by
  rw [feq (h.ok hn) (h.ok hn), eqD_refl h]
theorem dk_cop {c : List E} (h : ∀ e ∈ c, strK e.1 = true) : Dk 3 (copD c) := Dk.tup fun e he => dk_e (h e he)
theorem dk_cops {cs : List (List E)} (ok : OkC cs) : Dk 4 (copsD cs) := Dk.lst fun c hc => dk_cop fun e he => ((ok.each c hc).2 e he).1
theorem dk_p {p : E × Int} (h : strK p.1.1 = true) : Dk 3 (pD p) := by
  have := Dk.tup (f := id) (n := 2) (l := [eD p.1, .int p.2]) fun d hd => by
    rcases List.mem_cons.mp hd with rfl | hd
    · exact dk_e h
    · rw [List.mem_singleton.mp hd]
      exact ⟨rfl, rfl, Nat.zero_le _⟩
  exact this
theorem dk_cnt {L : List (E × Int)} (h : ∀ p ∈ L, strK p.1.1 = true) : Dk 4 (cntD L) := Dk.tup fun p hp => dk_p (h p hp)
theorem dk_opt {o : Option E} (h : ∀ e, o = some e → strK e.1 = true) : Dk 2 (optD o) := by
  cases o with
  | none => exact ⟨rfl, rfl, Nat.zero_le _⟩
  | some e => exact dk_e (h e rfl)
theorem mem_counted {T : List E} {p : E × Int} (h : p ∈ counted T) : p.1 ∈ T := by
  obtain ⟨e, he, rfl⟩ := List.mem_map.mp h
  exact (List.mem_mergeSort).mp (mem_dd.mp he).1
theorem counted_len (T : List E) : (counted T).length ≤ T.length := by
  unfold counted
  rw [List.length_map]
  exact Nat.le_trans sub_dd.length_le (Nat.le_of_eq (List.length_mergeSort ..))
theorem ok_only {T : List E} {could : Int} (h : ∀ e ∈ T, strK e.1 = true) : Dk 2 (optD (only T could)) := dk_opt fun e he => h e (only_iff.mp he).2.1.1
/-! ### what is asked at a key -/
def B_key : GS := (gsSeq (gsSet 10 (gCl fList (gaCons (DL.gName 5) gaNil)))
    (gsSeq (gsSet 11 (gIf (gTv (gIsN (DL.gName 9))) (gCall S_told_counts [.non] (gaCons (DL.gName 10) (gaCons (DL.gName 3) gaNil))) (gCallN 2 1 S_told_counts (fun ds es => ds ++ es) (gaCons (DL.gName 10) (gaCons (DL.gName 3) gaNil)) (gaCons (DL.gName 9) gaNil))))
    (gsSeq (gsSet 12 (gCall S_law_told_of [] (gaCons (DL.gName 5) (gaCons (DL.gName 3) (gaCons (DL.gName 9) gaNil)))))
    (gsSeq (gsIf (gTOr (gTv (gBin fNe (DL.gName 11) (gCl fTuple (gaCons (gCall S_law_counted [] (gaCons (DL.gName 12) gaNil)) gaNil)))) (gTv (gBin fNe (DL.gName 10) (DL.gName 5)))) (gsRet (gDat (.bl false))) gsNil)
    (gsSeq (gsFor (giSeq (DL.gName 11)) (tgTup 2 (tgCons (tgName 8) (tgCons (tgName 13) tgNil))) (gsIf (gTOr (gTNot (gTv (gCall S_law_is_entry [] (gaCons (DL.gName 8) gaNil)))) (gTNot (gTv (gCall S_law_is_whole [] (gaCons (DL.gName 13) gaNil))))) (gsRet (gDat (.bl false))) gsNil))
    (gsSeq (gsSet 14 (gLc (giRange1 (gaCons (gCl fLen (gaCons (DL.gName 11) gaNil)) gaNil)) (tgName 18) gYes (gBin fIx (DL.gName 11) (gBin (fI fun i j => i - j) (gBin (fI fun i j => i - j) (gCl fLen (gaCons (DL.gName 11) gaNil)) (gDat (.int 1))) (DL.gName 18))) [18]))
    (gsFor (giRange1 (gaCons (gDat (.int 4)) gaNil)) (tgName 15) (gsSeq (gsSet 16 (gCall S_law_only_in_all_ways [] (gaCons (DL.gName 12) (gaCons (DL.gName 15) gaNil))))
    (gsIf (gTOr (gTv (gBin fNe (gCall S_sure_entry [] (gaCons (DL.gName 11) (gaCons (DL.gName 15) gaNil))) (DL.gName 16))) (gTv (gBin fNe (gCall S_sure_entry [] (gaCons (DL.gName 14) (gaCons (DL.gName 15) gaNil))) (DL.gName 16)))) (gsRet (gDat (.bl false))) gsNil)))))))))
theorem ev_told {s : Stt} {g1 g2 : GX} {cs : List (List E)} {name : Str} (h : EvA (gaCons g1 (gaCons g2 gaNil)) s [.dat (copsD cs), .dat (.str name)]) (ok : OkC cs) (on : strK name = true) : Ev (gCall S_told_counts [.non] (gaCons g1 (gaCons g2 gaNil))) s (.dat (cntD (counted (told cs name none)))) :=
  .call h rfl fun Φ q => ⟨cs, name, none, rfl, ok, on, q⟩
theorem fI_int (g : Int → Int → Int) (i j : Int) : fI g (.int i) (.int j) = some (.dat (.int (g i j))) := rfl
theorem rev_at (C : List (E × Int)) (i : Nat) (h : i < C.length) : fIx (cntD C) (.int ((C.length : Int) - 1 - (0 + (i : Nat)))) = some (.dat (pD ((C.reverse)[i]?.getD (("", [], 0), 0)))) := by
  have e : ((C.length : Int) - 1 - (0 + (i : Nat))) = ((C.length - 1 - i : Nat) : Int) := by omega
  rw [e]
  have h1 : C.length - 1 - i < C.length := by omega
  have h2 : C.reverse[i]? = some C[C.length - 1 - i] := by rw [List.getElem?_reverse h, List.getElem?_eq_getElem h1]
  simp [fIx, cntD, wat, atI, ixN, h2, h1]
theorem range_get {α β : Type} (f : α → β) (d : α) (l : List α) : ((List.range l.length).map fun i => f (l[i]?.getD d)) = l.map f := by
  apply List.ext_getElem?
  intro i
  rw [List.getElem?_map, List.getElem?_map]
  by_cases h : i < l.length
  · rw [List.getElem?_range h]
    show some (f (l[i]?.getD d)) = _
    rw [List.getElem?_eq_getElem h]
    rfl
  · rw [List.getElem?_eq_none (by rw [List.length_range]; omega), List.getElem?_eq_none (by omega)]
    rfl
theorem key_body {name : Str} {cs : List (List E)} {key : Option (List Int)} {x2 x4 x6 x7 x8 x10 x11 x12 x13 x14 x15 x16 x17 x18 : Option En} {n : Nat} {De : EndsD} (ok : OkC cs) (on : strK name = true)
    (q : ∀ x8 x9 x10 x11 x12 x13 x14 x15 x16, De.nx (lS name cs x2 x4 x6 x7 x8 x9 x10 x11 x12 x13 x14 x15 x16 x17 x18 n)) :
    B_key (lS name cs x2 x4 x6 x7 x8 (some (.val (keyD key))) x10 x11 x12 x13 x14 x15 x16 x17 x18 n) De := by
  have hT := told_ok (name := name) (key := key) ok
  have hTl := told_len ok name key
  have hT1 : ∀ e ∈ told cs name key, strK e.1 = true := fun e he => (hT e he).1
  have hC : ∀ p ∈ counted (told cs name key), strK p.1.1 = true := fun p hp => hT1 _ (mem_counted hp)
  have hCl := counted_len (told cs name key)
  refine gs_seq (gs_set (.cl (.one (.name rfl)) rfl (f := fList) rfl) rfl ?_)
  dsimp only
  refine gs_seq (gs_set (w := .dat (cntD (counted (told cs name key)))) ?_ rfl ?_)
  · cases key with
    | none => exact .ifT (.v (.isN (.name rfl) rfl) rfl) (ev_told (.cons (.name rfl) (.one (.name rfl))) ok on)
    | some k => exact .ifF (.v (.isN (.name rfl) rfl) rfl) (.callN (.cons (.name rfl) (.one (.name rfl))) (.one (.name rfl)) rfl rfl rfl rfl fun Φ q => ⟨cs, name, some k, rfl, ok, on, q⟩)
  dsimp only
  refine gs_seq (gs_set (w := .dat (.lst ((told cs name key).map eD))) (.call (.cons (.name rfl) (.cons (.name rfl) (.one (.name rfl)))) rfl fun Φ q => ⟨cs, name, key, rfl, ok, on, q⟩) rfl ?_)
  dsimp only
  refine gs_seq (gs_ifF (.of (.or (.v (.bin (w2 := .dat (cntD (counted (told cs name key)))) (.name rfl) (.cl (.one (.call (d := .lst ((counted (told cs name key)).map pD)) (.one (.name rfl)) rfl fun Φ q => ⟨told cs name key, rfl, by omega, hT1, q⟩)) rfl (f := fTuple) rfl) rfl rfl (ne_self (dk_cnt hC) (by decide))) rfl)
    fun _ => .v (.bin (.name rfl) (.name rfl) rfl rfl (ne_self (dk_cops ok) (by decide))) rfl) rfl) (gs_nil ?_))
  dsimp only
  refine gs_seq (gs_forL (L := counted (told cs name key)) (dOf := pD) (fun pre s => ∃ x8 x13, s = lS name cs x2 x4 x6 x7 x8 (some (.val (keyD key))) (some (.val (copsD cs))) (some (.val (cntD (counted (told cs name key))))) (some (.val (.lst ((told cs name key).map eD)))) x13 x14 x15 x16 x17 x18 n)
    (.seq (.name rfl) rfl rfl) rfl ⟨_, _, rfl⟩ ?_ ?_)
  · rintro pre p post s De' e ⟨x8, x13, rfl⟩ _ _ hnx _
    have hp : p ∈ counted (told cs name key) := by rw [e]; simp
    have hp1 := hT _ (mem_counted hp)
    refine ⟨_, rfl, gs_ifF (.of (.or (.not (.v (.call (d := .bl true) (.one (.name rfl)) rfl fun Φ q => ⟨p.1, rfl, hp1.1, by omega, q⟩) rfl)) fun _ => .not (.v (ev_whole (.name rfl)) rfl)) rfl) (gs_nil (hnx _ ⟨_, _, rfl⟩))⟩
  · rintro s ⟨x8, x13, rfl⟩
    dsimp only
    have hlen : (((counted (told cs name key)).map pD).length : Int) = ((counted (told cs name key)).length : Nat) := by rw [List.length_map]
    have el : ∀ (s : Stt), s.r[11]? = some (some (.val (cntD (counted (told cs name key))))) → Ev (gCl fLen (gaCons (DL.gName 11) gaNil)) s (.dat (.int ((counted (told cs name key)).length : Nat))) := fun s hs => by
      rw [← hlen]
      exact .cl (.one (.name hs)) rfl rfl
    refine gs_seq (gs_set (w := .new ((counted (told cs name key)).reverse.map pD)) ?_ rfl ?_)
    · have := Ev.lcA (s := lS name cs x2 x4 x6 x7 x8 (some (.val (keyD key))) (some (.val (copsD cs))) (some (.val (cntD (counted (told cs name key))))) (some (.val (.lst ((told cs name key).map eD)))) x13 x14 x15 x16 x17 x18 n)
        (gi := giRange1 (gaCons (gCl fLen (gaCons (DL.gName 11) gaNil)) gaNil)) (f := tgName 18) (ge := gBin fIx (DL.gName 11) (gBin (fI fun i j => i - j) (gBin (fI fun i j => i - j) (gCl fLen (gaCons (DL.gName 11) gaNil)) (gDat (.int 1))) (DL.gName 18))) (vs := [18])
        (xs := List.range (counted (told cs name key)).reverse.length) (dOf := fun i => .int (0 + (i : Nat))) (g := fun i => pD (((counted (told cs name key)).reverse)[i]?.getD (("", [], 0), 0)))
        (.range1 (.one (el _ rfl)) rfl (by omega)) (by rw [List.length_reverse]; rfl) (by simp only [List.length_range, List.length_reverse]; omega) fun i hi => by
          have hi' : i < (counted (told cs name key)).length := by simpa using hi
          refine ⟨_, rfl, rfl, _, .bin (.name rfl) (.bin (.bin (el _ rfl) .dt rfl rfl (fI_int _ _ _)) (.name rfl) rfl rfl (fI_int _ _ _)) rfl rfl (rev_at _ _ hi'), rfl⟩
      rw [range_get pD (("", [], 0), 0) (counted (told cs name key)).reverse] at this
      exact this
    dsimp only
    refine gs_forL (L := List.range 4) (dOf := fun i => .int (0 + (i : Nat))) (fun pre s => ∃ x15 x16, s = lS name cs x2 x4 x6 x7 x8 (some (.val (keyD key))) (some (.val (copsD cs))) (some (.val (cntD (counted (told cs name key))))) (some (.val (.lst ((told cs name key).map eD)))) x13 (some (.val (.lst ((counted (told cs name key)).reverse.map pD)))) x15 x16 x17 x18 n)
      (.range1 (.one .dt) rfl (by omega)) rfl ⟨_, _, rfl⟩ ?_ ?_
    · rintro pre i post s De' e ⟨x15, x16, rfl⟩ _ _ hnx _
      have h0 : (0 : Int) ≤ 0 + (i : Nat) := by omega
      refine ⟨_, rfl, gs_seq (gs_set (.call (d := optD (only (told cs name key) (0 + (i : Nat)))) (.cons (.name rfl) (.one (.name rfl))) rfl fun Φ q => ⟨_, _, rfl, hTl, hT1, q⟩) rfl ?_)⟩
      dsimp only
      have s1 := sure_only (T := told cs name key) (L := counted (told cs name key)) (could := 0 + (i : Nat)) (List.Perm.refl _) h0
      have s2 := sure_only (T := told cs name key) (L := (counted (told cs name key)).reverse) (could := 0 + (i : Nat)) (List.reverse_perm _) h0
      have c1 := Ev.call (s := (lS name cs x2 x4 x6 x7 x8 (some (.val (keyD key))) (some (.val (copsD cs))) (some (.val (cntD (counted (told cs name key))))) (some (.val (.lst ((told cs name key).map eD)))) x13 (some (.val (.lst ((counted (told cs name key)).reverse.map pD)))) (some (.val (.int (0 + (i : Nat))))) (some (.val (optD (only (told cs name key) (0 + (i : Nat)))))) x17 x18 n)) (G := S_sure_entry) (dd := []) (d := optD (sure (counted (told cs name key)) (0 + (i : Nat)))) (.cons (.name (i := 11) rfl) (.one (.name (i := 15) rfl))) rfl fun Φ q => ⟨true, _, _, rfl, by omega, q⟩
      have c2 := Ev.call (s := (lS name cs x2 x4 x6 x7 x8 (some (.val (keyD key))) (some (.val (copsD cs))) (some (.val (cntD (counted (told cs name key))))) (some (.val (.lst ((told cs name key).map eD)))) x13 (some (.val (.lst ((counted (told cs name key)).reverse.map pD)))) (some (.val (.int (0 + (i : Nat))))) (some (.val (optD (only (told cs name key) (0 + (i : Nat)))))) x17 x18 n)) (G := S_sure_entry) (dd := []) (d := optD (sure (counted (told cs name key)).reverse (0 + (i : Nat)))) (.cons (.name (i := 14) rfl) (.one (.name (i := 15) rfl))) rfl fun Φ q => ⟨false, _, _, rfl, by rw [List.length_reverse]; omega, q⟩
      rw [s1] at c1
      rw [s2] at c2
      have hs : fNe (optD (only (told cs name key) (0 + (i : Nat)))) (optD (only (told cs name key) (0 + (i : Nat)))) = some (.dat (.bl false)) := ne_self (ok_only hT1) (by decide)
      exact gs_ifF (.of (.or (.v (.bin c1 (.name rfl) rfl rfl hs) rfl) fun _ => .v (.bin c2 (.name rfl) rfl rfl hs) rfl) rfl) (gs_nil (hnx _ ⟨_, _, rfl⟩))
    · rintro s ⟨x15, x16, rfl⟩
      exact q ..
/-! ### the law -/
def B_fin : GS := (gsSeq (gsSet 17 (gCall S_law_counted [] (gaCons (gCall S_law_told_of [] (gaCons (DL.gName 5) (gaCons (DL.gName 3) (gaCons (gDat .non) gaNil)))) gaNil)))
    (gsRet (gAnd (gBin fEq (gCall S_told_counts [.non] (gaCons (DL.gName 5) (gaCons (DL.gName 3) gaNil))) (gCl fTuple (gaCons (DL.gName 17) gaNil))) (gAnd (gBin fEq (gCall S_told_counts [.non] (gaCons (gLst gaNil) (gaCons (DL.gName 3) gaNil))) (DL.gTup gaNil)) (gIsN (gCall S_sure_entry [] (gaCons (DL.gTup gaNil) (gaCons (gDat (.int 0)) gaNil))))))))
def B_walk : GS := (gsSeq (gsFor (giSeq (DL.gName 6)) (tgName 9) B_key) B_fin)
def B_keys : GS := (gsSeq (gsOwn 6 (gLst (gaCons (gDat .non) gaNil)))
    (gsSeq (gsIf (gTv (DL.gName 4)) (gsSeq (gsOwn 6 (gLst gaNil))
    (gsSeq (gsFor (giSeq (DL.gName 5)) (tgName 7) (gsFor (giSeq (DL.gName 7)) (tgName 8) (gsIf (gTAnd (gTv (gBin fEq (gBin fIx (DL.gName 8) (gDat (.int 0))) (DL.gName 3))) (gTv (gBin fNotIn (gBin fIx (DL.gName 8) (gDat (.int 1))) (DL.gName 6)))) (gsApp 6 (gBin fIx (DL.gName 8) (gDat (.int 1)))) gsNil)))
    (gsApp 6 (gCl fTuple (gaCons (gLc (giRange1 (gaCons (DL.gName 2) gaNil)) (tgName 18) gYes (gDat (.int 9)) [18]) gaNil))))) gsNil)
    B_walk))
def B_cut : GS := (gsSeq (gsIf (gTAnd (gTv (gBin fEq (gCallB 1 SDraw (gaCons (gDat (.int 3)) gaNil)) (gDat (.int 0)))) (gTv (gBin (fB fun i j => decide (j < i)) (gCl fLen (gaCons (DL.gName 5) gaNil)) (gDat (.int 0))))) (gsSet 5 (gBin fAdd (gSl (DL.gName 5) goNone (goSome (gDat (.int 3)))) (gLc (giRange1 (gaCons (gDat (.int 3)) gaNil)) (tgName 18) gYes (gBin fIx (DL.gName 5) (gUn fNeg (gDat (.int 1)))) [18]))) gsNil) B_keys)
theorem last_ok : ∀ (name : Str) (cs : List (List E)) (x2 x4 x6 x7 x8 x9 x10 x11 x12 x13 x14 x15 x16 x17 x18 : Option En) (n : Nat), OkC cs → strK name = true → 
  B_fin (lS name cs x2 x4 x6 x7 x8 x9 x10 x11 x12 x13 x14 x15 x16 x17 x18 n) (retD fun d => d = .bl true) := by
  intro name cs x2 x4 x6 x7 x8 x9 x10 x11 x12 x13 x14 x15 x16 x17 x18 n ok on
  have hT1 : ∀ e ∈ told cs name none, strK e.1 = true := fun e he => (told_ok ok e he).1
  have hTl := told_len ok name none
  have hC : ∀ p ∈ counted (told cs name none), strK p.1.1 = true := fun p hp => hT1 _ (mem_counted hp)
  refine gs_seq (gs_set (.call (d := .lst ((counted (told cs name none)).map pD)) (.one (.call (d := .lst ((told cs name none).map eD)) (.cons (.name rfl) (.cons (.name rfl) (.one .dt))) rfl fun Φ q => ⟨cs, name, none, rfl, ok, on, q⟩)) rfl fun Φ q => ⟨told cs name none, rfl, by omega, hT1, q⟩) rfl ?_)
  dsimp only
  refine gs_ret (w := .dat (.bl true)) (.and (b2 := true) (.bin (ev_told (.cons (.name rfl) (.one (.name rfl))) ok on) (.cl (.one (.name rfl)) rfl (f := fTuple) rfl) rfl rfl (eq_self (dk_cnt hC) (by decide))) rfl fun _ => ⟨?_, rfl, rfl⟩) ⟨_, _, rfl, rfl⟩
  refine .and (b1 := true) (b2 := true) (.bin (w1 := .dat (.tup [])) (w2 := .dat (.tup [])) ?_ (.tup .nil rfl (by decide)) rfl rfl (by rfl)) rfl fun _ => ⟨.isN (d := .non) (w1 := .dat .non) (.call (.cons (.tup .nil rfl (by decide)) (.one .dt)) rfl fun Φ q => ⟨true, [], 0, rfl, by decide, q⟩) rfl, rfl, rfl⟩
  have e0 : cntD (counted (told [] name none)) = .tup [] := by simp [told, counted, sortE, dd, cntD]
  exact .call (.cons (.lst .nil rfl (by decide)) (.one (.name rfl))) rfl fun Φ q => ⟨[], name, none, rfl, ⟨by decide, fun c hc => (List.not_mem_nil hc).elim⟩, on, by rw [e0]; exact q⟩
theorem walk_ok : ∀ (name : Str) (cs : List (List E)) (KS : List (Option (List Int))) (x2 x4 x7 x8 x9 x10 x11 x12 x13 x14 x15 x16 x17 x18 : Option En) (n : Nat), OkC cs → strK name = true → 
    (gsSeq (gsFor (giSeq (DL.gName 6)) (tgName 9) B_key) B_fin) (lS name cs x2 x4 (some (.own (KS.map keyD))) x7 x8 x9 x10 x11 x12 x13 x14 x15 x16 x17 x18 n) (retD fun d => d = .bl true) := by
  intro name cs KS x2 x4 x7 x8 x9 x10 x11 x12 x13 x14 x15 x16 x17 x18 n ok on
  refine gs_seq (for_run (Ev.nameO rfl _ ⟨_, _, _, rfl, rfl, ?_⟩))
  refine gs_loop (L := KS) (dOf := keyD) (fun pre s => ∃ x8 x9 x10 x11 x12 x13 x14 x15 x16, s = lS name cs x2 x4 (some (.val (.lst (KS.map keyD)))) x7 x8 x9 x10 x11 x12 x13 x14 x15 x16 x17 x18 n) ?_ ?_ KS [] _ rfl ⟨_, _, _, _, _, _, _, _, _, rfl⟩
  · rintro pre key post s De' e ⟨x8, x9, x10, x11, x12, x13, x14, x15, x16, rfl⟩ _ _ hnx _
    exact ⟨_, rfl, key_body ok on fun x8 x9 x10 x11 x12 x13 x14 x15 x16 => hnx _ ⟨x8, x9, x10, x11, x12, x13, x14, x15, x16, rfl⟩⟩
  · rintro s ⟨x8, x9, x10, x11, x12, x13, x14, x15, x16, rfl⟩
    dsimp only
    exact last_ok name cs _ _ _ _ _ _ _ _ _ _ _ _ _ _ _ _ ok on
theorem dk_k (k : List Int) : Dk 1 (kD k) := ⟨by simp [kD, pureD, pureA_ints], by simp [kD, toP, toPs_ints, PyData.canLay0, canLay_ints], Nat.le_of_eq (depth_k k)⟩
theorem keys_ok (name : Str) (cs : List (List E)) (wide : Nat) (tw : Bool) (x18 : Option En) (n : Nat) (ok : OkC cs) (on : strK name = true) (hw : wide ≤ 2) :
    B_keys (lS name cs (some (.val (.int (wide : Nat)))) (some (.val (.bl tw))) none none none none none none none none none none none none x18 n) (retD fun d => d = .bl true) := by
  refine gs_seq (gs_own (.lst (.one .dt) rfl (by decide)) ?_)
  dsimp only
  refine gs_seq (gs_if (.v (.name rfl) rfl) (fun htw => ?_) fun htw => ?_)
  · refine gs_seq (gs_own (.lst .nil rfl (by decide)) ?_)
    dsimp only
    refine gs_seq (gs_forL (L := cs) (dOf := copD) (fun pre s => ∃ (ks : List (List Int)) (x7 x8 : Option En), ks.length ≤ 3 * pre.length ∧ s = lS name cs (some (.val (.int (wide : Nat)))) (some (.val (.bl tw))) (some (.own (ks.map kD))) x7 x8 none none none none none none none none none x18 n) (.seq (.name rfl) rfl rfl) rfl ⟨[], _, _, Nat.le_refl _, rfl⟩ ?_ ?_)
    · rintro pre c post s De' e ⟨ks0, x7, x8, hk0, rfl⟩ _ _ hnx _
      have hc := ok.each c (by rw [e]; simp)
      have hpre : pre.length ≤ 5 := by
        have h1 := congrArg List.length e
        have h2 := ok.len
        rw [List.length_append, List.length_cons] at h1
        omega
      refine ⟨_, rfl, ?_⟩
      refine gs_forL (L := c) (dOf := eD) (fun p s => ∃ (ks : List (List Int)) (x8 : Option En), ks.length ≤ 3 * pre.length + p.length ∧ s = lS name cs (some (.val (.int (wide : Nat)))) (some (.val (.bl tw))) (some (.own (ks.map kD))) (some (.val (copD c))) x8 none none none none none none none none none x18 n) (.seq (.name rfl) rfl rfl) rfl ⟨ks0, _, hk0, rfl⟩ ?_ ?_
      · rintro p e1 post2 s De2 e2 ⟨ks, x8, hk, rfl⟩ _ _ hnx2 _
        have he := (hc.2 e1 (by rw [e2]; simp)).1
        refine ⟨_, rfl, gs_if (.and (.v (.bin (.bin (.name rfl) .dt rfl rfl (at_e0 e1)) (.name rfl) rfl rfl (feq (okD_str he) (okD_str on))) rfl) fun _ => .v (.bin (.bin (.name rfl) .dt rfl rfl (at_e1 e1)) (.nameO rfl) rfl rfl (if_pos ⟨okD_k _, (Dk.lst fun k _ => dk_k k).ok (n := 2) (by decide)⟩)) rfl) (fun _ => ?_) fun _ => ?_⟩
        · refine gs_app rfl (.bin (.name rfl) .dt rfl rfl (at_e1 e1)) rfl ?_ (hnx2 _ ⟨ks ++ [e1.2.1], _, ?_, by rw [List.map_append]; rfl⟩)
          · rw [List.length_map]
            have h1 := congrArg List.length e2
            rw [List.length_append, List.length_cons] at h1
            omega
          · rw [List.length_append, List.length_append]
            simp only [List.length_cons, List.length_nil]
            omega
        · exact gs_nil (hnx2 _ ⟨ks, _, by rw [List.length_append]; omega, rfl⟩)
      · rintro s ⟨ks, x8, hk, rfl⟩
        exact hnx _ ⟨ks, _, _, by rw [List.length_append]; simp only [List.length_cons, List.length_nil]; omega, rfl⟩
    · rintro s ⟨ks, x7, x8, hk, rfl⟩
      dsimp only
      have hl := ok.len
      refine gs_app rfl (.cl (w := .dat (kD ((List.range wide).map fun _ => 9))) (.one (.lcA (xs := List.range wide) (dOf := fun i => .int (0 + (i : Nat))) (g := fun _ => .int 9) (.range1 (.one (.name rfl)) rfl (by omega)) rfl (by rw [List.length_range]; omega) fun i hi => ⟨_, rfl, rfl, _, .dt, rfl⟩)) rfl (f := fTuple) ?_) rfl (by rw [List.length_map]; omega) ?_
      · show some (W.dat (.tup _)) = _
        unfold kD
        rw [List.map_map]
        rfl
      · have := walk_ok name cs ((ks ++ [(List.range wide).map fun _ => 9]).map some) (some (.val (.int (wide : Nat)))) (some (.val (.bl tw))) x7 x8 none none none none none none none none none x18 n ok on
        rw [List.map_map, List.map_append] at this
        exact this
  · exact gs_nil (walk_ok name cs [none] _ _ _ _ _ _ _ _ _ _ _ _ _ _ _ ok on)
theorem cut_ok (name : Str) (cs : List (List E)) (wide : Nat) (tw : Bool) (x18 : Option En) (n : Nat) (ok : OkC cs) (on : strK name = true) (hw : wide ≤ 2) (hn : n < 900000) :
    B_cut (lS name cs (some (.val (.int (wide : Nat)))) (some (.val (.bl tw))) none none none none none none none none none none none none x18 n) (retD fun d => d = .bl true) := by
  refine gs_seq (if_run (tand_run (tv_run (bin_run (drw rfl (by decide) (by decide) (by show n < 1000000; omega) fun d h0 h1 => ⟨_, _, _, rfl, rfl, feq (okD_int _) (okD_int _), _, rfl, ?_⟩)))))
  rw [eqD_int]
  by_cases c : d = 0
  · rw [decide_eq_true c, if_pos rfl]
    have hcs : cs = [] ∨ ∃ pre last, cs = pre ++ [last] := by
      rcases List.eq_nil_or_concat cs with h | ⟨pre, last, h⟩
      · exact .inl h
      · exact .inr ⟨pre, last, by rw [h, List.concat_eq_append]⟩
    rcases hcs with rfl | ⟨pre, last, rfl⟩
    · refine EvB.v (b := false) (.bin (w1 := .dat (.int 0)) (.cl (.one (.name rfl)) rfl (f := fLen) rfl) .dt rfl rfl rfl) rfl _ ?_
      rw [if_neg (by decide)]
      exact gs_nil (keys_ok name [] wide tw _ _ ok on hw)
    · refine EvB.v (b := true) (.bin (w1 := .dat (.int (((pre ++ [last]).map copD).length : Nat))) (w := .dat (.bl true)) (.cl (.one (.name rfl)) rfl (f := fLen) rfl) .dt rfl rfl ?_) rfl _ ?_
      · show some (W.dat (.bl (decide ((0 : Int) < (((pre ++ [last]).map copD).length : Nat))))) = _
        rw [decide_eq_true (by simp)]
      rw [if_pos rfl]
      have hl := ok.len
      rw [List.length_append] at hl
      simp only [List.length_cons, List.length_nil] at hl
      have hix : fIx (.lst ((pre ++ [last]).map copD)) (.int (-1)) = some (.dat (copD last)) := by
        have e : (-1 + ((pre.length : Int) + 1)).toNat = pre.length := by omega
        simp only [fIx, wat, atI, ixN]
        simp
        rw [if_pos (by omega)]
        simp [e]
      refine gs_set (w := .new (((pre ++ [last]).take 3 ++ (List.range 3).map fun _ => last).map copD)) (.bin (w1 := .new (((pre ++ [last]).map copD).take 3)) (.sl (.name rfl) .none (.some .dt rfl) rfl ?_) (.lcA (xs := List.range 3) (dOf := fun i => .int (0 + (i : Nat))) (g := fun _ => copD last) (.range1 (.one .dt) rfl (by omega)) rfl (by decide) fun i hi =>
        ⟨_, rfl, rfl, _, .bin (.name rfl) (.un .dt rfl rfl) rfl rfl hix, rfl⟩) rfl rfl ((add_lst ?_).trans ?_)) rfl ?_
      · show some (W.new (cutD _ none (some ((3 : Nat) : Int)))) = _
        rw [cutD_to]
      · rw [List.length_take, List.length_map, List.length_map, List.length_range]
        omega
      · rw [List.map_append (l₁ := (pre ++ [last]).take 3), List.map_take, List.map_map]
        rfl
      · refine keys_ok name ((pre ++ [last]).take 3 ++ (List.range 3).map fun _ => last) wide tw _ _ ⟨?_, fun c hc => ?_⟩ on hw
        · rw [List.length_append, List.length_take, List.length_map, List.length_range]
          omega
        · rcases List.mem_append.mp hc with hc | hc
          · exact ok.each c (List.mem_of_mem_take hc)
          · obtain ⟨i, _, rfl⟩ := List.mem_map.mp hc
            exact ok.each _ (by simp)
  · rw [decide_eq_false c, if_neg (by decide), if_neg (by decide)]
    exact gs_nil (keys_ok name cs wide tw _ _ ok on hw)
theorem hB_law : B_law ⟨none :: some .bag :: List.replicate 17 none, 0⟩ (retD fun d => d = .bl true) := by
  show (gsSeq (gsSet 2 (gCallB 1 SDraw (gaCons (gDat (.int 3)) gaNil)))
    (gsSeq (gsSet 3 (gBin fIx (gLst (gaCons (gDat (.str ("b" : Str))) (gaCons (gDat (.str ("a1" : Str))) (gaCons (gDat (.str ("z" : Str))) gaNil)))) (gCallB 1 SDraw (gaCons (gDat (.int 3)) gaNil))))
    (gsSeq (gsSet 4 (gAnd (gBin (fB fun i j => decide (j < i)) (DL.gName 2) (gDat (.int 0))) (gBin fEq (gCallB 1 SDraw (gaCons (gDat (.int 2)) gaNil)) (gDat (.int 0)))))
    (gsSeq (gsSet 5 (gLc (giRange1 (gaCons (gCallB 1 SDraw (gaCons (gDat (.int 7)) gaNil)) gaNil)) (tgName 18) gYes (gCallB 1 S_law_marked_copy (gaCons (DL.gName 3) (gaCons (DL.gName 2) (gaCons (DL.gName 4) gaNil)))) [18])) B_cut)))) _ _
  refine gs_seq (set_run (drw rfl (by decide) (by decide) (by decide) fun wi h0 h1 => ⟨_, _, rfl, ?_⟩))
  dsimp only
  obtain ⟨wide, rfl⟩ := Int.eq_ofNat_of_zero_le h0
  refine gs_seq (set_run (binR (.lst (.cons .dt (.cons .dt (.one .dt))) rfl (Nat.le_of_ble_eq_true rfl)) (drw rfl (by decide) (by decide) (by show 1 < 1000000; decide) fun ni h2 h3 => ?_)))
  have hname : ∃ name : Str, strK name = true ∧ fIx (.lst [.str ("b" : Str), .str ("a1" : Str), .str ("z" : Str)]) (.int ni) = some (.dat (.str name)) := by
    have : ni = 0 ∨ ni = 1 ∨ ni = 2 := by omega
    rcases this with rfl | rfl | rfl
    · exact ⟨_, by decide +kernel, rfl⟩
    · exact ⟨_, by decide +kernel, rfl⟩
    · exact ⟨_, by decide +kernel, rfl⟩
  obtain ⟨name, on, hn⟩ := hname
  refine ⟨_, _, _, rfl, rfl, hn, _, _, rfl, ?_⟩
  dsimp only
  have hw : wide ≤ 2 := by omega
  have rest : ∀ (tw : Bool) (n : Nat), (tw = true → 0 < wide) → n ≤ 3 → (gsSeq (gsSet 5 (gLc (giRange1 (gaCons (gCallB 1 SDraw (gaCons (gDat (.int 7)) gaNil)) gaNil)) (tgName 18) gYes (gCallB 1 S_law_marked_copy (gaCons (DL.gName 3) (gaCons (DL.gName 2) (gaCons (DL.gName 4) gaNil)))) [18])) B_cut) (cS name wide tw none n) (retD fun d => d = .bl true) := by
    intro tw n htw hn
    refine gs_seq (set_run (lc_run (range_run (ga_run (drw rfl (by decide) (by decide) (by show n < 1000000; omega) fun k h4 h5 => ⟨_, rfl, by omega, ?_⟩)))))
    have hk : (rangeD 0 k.toNat).length = k.toNat := by simp [rangeD]
    refine ⟨by rw [hk]; omega, cop_loop (name := name) (wide := wide) (tw := tw) on hw htw (rangeD 0 k.toNat) [] none (n + 1) (by rw [hk]; omega) (fun c hc => (List.not_mem_nil hc).elim) fun cs x18 n' e1 e2 e3 => ?_⟩
    rw [hk] at e1 e3
    refine ⟨_, _, rfl, ?_⟩
    exact cut_ok name cs wide tw none n' ⟨by rw [e1]; simp only [List.length_nil]; omega, e2⟩ on hw (by omega)
  refine gs_seq (set_run (and_run (Ev.bin (.name rfl) .dt rfl rfl rfl _ ⟨decide ((0 : Int) < (wide : Nat)), rfl, ?_⟩)))
  by_cases c : (0 : Int) < (wide : Nat)
  · rw [decide_eq_true c, if_pos rfl]
    refine bin_run (drw rfl (by decide) (by decide) (by show 2 < 1000000; decide) fun d h4 h5 => ⟨_, _, _, rfl, rfl, feq (okD_int _) (okD_int _), _, _, rfl, ?_⟩)
    exact rest _ _ (fun _ => by omega) (by show 0 + 1 + 1 + 1 ≤ 3; decide)
  · rw [decide_eq_false c, if_neg (by decide)]
    exact ⟨_, _, rfl, rest false _ (fun z => by cases z) (by show 0 + 1 + 1 ≤ 3; decide)⟩
end K23
/-! A law's body behind its bag. -/
namespace DL
open PySem PySem.Spec PyProof.Rows L2 Ax
theorem top_run {K : Bd} {t : TS} {g : GS} (ss : SS K t g) {n : Nat} {b c : Addr} {ms : List Int} {H : Hp} {σ : L2.St} {Q : VK} (hB : BagAt H b c ms 0) (e1 : σ[1]? = some (some (.ref b))) (el : σ.length = n + 2)
    (hg : g ⟨none :: some .bag :: List.replicate n none, 0⟩ (retD fun d => d = .bl true)) (hQ : ∀ H', Q (.bl true) H') : t { nx := fun _ H' => Q .non H', rt := Q } σ H := by
  have at0 : ∀ (i : Nat) (e : En), (none :: some En.bag :: List.replicate n none)[i]? = some (some e) → i = 1 ∧ e = .bag := by
    intro i e h
    match i, h with
    | 0, h => cases h
    | 1, h => exact ⟨rfl, (Option.some.inj (Option.some.inj h)).symm⟩
    | i + 2, h =>
      have h' : (List.replicate n (none : Option En))[i]? = some (some e) := h
      rw [List.getElem?_replicate] at h'
      split at h' <;> cases h'
  let s0 : Stt := ⟨none :: some .bag :: List.replicate n none, 0⟩
  let B : Hp := fun a => if a = b ∨ a = c then none else H a
  have noOwn : ∀ (i : Nat) (e : En), s0.r[i]? = some (some e) → e.isOwn = true → False := by
    intro i e h o
    obtain ⟨_, rfl⟩ := at0 i e h
    cases o
  have b0 : B b = none := if_pos (.inl rfl)
  have c0 : B c = none := if_pos (.inr rfl)
  have xB : Ext B H := by
    intro a o h
    by_cases z : a = b ∨ a = c
    · have : B a = none := if_pos z
      rw [this] at h
      cases h
    · have : B a = H a := if_neg z
      rw [← this]
      exact h
  have R0 : Rep ⟨K, b, c, ms, true⟩ ⟨B, H, σ, s0⟩ := by
    refine ⟨xB, ?_, fun i e h => ?_, fun i j ei ej l h1 o1 _ _ _ _ => (noOwn i ei h1 o1).elim, fun _ => ⟨hB, b0, c0⟩⟩
    · show σ.length = (none :: some En.bag :: List.replicate n none).length
      rw [el]
      simp
    · obtain ⟨rfl, rfl⟩ := at0 i e h
      exact ⟨rfl, e1⟩
  have n0 : ∀ a, ¬ Own ⟨B, H, σ, s0⟩ a := by
    rintro a ⟨i, e, h1, o1, _⟩
    exact noOwn i e h1 o1
  refine ss ⟨K, b, c, ms, true⟩ rfl ⟨B, H, σ, s0⟩ _ (retD fun d => d = .bl true) R0 hg ⟨fun c' R' G' p => ?_, fun c' v w R' G' D' p => ?_, fun c' R' G' p => p.elim, fun c' R' G' p => p.elim⟩
  · cases p
  · obtain ⟨d, s', e, rfl⟩ := p
    obtain ⟨B', _, _, b3, _⟩ := outB R' G' n0 D' e
    cases b3
    exact hQ _
end DL
set_option maxHeartbeats 1000000
namespace K23
open PySem PySem.Spec PyProof.Rows L2 Ax DL
section
variable {P : Program} {w : World} {K : PySem.W.Frag} {mg : Str → Option Value} {base : Heap}
theorem fn_told_counts (hB : ∀ ds Φ, S_told_counts ds Φ → B_told_counts ⟨startD n_told_counts ds, 0⟩ (retD Φ)) (hl : ∀ ds Φ, S_told_counts ds Φ → ds.length = 3) (T : Tx w K mg) {fd : FuncData} (F : FunD K "told_counts" "told_counts" (defArgs s_told_counts) (defBody s_told_counts) (defScope s_told_counts) (d_told_counts.dvs K) [] (He.fAd K d_told_counts.at_) fd) : FnOk P w K mg base CX0 1 (He.fAd K d_told_counts.at_) fd ["copies", "name", "key"] (spP ⟨P, w, K⟩ S_told_counts) := by
  have nd := sc_told_counts.nd
  let N := n_told_counts
  let sc := defScope s_told_counts
  refine F.ok sc_told_counts (fun vs H Q E h => lenP h hl) (fun cdv A outer s H vs Q E hr h => mk_body (body_ok (K := ⟨P, w, K⟩) (g := B_told_counts) (ss_seq (ss_dct (i := 3))
    (ss_seq (ss_for (si_seq (se_name 0)) (st_name 4) (ss_for (si_seq (se_name 4)) (st_name 5) (ss_if (sb_and (sb_test (se_bin os_eq (se_bin os_ix (se_name 5) se_int) (se_name 1))) (sb_or (sb_val (se_isN (se_name 2))) (sb_test (se_bin os_eq (se_bin os_ix (se_name 5) se_int) (se_name 2))))) (ss_putK (i := 3) (se_bin os_add (se_get2 (i := 3) (se_name 5) se_int) se_int) (se_name 5)) ss_nil)))
    (ss_ret (se_cl cs_tuple (sa_cons (se_sortIt (i := 3)) sa_nil))))) hB h) (PSs.nox (pss_cons (ps_set (i := 3) nd rfl (Or.inl rfl) pe_dnewN)
    (pss_cons (ps_for PassesOwn.never rfl (pi_seq (pv 0)) (pg_name (i := 4) nd rfl (Or.inl rfl)) (pss_one (ps_for PassesOwn.never rfl (pi_seq (pv 4)) (pg_name (i := 5) nd rfl (Or.inl rfl)) (pss_one (ps_if (PW.pt (pw_and (pt_cmpR (op_eqD hr.units) (pe_ix ix_seq (pv 5) pe_int (fun _ _ => rfl)) (pv 1) (nomark _)) (pw_and1 (PW.pt (pw_or (pt_cmp (pc_isN (pv 2)) rfl) (pw_or1 (pt_cmpR (op_eqD hr.units) (pe_ix ix_seq (pv 5) pe_int (fun _ _ => rfl)) (pv 2) (nomark _)))))))) (pss_one (ps_asg (pe_op opAddA (pe_dm PySem.F.slot_dict_get PySem.F.type_dict_get (mt_getN2 hr.units) (pv 3) (pa_cons (pv 5) (pa_cons pe_int pa_nil))) pe_int) (pg_sub (pv 3) (pv 5) (set_nd hr.units)))) pss_nil)))))
    (pss_one (ps_ret (pe_callTy call_tuple_of rfl T.b_tuple (by decide +kernel) (pa_cons (pe_callB (cr_sortedIN rfl hr.units) rfl T.b_sorted (by decide +kernel) (pa_cons (pe_dm0 PySem.F.slot_dict_items PySem.F.type_dict_items mt_itemsN (pv 3)) pa_nil)) pa_nil))))))))
theorem dn_told_counts_d2 (T : Tx w K mg) : DnD P w K mg base CX0 1 "told_counts" ["copies", "name", "key"] [.non] (spP ⟨P, w, K⟩ S_told_counts) := by
  obtain ⟨fd, F⟩ := T.f_told_counts
  obtain ⟨ds, hv, hb⟩ := F.binds1 2 0 (ps := ["copies", "name", "key"]) (by intro z; cases z) (by rfl) (fun Ta kV doc pm an cdv ct us its h1 h2 => match us, its, h1, h2 with
    | [_, _], [_], _, _ => ⟨_, rfl, rfl⟩)
  exact ⟨_, fd, ds, fn_told_counts hB_told_counts hl_told_counts T F, T.g_told_counts, F.kp, hv, hb⟩
theorem dn_told_counts_k2 (T : Tx w K mg) : DnK P w K mg base CX0 1 "told_counts" ["copies", "name", "key"] 2 ["key"] (fun vs zs => vs ++ zs) (spP ⟨P, w, K⟩ S_told_counts) := by
  obtain ⟨fd, F⟩ := T.f_told_counts
  obtain ⟨its, hb⟩ := F.kbindsD 2 ["key"] (ps := ["copies", "name", "key"]) (fun us ds ws => us ++ ws) (by intro z; cases z) (fun h1 h2 h3 => h1.append h3) (fun Ta kV doc pm an cdv ct us its ws h1 h2 h3 => match us, its, ws, h1, h2, h3 with
    | [_, _], [_], [_], _, _, _ => ⟨_, rfl, rfl⟩)
  exact ⟨_, fd, _, fn_told_counts hB_told_counts hl_told_counts T F, T.g_told_counts, F.kp, hb⟩
theorem fn_sure_entry (hB : ∀ ds Φ, S_sure_entry ds Φ → B_sure_entry ⟨startD n_sure_entry ds, 0⟩ (retD Φ)) (hl : ∀ ds Φ, S_sure_entry ds Φ → ds.length = 2) (T : Tx w K mg) {fd : FuncData} (F : FunD K "sure_entry" "sure_entry" (defArgs s_sure_entry) (defBody s_sure_entry) (defScope s_sure_entry) (d_sure_entry.dvs K) [] (He.fAd K d_sure_entry.at_) fd) : FnOk P w K mg base CX0 1 (He.fAd K d_sure_entry.at_) fd ["counts", "could"] (spP ⟨P, w, K⟩ S_sure_entry) := by
  have nd := sc_sure_entry.nd
  let N := n_sure_entry
  let sc := defScope s_sure_entry
  refine F.ok sc_sure_entry (fun vs H Q E h => lenP h hl) (fun cdv A outer s H vs Q E hr h => mk_body (body_ok (K := ⟨P, w, K⟩) (g := B_sure_entry) (ss_seq (ss_own (i := 2) (se_lst sa_nil))
    (ss_seq (ss_set (i := 3) (se_cl cs_sum (sa_cons (se_lc (vs := [6, 8]) (si_seq (se_name 0)) (st_tup (n := 2) (st_cons (st_name 6) (st_cons (st_name 8) st_nil))) sb_yes (se_name 8) (by decide)) sa_nil)))
    (ss_seq (ss_for (si_enum (sa_cons (se_name 0) sa_nil)) (st_tup (n := 2) (st_cons (st_name 4) (st_cons (st_tup (n := 2) (st_cons (st_name 5) (st_cons (st_name 6) st_nil))) st_nil))) (ss_seq (ss_set (i := 7) (se_lc (vs := [9, 6, 8]) (si_enum (sa_cons (se_name 0) sa_nil)) (st_tup (n := 2) (st_cons (st_name 9) (st_cons (st_tup (n := 2) (st_cons (st_name 6) (st_cons (st_name 8) st_nil))) st_nil))) (sb_test (se_bin os_ne (se_name 9) (se_name 4))) (se_name 8) (by decide)))
    (ss_if (sb_test (se_bin (os_B fun i j => decide (j < i)) (se_bin (os_I fun i j => i - j) (se_name 3) (se_maxA (sa_cons (se_name 7) sa_nil) (sa_cons se_int sa_nil))) (se_name 1))) (ss_app (i := 2) (se_name 5)) ss_nil)))
    (ss_ret (se_if (sb_test (se_bin os_eq (se_cl cs_len (sa_cons (se_name 2) sa_nil)) se_int)) (se_bin os_ix (se_name 2) se_int) se_non))))) hB h) (PSs.nox (pss_cons (ps_set (i := 2) nd rfl (Or.inl rfl) (pe_lst pa_nil))
    (pss_cons (ps_set (i := 3) nd rfl (Or.inl rfl) (pe_callB (cr_sum rfl) rfl T.b_sum (by decide +kernel) (pa_cons (pe_lc (own := [("_", 6), ("number", 8)]) rfl nd (pi_seq (pv 0)) (blkOk_by (own := [("_", 6), ("number", 8)]) (N := N) (sc := sc) (by decide +kernel)) (fun _ _ _ _ _ => (pg_tup rfl (pgs_cons (pg_name (i := 6) nd rfl (Or.inl rfl)) (pgs_cons (pg_name (i := 8) nd rfl (Or.inl rfl)) pgs_nil)))) (fun _ _ _ _ _ => pts_nil) (fun _ _ _ _ _ => (pv 8))) pa_nil)))
    (pss_cons (ps_for PassesOwn.never rfl (pi_enumA rfl T.b_enumerate (pa_cons (pv 0) pa_nil)) (pg_tup rfl (pgs_cons (pg_name (i := 4) nd rfl (Or.inr rfl)) (pgs_cons (pg_tup rfl (pgs_cons (pg_name (i := 5) nd rfl (Or.inl rfl)) (pgs_cons (pg_name (i := 6) nd rfl (Or.inl rfl)) pgs_nil))) pgs_nil))) (pss_cons (ps_setLc (i := 7) (own := [("place", 9), ("_", 6), ("number", 8)]) rfl nd rfl rfl (sw_true rfl rfl rfl (by decide +kernel)) (pi_enumA rfl T.b_enumerate (pa_cons (pv 0) pa_nil)) (blkOk_by (own := [("place", 9), ("_", 6), ("number", 8)]) (N := N) (sc := sc) (by decide +kernel)) (fun _ _ _ _ _ => (pg_tup rfl (pgs_cons (pg_name (i := 9) nd rfl (Or.inl rfl)) (pgs_cons (pg_tup rfl (pgs_cons (pg_name (i := 6) nd rfl (Or.inl rfl)) (pgs_cons (pg_name (i := 8) nd rfl (Or.inl rfl)) pgs_nil))) pgs_nil)))) (fun _ _ _ _ _ => (pts_one (pt_cmpR (op_neD hr.units) (pv 9) (pv 4) (nomark _)))) (fun _ _ _ _ _ => (pv 8)))
    (pss_one (ps_if (pt_cmpR op_gt (pe_op op_sub (pv 3) (pe_callBK (call_maxDf rfl hr.units) rfl T.b_max (by decide +kernel) (pa_cons (pv 7) pa_nil) (pk_cons pe_int pk_nil))) (pv 1) (nomark _)) (pss_one (ps_expr (pe_bm PySem.F.plainAttrs_list PySem.F.slot_list_append PySem.F.type_list_append mt_append (pv 2) (pa_cons (pv 5) pa_nil)))) pss_nil))))
    (pss_one (ps_ret (pe_ifExp (pt_cmpR (op_eqD hr.units) (pe_callB call_len rfl T.b_len (by decide +kernel) (pa_cons (pv 2) pa_nil)) pe_int (nomark _)) (pe_ix ix_seq (pv 2) pe_int (fun _ _ => rfl)) pe_non))))))))
theorem dn_sure_entry_of (hB : ∀ ds Φ, S_sure_entry ds Φ → B_sure_entry ⟨startD n_sure_entry ds, 0⟩ (retD Φ)) (hl : ∀ ds Φ, S_sure_entry ds Φ → ds.length = 2) (T : Tx w K mg) : Dn P w K mg base CX0 1 "sure_entry" ["counts", "could"] (spP ⟨P, w, K⟩ S_sure_entry) := by
  obtain ⟨fd, F⟩ := T.f_sure_entry
  exact ⟨_, fd, fn_sure_entry hB hl T F, T.g_sure_entry, F.kp, F.bindsN fun _ _ _ _ _ _ us hl => match us, hl with | [_, _], _ => rfl⟩
theorem dn_sure_entry (T : Tx w K mg) : Dn P w K mg base CX0 1 "sure_entry" ["counts", "could"] (spP ⟨P, w, K⟩ S_sure_entry) := dn_sure_entry_of hB_sure_entry hl_sure_entry T
theorem fn_law_is_whole (hB : ∀ ds Φ, S_law_is_whole ds Φ → B_law_is_whole ⟨startD n_law_is_whole ds, 0⟩ (retD Φ)) (hl : ∀ ds Φ, S_law_is_whole ds Φ → ds.length = 1) (T : Tx w K mg) {fd : FuncData} (F : FunD K "_law_is_whole" "_law_is_whole" (defArgs s_law_is_whole) (defBody s_law_is_whole) (defScope s_law_is_whole) (d_law_is_whole.dvs K) [] (He.fAd K d_law_is_whole.at_) fd) : FnOk P w K mg base CX0 1 (He.fAd K d_law_is_whole.at_) fd ["thing"] (spP ⟨P, w, K⟩ S_law_is_whole) := by
  have nd := sc_law_is_whole.nd
  let N := n_law_is_whole
  let sc := defScope s_law_is_whole
  refine F.ok sc_law_is_whole (fun vs H Q E h => lenP h hl) (fun cdv A outer s H vs Q E hr h => mk_body (body_ok (K := ⟨P, w, K⟩) (g := B_law_is_whole) (ss_ret (se_and (se_isi (n := "int") (se_name 0)) (se_not (se_isi (n := "bool") (se_name 0))))) hB h) (PSs.nox (pss_one (ps_ret (pe_and (pe_callB call_isi rfl T.b_isinstance (by decide +kernel) (pa_cons (pv 0) (pa_cons (pe_bltn (v := .ty "int") rfl T.b_int (by decide +kernel) rfl) pa_nil))) (pe_one (pe_not (pe_callB call_isi rfl T.b_isinstance (by decide +kernel) (pa_cons (pv 0) (pa_cons (pe_bltn (v := .ty "bool") rfl T.b_bool (by decide +kernel) rfl) pa_nil))))))))))
theorem dn_law_is_whole_of (hB : ∀ ds Φ, S_law_is_whole ds Φ → B_law_is_whole ⟨startD n_law_is_whole ds, 0⟩ (retD Φ)) (hl : ∀ ds Φ, S_law_is_whole ds Φ → ds.length = 1) (T : Tx w K mg) : Dn P w K mg base CX0 1 "_law_is_whole" ["thing"] (spP ⟨P, w, K⟩ S_law_is_whole) := by
  obtain ⟨fd, F⟩ := T.f_law_is_whole
  exact ⟨_, fd, fn_law_is_whole hB hl T F, T.g_law_is_whole, F.kp, F.bindsN fun _ _ _ _ _ _ us hl => match us, hl with | [_], _ => rfl⟩
theorem dn_law_is_whole (T : Tx w K mg) : Dn P w K mg base CX0 1 "_law_is_whole" ["thing"] (spP ⟨P, w, K⟩ S_law_is_whole) := dn_law_is_whole_of hB_law_is_whole hl_law_is_whole T
theorem fn_law_is_entry (hB : ∀ ds Φ, S_law_is_entry ds Φ → B_law_is_entry ⟨startD n_law_is_entry ds, 0⟩ (retD Φ)) (hl : ∀ ds Φ, S_law_is_entry ds Φ → ds.length = 1) (T : Tx w K mg) {fd : FuncData} (F : FunD K "_law_is_entry" "_law_is_entry" (defArgs s_law_is_entry) (defBody s_law_is_entry) (defScope s_law_is_entry) (d_law_is_entry.dvs K) [] (He.fAd K d_law_is_entry.at_) fd) : FnOk P w K mg base CX0 2 (He.fAd K d_law_is_entry.at_) fd ["thing"] (spP ⟨P, w, K⟩ S_law_is_entry) := by
  have nd := sc_law_is_entry.nd
  let N := n_law_is_entry
  let sc := defScope s_law_is_entry
  refine F.ok sc_law_is_entry (fun vs H Q E h => lenP h hl) (fun cdv A outer s H vs Q E hr h => mk_body (body_ok (K := ⟨P, w, K⟩) (g := B_law_is_entry) (ss_seq (ss_if (sb_or (sb_not (sb_val (se_isi (n := "tuple") (se_name 0)))) (sb_or (sb_test (se_bin os_ne (se_cl cs_len (sa_cons (se_name 0) sa_nil)) se_int)) (sb_not (sb_val (se_isi (n := "str") (se_bin os_ix (se_name 0) se_int)))))) (ss_ret se_bl) ss_nil)
    (ss_seq (ss_if (sb_or (sb_not (sb_val (se_isi (n := "tuple") (se_bin os_ix (se_name 0) se_int)))) (sb_not (sb_val (se_call (fun _ => .nil) (sa_cons (se_bin os_ix (se_name 0) se_int) sa_nil))))) (ss_ret se_bl) ss_nil)
    (ss_ret (se_cl cs_all (sa_cons (se_lc (vs := [1]) (si_seq (se_bin os_ix (se_name 0) se_int)) (st_name 1) sb_yes (se_call (fun _ => .nil) (sa_cons (se_name 1) sa_nil)) (by decide)) sa_nil))))) hB h) (PSs.nox (pss_cons (ps_if (PW.pt (pw_or (pt_not (pt_val (pe_callB call_isi rfl T.b_isinstance (by decide +kernel) (pa_cons (pv 0) (pa_cons (pe_bltn (v := .ty "tuple") rfl T.b_tuple (by decide +kernel) rfl) pa_nil))))) (pw_or (pt_cmpR (op_neD hr.units) (pe_callB call_len rfl T.b_len (by decide +kernel) (pa_cons (pv 0) pa_nil)) pe_int (nomark _)) (pw_or1 (pt_not (pt_val (pe_callB call_isi rfl T.b_isinstance (by decide +kernel) (pa_cons (pe_ix ix_seq (pv 0) pe_int (fun _ _ => rfl)) (pa_cons (pe_bltn (v := .ty "str") rfl T.b_str (by decide +kernel) rfl) pa_nil))))))))) (pss_one (ps_ret pe_bl)) pss_nil)
    (pss_cons (ps_if (PW.pt (pw_or (pt_not (pt_val (pe_callB call_isi rfl T.b_isinstance (by decide +kernel) (pa_cons (pe_ix ix_seq (pv 0) pe_int (fun _ _ => rfl)) (pa_cons (pe_bltn (v := .ty "tuple") rfl T.b_tuple (by decide +kernel) rfl) pa_nil))))) (pw_or1 (pt_not (pt_val (pe_dn (dn_law_is_whole T) (Room.mono hr (by decide)) rfl pass0 (pa_cons (pe_ix ix_seq (pv 0) pe_int (fun _ _ => rfl)) pa_nil))))))) (pss_one (ps_ret pe_bl)) pss_nil)
    (pss_one (ps_ret (pe_callB (cr_all rfl) rfl T.b_all (by decide +kernel) (pa_cons (pe_lc (own := [("number", 1)]) rfl nd (pi_seq (pe_ix ix_seq (pv 0) pe_int (fun _ _ => rfl))) (blkOk_by (own := [("number", 1)]) (N := N) (sc := sc) (by decide +kernel)) (fun _ _ _ _ _ => (pg_name (i := 1) nd rfl (Or.inl rfl))) (fun _ _ _ _ _ => pts_nil) (fun _ _ _ _ _ => (pe_dn (dn_law_is_whole T) (Room.mono hr (by decide)) rfl pass0 (pa_cons (pv 1) pa_nil)))) pa_nil))))))))
theorem dn_law_is_entry_of (hB : ∀ ds Φ, S_law_is_entry ds Φ → B_law_is_entry ⟨startD n_law_is_entry ds, 0⟩ (retD Φ)) (hl : ∀ ds Φ, S_law_is_entry ds Φ → ds.length = 1) (T : Tx w K mg) : Dn P w K mg base CX0 2 "_law_is_entry" ["thing"] (spP ⟨P, w, K⟩ S_law_is_entry) := by
  obtain ⟨fd, F⟩ := T.f_law_is_entry
  exact ⟨_, fd, fn_law_is_entry hB hl T F, T.g_law_is_entry, F.kp, F.bindsN fun _ _ _ _ _ _ us hl => match us, hl with | [_], _ => rfl⟩
theorem dn_law_is_entry (T : Tx w K mg) : Dn P w K mg base CX0 2 "_law_is_entry" ["thing"] (spP ⟨P, w, K⟩ S_law_is_entry) := dn_law_is_entry_of hB_law_is_entry hl_law_is_entry T
theorem fn_law_counted (hB : ∀ ds Φ, S_law_counted ds Φ → B_law_counted ⟨startD n_law_counted ds, 0⟩ (retD Φ)) (hl : ∀ ds Φ, S_law_counted ds Φ → ds.length = 1) (T : Tx w K mg) {fd : FuncData} (F : FunD K "_law_counted" "_law_counted" (defArgs s_law_counted) (defBody s_law_counted) (defScope s_law_counted) (d_law_counted.dvs K) [] (He.fAd K d_law_counted.at_) fd) : FnOk P w K mg base CX0 1 (He.fAd K d_law_counted.at_) fd ["entries"] (spP ⟨P, w, K⟩ S_law_counted) := by
  have nd := sc_law_counted.nd
  let N := n_law_counted
  let sc := defScope s_law_counted
  refine F.ok sc_law_counted (fun vs H Q E h => lenP h hl) (fun cdv A outer s H vs Q E hr h => mk_body (body_ok (K := ⟨P, w, K⟩) (g := B_law_counted) (ss_seq (ss_set (i := 1) (se_sorted (sa_cons (se_name 0) sa_nil)))
    (ss_ret (se_lc (vs := [2, 3]) (si_enum (sa_cons (se_name 1) sa_nil)) (st_tup (n := 2) (st_cons (st_name 2) (st_cons (st_name 3) st_nil))) (sb_test (se_bin os_notIn (se_name 3) (se_sl (se_name 1) so_none (so_some (se_name 2))))) (se_tup (sa_cons (se_name 3) (sa_cons (se_count (se_name 0) (se_name 3)) sa_nil))) (by decide)))) hB h) (PSs.nox (pss_cons (ps_set (i := 1) nd rfl (Or.inr rfl) (pe_callB (cr_sortedD hr.units) rfl T.b_sorted (by decide +kernel) (pa_cons (pv 0) pa_nil)))
    (pss_one (ps_ret (pe_lc (own := [("place", 2), ("entry", 3)]) rfl nd (pi_enumA rfl T.b_enumerate (pa_cons (pv 1) pa_nil)) (blkOk_by (own := [("place", 2), ("entry", 3)]) (N := N) (sc := sc) (by decide +kernel)) (fun _ _ _ _ _ => (pg_tup rfl (pgs_cons (pg_name (i := 2) nd rfl (Or.inl rfl)) (pgs_cons (pg_name (i := 3) nd rfl (Or.inl rfl)) pgs_nil)))) (fun _ _ _ _ _ => (pts_one (pt_cmpR (op_notInD (Room.u65 hr)) (pv 3) (pe_slice sl_both (pv 1) po_none (po_some (pv 2))) rfl))) (fun _ _ _ _ _ => (pe_tup (pa_cons (pv 3) (pa_cons (pe_bm PySem.F.plainAttrs_list PySem.F.slot_list_count PySem.F.type_list_count (mt_lcountD (Room.u65 hr)) (pv 0) (pa_cons (pv 3) pa_nil)) pa_nil))))))))))
theorem dn_law_counted_of (hB : ∀ ds Φ, S_law_counted ds Φ → B_law_counted ⟨startD n_law_counted ds, 0⟩ (retD Φ)) (hl : ∀ ds Φ, S_law_counted ds Φ → ds.length = 1) (T : Tx w K mg) : Dn P w K mg base CX0 1 "_law_counted" ["entries"] (spP ⟨P, w, K⟩ S_law_counted) := by
  obtain ⟨fd, F⟩ := T.f_law_counted
  exact ⟨_, fd, fn_law_counted hB hl T F, T.g_law_counted, F.kp, F.bindsN fun _ _ _ _ _ _ us hl => match us, hl with | [_], _ => rfl⟩
theorem dn_law_counted (T : Tx w K mg) : Dn P w K mg base CX0 1 "_law_counted" ["entries"] (spP ⟨P, w, K⟩ S_law_counted) := dn_law_counted_of hB_law_counted hl_law_counted T
theorem fn_law_told_of (hB : ∀ ds Φ, S_law_told_of ds Φ → B_law_told_of ⟨startD n_law_told_of ds, 0⟩ (retD Φ)) (hl : ∀ ds Φ, S_law_told_of ds Φ → ds.length = 3) (T : Tx w K mg) {fd : FuncData} (F : FunD K "_law_told_of" "_law_told_of" (defArgs s_law_told_of) (defBody s_law_told_of) (defScope s_law_told_of) (d_law_told_of.dvs K) [] (He.fAd K d_law_told_of.at_) fd) : FnOk P w K mg base CX0 1 (He.fAd K d_law_told_of.at_) fd ["copies", "name", "key"] (spP ⟨P, w, K⟩ S_law_told_of) := by
  have nd := sc_law_told_of.nd
  let N := n_law_told_of
  let sc := defScope s_law_told_of
  refine F.ok sc_law_told_of (fun vs H Q E h => lenP h hl) (fun cdv A outer s H vs Q E hr h => mk_body (body_ok (K := ⟨P, w, K⟩) (g := B_law_told_of) (ss_seq (ss_set (i := 3) (se_lst sa_nil))
    (ss_seq (ss_for (si_seq (se_name 0)) (st_name 4) (ss_set (i := 3) (se_bin os_add (se_name 3) (se_lc (vs := [5]) (si_seq (se_name 4)) (st_name 5) (sb_and (sb_test (se_bin os_eq (se_bin os_ix (se_name 5) se_int) (se_name 1))) (sb_or (sb_val (se_isN (se_name 2))) (sb_test (se_bin os_eq (se_bin os_ix (se_name 5) se_int) (se_name 2))))) (se_name 5) (by decide)))))
    (ss_ret (se_name 3)))) hB h) (PSs.nox (pss_cons (ps_set (i := 3) nd rfl (Or.inl rfl) (pe_lst pa_nil))
    (pss_cons (ps_for PassesOwn.never rfl (pi_seq (pv 0)) (pg_name (i := 4) nd rfl (Or.inl rfl)) (pss_one (ps_set (i := 3) nd rfl (Or.inl rfl) (pe_op opAddA (pv 3) (pe_lc (own := [("entry", 5)]) rfl nd (pi_seq (pv 4)) (blkOk_by (own := [("entry", 5)]) (N := N) (sc := sc) (by decide +kernel)) (fun _ _ _ _ _ => (pg_name (i := 5) nd rfl (Or.inl rfl))) (fun _ _ _ _ _ => (pts_one (PW.pt (pw_and (pt_cmpR (op_eqD hr.units) (pe_ix ix_seq (pv 5) pe_int (fun _ _ => rfl)) (pv 1) (nomark _)) (pw_and1 (PW.pt (pw_or (pt_cmp (pc_isN (pv 2)) rfl) (pw_or1 (pt_cmpR (op_eqD hr.units) (pe_ix ix_seq (pv 5) pe_int (fun _ _ => rfl)) (pv 2) (nomark _)))))))))) (fun _ _ _ _ _ => (pv 5)))))))
    (pss_one (ps_ret (pv 3)))))))
theorem dn_law_told_of_of (hB : ∀ ds Φ, S_law_told_of ds Φ → B_law_told_of ⟨startD n_law_told_of ds, 0⟩ (retD Φ)) (hl : ∀ ds Φ, S_law_told_of ds Φ → ds.length = 3) (T : Tx w K mg) : Dn P w K mg base CX0 1 "_law_told_of" ["copies", "name", "key"] (spP ⟨P, w, K⟩ S_law_told_of) := by
  obtain ⟨fd, F⟩ := T.f_law_told_of
  exact ⟨_, fd, fn_law_told_of hB hl T F, T.g_law_told_of, F.kp, F.bindsN fun _ _ _ _ _ _ us hl => match us, hl with | [_, _, _], _ => rfl⟩
theorem dn_law_told_of (T : Tx w K mg) : Dn P w K mg base CX0 1 "_law_told_of" ["copies", "name", "key"] (spP ⟨P, w, K⟩ S_law_told_of) := dn_law_told_of_of hB_law_told_of hl_law_told_of T
theorem fn_law_marked_copy (hB : ∀ ds n Φ, S_law_marked_copy ds n Φ → B_law_marked_copy ⟨startB n_law_marked_copy ds, n⟩ (retB Φ)) (hl : ∀ ds n Φ, S_law_marked_copy ds n Φ → ds.length = 3) (T : Tx w K mg) {fd : FuncData} (F : FunD K "_law_marked_copy" "_law_marked_copy" (defArgs s_law_marked_copy) (defBody s_law_marked_copy) (defScope s_law_marked_copy) (d_law_marked_copy.dvs K) [] (He.fAd K d_law_marked_copy.at_) fd) : FnOk P w K mg base CX0 2 (He.fAd K d_law_marked_copy.at_) fd ["bag", "name", "wide", "twice"] (spB ⟨P, w, K⟩ S_law_marked_copy) := by
  have nd := sc_law_marked_copy.nd
  let N := n_law_marked_copy
  let sc := defScope s_law_marked_copy
  refine F.ok sc_law_marked_copy (fun vs H Q E h => lenB h hl) (fun cdv A outer s H vs Q E hr h => mk_body (body_okB (K := ⟨P, w, K⟩) (g := B_law_marked_copy) (ss_seq (ss_own (i := 4) (se_lst sa_nil))
    (ss_seq (ss_if (sb_test (se_bin (os_B fun i j => decide (j < i)) (se_callB (i := 0) (sa_cons se_int sa_nil)) se_int)) (ss_app (i := 4) (se_tup (sa_cons se_str (sa_cons (se_tup sa_nil) (sa_cons (se_callB (i := 0) (sa_cons se_int sa_nil)) sa_nil))))) ss_nil)
    (ss_seq (ss_if (sb_test (se_bin (os_B fun i j => decide (j < i)) (se_callB (i := 0) (sa_cons se_int sa_nil)) se_int)) (ss_seq (ss_set (i := 5) (se_cl cs_tuple (sa_cons (se_lc (vs := [6]) (si_range1 (sa_cons (se_name 2) sa_nil)) (st_name 6) sb_yes (se_cl cs_int (sa_cons (se_bin (os_Ic CDiv fun i j => i / j) (se_callB (i := 0) (sa_cons se_int sa_nil)) se_int) sa_nil)) (by decide)) sa_nil)))
    (ss_seq (ss_app (i := 4) (se_tup (sa_cons (se_name 1) (sa_cons (se_name 5) (sa_cons (se_cl cs_int (sa_cons (se_bin (os_Ic CDiv fun i j => i / j) (se_callB (i := 0) (sa_cons se_int sa_nil)) se_int) sa_nil)) sa_nil)))))
    (ss_if (sb_and (sb_val (se_name 3)) (sb_test (se_bin os_eq (se_callB (i := 0) (sa_cons se_int sa_nil)) se_int))) (ss_app (i := 4) (se_tup (sa_cons (se_name 1) (sa_cons (se_bin os_add (se_tup (sa_cons (se_bin os_add (se_bin os_ix (se_name 5) se_int) se_int) sa_nil)) (se_sl (se_name 5) (so_some se_int) so_none)) (sa_cons (se_cl cs_int (sa_cons (se_bin (os_Ic CDiv fun i j => i / j) (se_callB (i := 0) (sa_cons se_int sa_nil)) se_int) sa_nil)) sa_nil))))) ss_nil))) ss_nil)
    (ss_ret (se_cl cs_tuple (sa_cons (se_sorted (sa_cons (se_name 4) sa_nil)) sa_nil)))))) hB h) (PSs.nox (pss_cons (ps_set (i := 4) nd rfl (Or.inl rfl) (pe_lst pa_nil))
    (pss_cons (ps_if (pt_cmpR op_gt (pe_dn (dn_draw T) (Room.mono hr (by decide)) rfl pass0 (pa_cons (pv 0) (pa_cons pe_int pa_nil))) pe_int (nomark _)) (pss_one (ps_expr (pe_bm PySem.F.plainAttrs_list PySem.F.slot_list_append PySem.F.type_list_append mt_append (pv 4) (pa_cons (pe_tup (pa_cons pe_str (pa_cons (pe_tup pa_nil) (pa_cons (pe_dn (dn_draw T) (Room.mono hr (by decide)) rfl pass0 (pa_cons (pv 0) (pa_cons pe_int pa_nil))) pa_nil)))) pa_nil)))) pss_nil)
    (pss_cons (ps_if (pt_cmpR op_gt (pe_dn (dn_draw T) (Room.mono hr (by decide)) rfl pass0 (pa_cons (pv 0) (pa_cons pe_int pa_nil))) pe_int (nomark _)) (pss_cons (ps_set (i := 5) nd rfl (Or.inl rfl) (pe_callTy call_tuple_of rfl T.b_tuple (by decide +kernel) (pa_cons (pe_lc (own := [("place", 6)]) rfl nd (pi_range1 rfl T.b_range (pa_cons (pv 2) pa_nil)) (blkOk_by (own := [("place", 6)]) (N := N) (sc := sc) (by decide +kernel)) (fun _ _ _ _ _ => (pg_name (i := 6) nd rfl (Or.inl rfl))) (fun _ _ _ _ _ => pts_nil) (fun _ _ _ _ _ => (pe_callTy call_int1 rfl T.b_int (by decide +kernel) (pa_cons (pe_op op_fdiv (pe_dn (dn_draw T) (Room.mono hr (by decide)) rfl pass0 (pa_cons (pv 0) (pa_cons pe_int pa_nil))) pe_int) pa_nil)))) pa_nil)))
    (pss_cons (ps_expr (pe_bm PySem.F.plainAttrs_list PySem.F.slot_list_append PySem.F.type_list_append mt_append (pv 4) (pa_cons (pe_tup (pa_cons (pv 1) (pa_cons (pv 5) (pa_cons (pe_callTy call_int1 rfl T.b_int (by decide +kernel) (pa_cons (pe_op op_fdiv (pe_dn (dn_draw T) (Room.mono hr (by decide)) rfl pass0 (pa_cons (pv 0) (pa_cons pe_int pa_nil))) pe_int) pa_nil)) pa_nil)))) pa_nil)))
    (pss_one (ps_if (PW.pt (pw_and (pt_val (pv 3)) (pw_and1 (pt_cmpR (op_eqD hr.units) (pe_dn (dn_draw T) (Room.mono hr (by decide)) rfl pass0 (pa_cons (pv 0) (pa_cons pe_int pa_nil))) pe_int (nomark _))))) (pss_one (ps_expr (pe_bm PySem.F.plainAttrs_list PySem.F.slot_list_append PySem.F.type_list_append mt_append (pv 4) (pa_cons (pe_tup (pa_cons (pv 1) (pa_cons (pe_op opAddA (pe_tup (pa_cons (pe_op opAddA (pe_ix ix_seq (pv 5) pe_int (fun _ _ => rfl)) pe_int) pa_nil)) (pe_slice sl_both (pv 5) (po_some pe_int) po_none)) (pa_cons (pe_callTy call_int1 rfl T.b_int (by decide +kernel) (pa_cons (pe_op op_fdiv (pe_dn (dn_draw T) (Room.mono hr (by decide)) rfl pass0 (pa_cons (pv 0) (pa_cons pe_int pa_nil))) pe_int) pa_nil)) pa_nil)))) pa_nil)))) pss_nil)))) pss_nil)
    (pss_one (ps_ret (pe_callTy call_tuple_of rfl T.b_tuple (by decide +kernel) (pa_cons (pe_callB (cr_sortedD hr.units) rfl T.b_sorted (by decide +kernel) (pa_cons (pv 4) pa_nil)) pa_nil)))))))))
theorem dn_law_marked_copy_of (hB : ∀ ds n Φ, S_law_marked_copy ds n Φ → B_law_marked_copy ⟨startB n_law_marked_copy ds, n⟩ (retB Φ)) (hl : ∀ ds n Φ, S_law_marked_copy ds n Φ → ds.length = 3) (T : Tx w K mg) : Dn P w K mg base CX0 2 "_law_marked_copy" ["bag", "name", "wide", "twice"] (spB ⟨P, w, K⟩ S_law_marked_copy) := by
  obtain ⟨fd, F⟩ := T.f_law_marked_copy
  exact ⟨_, fd, fn_law_marked_copy hB hl T F, T.g_law_marked_copy, F.kp, F.bindsN fun _ _ _ _ _ _ us hl => match us, hl with | [_, _, _, _], _ => rfl⟩
theorem dn_law_marked_copy (T : Tx w K mg) : Dn P w K mg base CX0 2 "_law_marked_copy" ["bag", "name", "wide", "twice"] (spB ⟨P, w, K⟩ S_law_marked_copy) := dn_law_marked_copy_of hB_law_marked_copy hl_law_marked_copy T
theorem fn_law_only_in_all_ways (hB : ∀ ds Φ, S_law_only_in_all_ways ds Φ → B_law_only_in_all_ways ⟨startD n_law_only_in_all_ways ds, 0⟩ (retD Φ)) (hl : ∀ ds Φ, S_law_only_in_all_ways ds Φ → ds.length = 2) (T : Tx w K mg) {fd : FuncData} (F : FunD K "_law_only_in_all_ways" "_law_only_in_all_ways" (defArgs s_law_only_in_all_ways) (defBody s_law_only_in_all_ways) (defScope s_law_only_in_all_ways) (d_law_only_in_all_ways.dvs K) [] (He.fAd K d_law_only_in_all_ways.at_) fd) : FnOk P w K mg base CX0 1 (He.fAd K d_law_only_in_all_ways.at_) fd ["entries", "could"] (spP ⟨P, w, K⟩ S_law_only_in_all_ways) := by
  have nd := sc_law_only_in_all_ways.nd
  let N := n_law_only_in_all_ways
  let sc := defScope s_law_only_in_all_ways
  refine F.ok sc_law_only_in_all_ways (fun vs H Q E h => lenP h hl) (fun cdv A outer s H vs Q E hr h => mk_body (body_ok (K := ⟨P, w, K⟩) (g := B_law_only_in_all_ways) (ss_seq (ss_set (i := 2) (se_lst (sa_cons (se_lst sa_nil) sa_nil)))
    (ss_seq (ss_for (si_seq (se_name 0)) (st_name 3) (ss_set (i := 2) (se_bin os_add (se_lc (vs := [5]) (si_seq (se_name 2)) (st_name 5) sb_yes (se_bin os_add (se_name 5) (se_lst (sa_cons se_bl sa_nil))) (by decide)) (se_lc (vs := [5]) (si_seq (se_name 2)) (st_name 5) sb_yes (se_bin os_add (se_name 5) (se_lst (sa_cons se_bl sa_nil))) (by decide)))))
    (ss_seq (ss_own (i := 4) (se_lst sa_nil))
    (ss_seq (ss_for (si_seq (se_name 2)) (st_name 5) (ss_seq (ss_set (i := 6) (se_cl cs_len (sa_cons (se_lc (vs := [8]) (si_seq (se_name 5)) (st_name 8) (sb_val (se_name 8)) (se_name 8) (by decide)) sa_nil)))
    (ss_if (sb_test (se_bin (os_B fun i j => decide (i ≤ j)) (se_name 6) (se_name 1))) (ss_seq (ss_set (i := 7) (se_lc (vs := [9, 3]) (si_enum (sa_cons (se_name 0) sa_nil)) (st_tup (n := 2) (st_cons (st_name 9) (st_cons (st_name 3) st_nil))) (sb_not (sb_val (se_bin os_ix (se_name 5) (se_name 9)))) (se_name 3) (by decide)))
    (ss_seq (ss_if (sb_test (se_bin os_eq (se_cl cs_len (sa_cons (se_name 7) sa_nil)) se_int)) (ss_ret se_non) ss_nil)
    (ss_if (sb_and (sb_val (se_cl cs_all (sa_cons (se_lc (vs := [3]) (si_seq (se_name 7)) (st_name 3) sb_yes (se_bin os_eq (se_name 3) (se_bin os_ix (se_name 7) se_int)) (by decide)) sa_nil))) (sb_test (se_bin os_notIn (se_bin os_ix (se_name 7) se_int) (se_name 4)))) (ss_app (i := 4) (se_bin os_ix (se_name 7) se_int)) ss_nil))) ss_nil)))
    (ss_ret (se_if (sb_test (se_bin os_eq (se_cl cs_len (sa_cons (se_name 4) sa_nil)) se_int)) (se_bin os_ix (se_name 4) se_int) se_non)))))) hB h) (PSs.nox (pss_cons (ps_set (i := 2) nd rfl (Or.inl rfl) (pe_lst (pa_cons (pe_lst pa_nil) pa_nil)))
    (pss_cons (ps_for PassesOwn.never rfl (pi_seq (pv 0)) (pg_name (i := 3) nd rfl (Or.inl rfl)) (pss_one (ps_set (i := 2) nd rfl (Or.inl rfl) (pe_op opAddA (pe_lc (own := [("way", 5)]) rfl nd (pi_seq (pv 2)) (blkOk_by (own := [("way", 5)]) (N := N) (sc := sc) (by decide +kernel)) (fun _ _ _ _ _ => (pg_name (i := 5) nd rfl (Or.inl rfl))) (fun _ _ _ _ _ => pts_nil) (fun _ _ _ _ _ => (pe_op opAddA (pv 5) (pe_lst (pa_cons pe_bl pa_nil))))) (pe_lc (own := [("way", 5)]) rfl nd (pi_seq (pv 2)) (blkOk_by (own := [("way", 5)]) (N := N) (sc := sc) (by decide +kernel)) (fun _ _ _ _ _ => (pg_name (i := 5) nd rfl (Or.inl rfl))) (fun _ _ _ _ _ => pts_nil) (fun _ _ _ _ _ => (pe_op opAddA (pv 5) (pe_lst (pa_cons pe_bl pa_nil)))))))))
    (pss_cons (ps_set (i := 4) nd rfl (Or.inl rfl) (pe_lst pa_nil))
    (pss_cons (ps_for PassesOwn.never rfl (pi_seq (pv 2)) (pg_name (i := 5) nd rfl (Or.inr rfl)) (pss_cons (ps_set (i := 6) nd rfl (Or.inl rfl) (pe_callB call_len rfl T.b_len (by decide +kernel) (pa_cons (pe_lc (own := [("flag", 8)]) rfl nd (pi_seq (pv 5)) (blkOk_by (own := [("flag", 8)]) (N := N) (sc := sc) (by decide +kernel)) (fun _ _ _ _ _ => (pg_name (i := 8) nd rfl (Or.inl rfl))) (fun _ _ _ _ _ => (pts_one (pt_val (pv 8)))) (fun _ _ _ _ _ => (pv 8))) pa_nil)))
    (pss_one (ps_if (pt_cmpR op_le (pv 6) (pv 1) (nomark _)) (pss_cons (ps_set (i := 7) nd rfl (Or.inr rfl) (pe_lc (own := [("place", 9), ("entry", 3)]) rfl nd (pi_enumA rfl T.b_enumerate (pa_cons (pv 0) pa_nil)) (blkOk_by (own := [("place", 9), ("entry", 3)]) (N := N) (sc := sc) (by decide +kernel)) (fun _ _ _ _ _ => (pg_tup rfl (pgs_cons (pg_name (i := 9) nd rfl (Or.inl rfl)) (pgs_cons (pg_name (i := 3) nd rfl (Or.inl rfl)) pgs_nil)))) (fun _ _ _ _ _ => (pts_one (pt_not (pt_val (pe_ix ix_seq (pv 5) (pv 9) (fun _ _ => rfl)))))) (fun _ _ _ _ _ => (pv 3))))
    (pss_cons (ps_if (pt_cmpR (op_eqD hr.units) (pe_callB call_len rfl T.b_len (by decide +kernel) (pa_cons (pv 7) pa_nil)) pe_int (nomark _)) (pss_one (ps_ret pe_non)) pss_nil)
    (pss_one (ps_if (PW.pt (pw_and (pt_val (pe_callB (cr_all rfl) rfl T.b_all (by decide +kernel) (pa_cons (pe_lc (own := [("entry", 3)]) rfl nd (pi_seq (pv 7)) (blkOk_by (own := [("entry", 3)]) (N := N) (sc := sc) (by decide +kernel)) (fun _ _ _ _ _ => (pg_name (i := 3) nd rfl (Or.inl rfl))) (fun _ _ _ _ _ => pts_nil) (fun _ _ _ _ _ => (pe_cmpR (op_eqD hr.units) (pv 3) (pe_ix ix_seq (pv 7) pe_int (fun _ _ => rfl)) (nomark _)))) pa_nil))) (pw_and1 (pt_cmpR (op_notInD (Room.u65 hr)) (pe_ix ix_seq (pv 7) pe_int (fun _ _ => rfl)) (pv 4) rfl)))) (pss_one (ps_expr (pe_bm PySem.F.plainAttrs_list PySem.F.slot_list_append PySem.F.type_list_append mt_append (pv 4) (pa_cons (pe_ix ix_seq (pv 7) pe_int (fun _ _ => rfl)) pa_nil)))) pss_nil)))) pss_nil))))
    (pss_one (ps_ret (pe_ifExp (pt_cmpR (op_eqD hr.units) (pe_callB call_len rfl T.b_len (by decide +kernel) (pa_cons (pv 4) pa_nil)) pe_int (nomark _)) (pe_ix ix_seq (pv 4) pe_int (fun _ _ => rfl)) pe_non)))))))))
theorem dn_law_only_in_all_ways_of (hB : ∀ ds Φ, S_law_only_in_all_ways ds Φ → B_law_only_in_all_ways ⟨startD n_law_only_in_all_ways ds, 0⟩ (retD Φ)) (hl : ∀ ds Φ, S_law_only_in_all_ways ds Φ → ds.length = 2) (T : Tx w K mg) : Dn P w K mg base CX0 1 "_law_only_in_all_ways" ["entries", "could"] (spP ⟨P, w, K⟩ S_law_only_in_all_ways) := by
  obtain ⟨fd, F⟩ := T.f_law_only_in_all_ways
  exact ⟨_, fd, fn_law_only_in_all_ways hB hl T F, T.g_law_only_in_all_ways, F.kp, F.bindsN fun _ _ _ _ _ _ us hl => match us, hl with | [_, _], _ => rfl⟩
theorem dn_law_only_in_all_ways (T : Tx w K mg) : Dn P w K mg base CX0 1 "_law_only_in_all_ways" ["entries", "could"] (spP ⟨P, w, K⟩ S_law_only_in_all_ways) := dn_law_only_in_all_ways_of hB_law_only_in_all_ways hl_law_only_in_all_ways T
def spLaw (K : PySem.W.Frag) : Sp := fun vs H Q _ => ∃ (a : Addr) (ns : List Int), vs = [.ref a] ∧ SqL K H a (ns.map V.int) ∧ ns.length ≤ 63 ∧ ∀ H', Q (.bl true) H'
theorem law_top {E0 : XK} {t : TS} (ss : SS ⟨P, w, K⟩ t B_law) {vs : List V} {H : Hp} {Q : VK} {E : XK} (h : spLaw K vs H Q E) : (tSeq (tAsg (tCall (spBag K) [] E0 (tCons (tVar 0) tNil)) (L2.gName 1)) t) { nx := fun _ H' => Q .non H', rt := Q } (L2.start n_law vs) H := by
  obtain ⟨sa, ns, rfl, hs, hn, h⟩ := h
  refine ⟨_, rfl, sa, ns, rfl, hs, hn, fun b c ms H1 x1 hb0 hB => ?_⟩
  exact top_run (K := ⟨P, w, K⟩) (g := B_law) (n := 17) ss hB rfl rfl hB_law h
theorem ok_law (T : Tx w K mg) {fd : FuncData} (F : FunD K "law" "law" (defArgs s_law) (defBody s_law) (defScope s_law) (d_law.dvs K) [] (He.fAd K d_law.at_) fd) : FnOk P w K mg base CX0 3 (He.fAd K d_law.at_) fd ["script"] (spLaw K) := by
  have nd := sc_law.nd
  let N := n_law
  let sc := defScope s_law
  refine F.ok sc_law (fun vs H Q E h => ?_) (fun cdv A outer s H vs Q E hr h => mk_body (law_top ((ss_seq (ss_set (i := 2) (se_callB (i := 1) (sa_cons se_int sa_nil)))
    (ss_seq (ss_set (i := 3) (se_bin os_ix (se_lst (sa_cons se_str (sa_cons se_str (sa_cons se_str sa_nil)))) (se_callB (i := 1) (sa_cons se_int sa_nil))))
    (ss_seq (ss_set (i := 4) (se_and (se_bin (os_B fun i j => decide (j < i)) (se_name 2) se_int) (se_bin os_eq (se_callB (i := 1) (sa_cons se_int sa_nil)) se_int)))
    (ss_seq (ss_set (i := 5) (se_lc (vs := [18]) (si_range1 (sa_cons (se_callB (i := 1) (sa_cons se_int sa_nil)) sa_nil)) (st_name 18) sb_yes (se_callB (i := 1) (sa_cons (se_name 3) (sa_cons (se_name 2) (sa_cons (se_name 4) sa_nil)))) (by decide)))
    (ss_seq (ss_if (sb_and (sb_test (se_bin os_eq (se_callB (i := 1) (sa_cons se_int sa_nil)) se_int)) (sb_test (se_bin (os_B fun i j => decide (j < i)) (se_cl cs_len (sa_cons (se_name 5) sa_nil)) se_int))) (ss_set (i := 5) (se_bin os_add (se_sl (se_name 5) so_none (so_some se_int)) (se_lc (vs := [18]) (si_range1 (sa_cons se_int sa_nil)) (st_name 18) sb_yes (se_bin os_ix (se_name 5) (se_un us_neg se_int)) (by decide)))) ss_nil)
    (ss_seq (ss_own (i := 6) (se_lst (sa_cons se_non sa_nil)))
    (ss_seq (ss_if (sb_val (se_name 4)) (ss_seq (ss_own (i := 6) (se_lst sa_nil))
    (ss_seq (ss_for (si_seq (se_name 5)) (st_name 7) (ss_for (si_seq (se_name 7)) (st_name 8) (ss_if (sb_and (sb_test (se_bin os_eq (se_bin os_ix (se_name 8) se_int) (se_name 3))) (sb_test (se_bin os_notIn (se_bin os_ix (se_name 8) se_int) (se_name 6)))) (ss_app (i := 6) (se_bin os_ix (se_name 8) se_int)) ss_nil)))
    (ss_app (i := 6) (se_cl cs_tuple (sa_cons (se_lc (vs := [18]) (si_range1 (sa_cons (se_name 2) sa_nil)) (st_name 18) sb_yes se_int (by decide)) sa_nil))))) ss_nil)
    (ss_seq (ss_for (si_seq (se_name 6)) (st_name 9) (ss_seq (ss_set (i := 10) (se_cl cs_list (sa_cons (se_name 5) sa_nil)))
    (ss_seq (ss_set (i := 11) (se_if (sb_val (se_isN (se_name 9))) (se_call (dv := [.non]) (dd := [.non]) (fun _ => (.cons .non .nil)) (sa_cons (se_name 10) (sa_cons (se_name 3) sa_nil))) (se_callN (n := 2) (m := 1) (gV := fun vs zs => vs ++ zs) (gD := fun ds es => ds ++ es) (fun _ _ _ _ _ r s => r.app s) (sa_cons (se_name 10) (sa_cons (se_name 3) sa_nil)) (sa_cons (se_name 9) sa_nil))))
    (ss_seq (ss_set (i := 12) (se_call (fun _ => .nil) (sa_cons (se_name 5) (sa_cons (se_name 3) (sa_cons (se_name 9) sa_nil)))))
    (ss_seq (ss_if (sb_or (sb_test (se_bin os_ne (se_name 11) (se_cl cs_tuple (sa_cons (se_call (fun _ => .nil) (sa_cons (se_name 12) sa_nil)) sa_nil)))) (sb_test (se_bin os_ne (se_name 10) (se_name 5)))) (ss_ret se_bl) ss_nil)
    (ss_seq (ss_for (si_seq (se_name 11)) (st_tup (n := 2) (st_cons (st_name 8) (st_cons (st_name 13) st_nil))) (ss_if (sb_or (sb_not (sb_val (se_call (fun _ => .nil) (sa_cons (se_name 8) sa_nil)))) (sb_not (sb_val (se_call (fun _ => .nil) (sa_cons (se_name 13) sa_nil))))) (ss_ret se_bl) ss_nil))
    (ss_seq (ss_set (i := 14) (se_lc (vs := [18]) (si_range1 (sa_cons (se_cl cs_len (sa_cons (se_name 11) sa_nil)) sa_nil)) (st_name 18) sb_yes (se_bin os_ix (se_name 11) (se_bin (os_I fun i j => i - j) (se_bin (os_I fun i j => i - j) (se_cl cs_len (sa_cons (se_name 11) sa_nil)) se_int) (se_name 18))) (by decide)))
    (ss_for (si_range1 (sa_cons se_int sa_nil)) (st_name 15) (ss_seq (ss_set (i := 16) (se_call (fun _ => .nil) (sa_cons (se_name 12) (sa_cons (se_name 15) sa_nil))))
    (ss_if (sb_or (sb_test (se_bin os_ne (se_call (fun _ => .nil) (sa_cons (se_name 11) (sa_cons (se_name 15) sa_nil))) (se_name 16))) (sb_test (se_bin os_ne (se_call (fun _ => .nil) (sa_cons (se_name 14) (sa_cons (se_name 15) sa_nil))) (se_name 16)))) (ss_ret se_bl) ss_nil))))))))))
    (ss_seq (ss_set (i := 17) (se_call (fun _ => .nil) (sa_cons (se_call (fun _ => .nil) (sa_cons (se_name 5) (sa_cons (se_name 3) (sa_cons se_non sa_nil)))) sa_nil)))
    (ss_ret (se_and (se_bin os_eq (se_call (dv := [.non]) (dd := [.non]) (fun _ => (.cons .non .nil)) (sa_cons (se_name 5) (sa_cons (se_name 3) sa_nil))) (se_cl cs_tuple (sa_cons (se_name 17) sa_nil))) (se_and (se_bin os_eq (se_call (dv := [.non]) (dd := [.non]) (fun _ => (.cons .non .nil)) (sa_cons (se_lst sa_nil) (sa_cons (se_name 3) sa_nil))) (se_tup sa_nil)) (se_isN (se_call (fun _ => .nil) (sa_cons (se_tup sa_nil) (sa_cons se_int sa_nil))))))))))))))))) h) (PSs.nox (pss_cons (ps_set (i := 1) nd rfl (Or.inr rfl) (pe_dn (ok_bag T) (Room.mono hr (by decide)) rfl pass0 (pa_cons (pv 0) pa_nil)))
    (pss_cons (ps_set (i := 2) nd rfl (Or.inr rfl) (pe_dn (dn_draw T) (Room.mono hr (by decide)) rfl pass0 (pa_cons (pv 1) (pa_cons pe_int pa_nil))))
    (pss_cons (ps_set (i := 3) nd rfl (Or.inr rfl) (pe_ix ix_seq (pe_lst (pa_cons pe_str (pa_cons pe_str (pa_cons pe_str pa_nil)))) (pe_dn (dn_draw T) (Room.mono hr (by decide)) rfl pass0 (pa_cons (pv 1) (pa_cons pe_int pa_nil))) (fun _ _ => rfl)))
    (pss_cons (ps_set (i := 4) nd rfl (Or.inr rfl) (pe_and (pe_cmpR op_gt (pv 2) pe_int (nomark _)) (pe_one (pe_cmpR (op_eqD hr.units) (pe_dn (dn_draw T) (Room.mono hr (by decide)) rfl pass0 (pa_cons (pv 1) (pa_cons pe_int pa_nil))) pe_int (nomark _)))))
    (pss_cons (ps_set (i := 5) nd rfl (Or.inr rfl) (pe_lc (own := [("place", 18)]) rfl nd (pi_range1 rfl T.b_range (pa_cons (pe_dn (dn_draw T) (Room.mono hr (by decide)) rfl pass0 (pa_cons (pv 1) (pa_cons pe_int pa_nil))) pa_nil)) (blkOk_by (own := [("place", 18)]) (N := N) (sc := sc) (by decide +kernel)) (fun _ _ _ _ _ => (pg_name (i := 18) nd rfl (Or.inl rfl))) (fun _ _ _ _ _ => pts_nil) (fun _ _ _ _ _ => (pe_dn (dn_law_marked_copy T) (Room.mono hr (by decide)) rfl pass0 (pa_cons (pv 1) (pa_cons (pv 3) (pa_cons (pv 2) (pa_cons (pv 4) pa_nil))))))))
    (pss_cons (ps_if (PW.pt (pw_and (pt_cmpR (op_eqD hr.units) (pe_dn (dn_draw T) (Room.mono hr (by decide)) rfl pass0 (pa_cons (pv 1) (pa_cons pe_int pa_nil))) pe_int (nomark _)) (pw_and1 (pt_cmpR op_gt (pe_callB call_len rfl T.b_len (by decide +kernel) (pa_cons (pv 5) pa_nil)) pe_int (nomark _))))) (pss_one (ps_set (i := 5) nd rfl (Or.inr rfl) (pe_op opAddA (pe_slice sl_both (pv 5) po_none (po_some pe_int)) (pe_lc (own := [("place", 18)]) rfl nd (pi_range1 rfl T.b_range (pa_cons pe_int pa_nil)) (blkOk_by (own := [("place", 18)]) (N := N) (sc := sc) (by decide +kernel)) (fun _ _ _ _ _ => (pg_name (i := 18) nd rfl (Or.inl rfl))) (fun _ _ _ _ _ => pts_nil) (fun _ _ _ _ _ => (pe_ix ix_seq (pv 5) (pe_un un_neg pe_int) (fun _ _ => rfl))))))) pss_nil)
    (pss_cons (ps_set (i := 6) nd rfl (Or.inl rfl) (pe_lst (pa_cons pe_non pa_nil)))
    (pss_cons (ps_if (pt_val (pv 4)) (pss_cons (ps_set (i := 6) nd rfl (Or.inl rfl) (pe_lst pa_nil))
    (pss_cons (ps_for PassesOwn.never rfl (pi_seq (pv 5)) (pg_name (i := 7) nd rfl (Or.inl rfl)) (pss_one (ps_for PassesOwn.never rfl (pi_seq (pv 7)) (pg_name (i := 8) nd rfl (Or.inl rfl)) (pss_one (ps_if (PW.pt (pw_and (pt_cmpR (op_eqD hr.units) (pe_ix ix_seq (pv 8) pe_int (fun _ _ => rfl)) (pv 3) (nomark _)) (pw_and1 (pt_cmpR (op_notInD (Room.u65 hr)) (pe_ix ix_seq (pv 8) pe_int (fun _ _ => rfl)) (pv 6) rfl)))) (pss_one (ps_expr (pe_bm PySem.F.plainAttrs_list PySem.F.slot_list_append PySem.F.type_list_append mt_append (pv 6) (pa_cons (pe_ix ix_seq (pv 8) pe_int (fun _ _ => rfl)) pa_nil)))) pss_nil)))))
    (pss_one (ps_expr (pe_bm PySem.F.plainAttrs_list PySem.F.slot_list_append PySem.F.type_list_append mt_append (pv 6) (pa_cons (pe_callTy call_tuple_of rfl T.b_tuple (by decide +kernel) (pa_cons (pe_lc (own := [("place", 18)]) rfl nd (pi_range1 rfl T.b_range (pa_cons (pv 2) pa_nil)) (blkOk_by (own := [("place", 18)]) (N := N) (sc := sc) (by decide +kernel)) (fun _ _ _ _ _ => (pg_name (i := 18) nd rfl (Or.inl rfl))) (fun _ _ _ _ _ => pts_nil) (fun _ _ _ _ _ => pe_int)) pa_nil)) pa_nil)))))) pss_nil)
    (pss_cons (ps_for PassesOwn.never rfl (pi_seq (pv 6)) (pg_name (i := 9) nd rfl (Or.inl rfl)) (pss_cons (ps_set (i := 10) nd rfl (Or.inl rfl) (pe_callTy call_list_of rfl T.b_list (by decide +kernel) (pa_cons (pv 5) pa_nil)))
    (pss_cons (ps_set (i := 11) nd rfl (Or.inr rfl) (pe_ifExp (pt_cmp (pc_isN (pv 9)) rfl) (DL.pe_dnD (dn_told_counts_d2 T) (Room.mono hr (by decide)) rfl pass0 (pa_cons (pv 10) (pa_cons (pv 3) pa_nil))) (DL.pe_dnK (dn_told_counts_k2 T) (Room.mono hr (by decide)) rfl pass0 (pa_cons (pv 10) (pa_cons (pv 3) pa_nil)) (pk_cons (pv 9) pk_nil))))
    (pss_cons (ps_set (i := 12) nd rfl (Or.inl rfl) (pe_dn (dn_law_told_of T) (Room.mono hr (by decide)) rfl pass0 (pa_cons (pv 5) (pa_cons (pv 3) (pa_cons (pv 9) pa_nil)))))
    (pss_cons (ps_if (PW.pt (pw_or (pt_cmpR (op_neD hr.units) (pv 11) (pe_callTy call_tuple_of rfl T.b_tuple (by decide +kernel) (pa_cons (pe_dn (dn_law_counted T) (Room.mono hr (by decide)) rfl pass0 (pa_cons (pv 12) pa_nil)) pa_nil)) (nomark _)) (pw_or1 (pt_cmpR (op_neD hr.units) (pv 10) (pv 5) (nomark _))))) (pss_one (ps_ret pe_bl)) pss_nil)
    (pss_cons (ps_for PassesOwn.never rfl (pi_seq (pv 11)) (pg_tup rfl (pgs_cons (pg_name (i := 8) nd rfl (Or.inl rfl)) (pgs_cons (pg_name (i := 13) nd rfl (Or.inl rfl)) pgs_nil))) (pss_one (ps_if (PW.pt (pw_or (pt_not (pt_val (pe_dn (dn_law_is_entry T) (Room.mono hr (by decide)) rfl pass0 (pa_cons (pv 8) pa_nil)))) (pw_or1 (pt_not (pt_val (pe_dn (dn_law_is_whole T) (Room.mono hr (by decide)) rfl pass0 (pa_cons (pv 13) pa_nil))))))) (pss_one (ps_ret pe_bl)) pss_nil)))
    (pss_cons (ps_setLc (i := 14) (own := [("place", 18)]) rfl nd rfl rfl (sw_true rfl rfl rfl (by decide +kernel)) (pi_range1 rfl T.b_range (pa_cons (pe_callB call_len rfl T.b_len (by decide +kernel) (pa_cons (pv 11) pa_nil)) pa_nil)) (blkOk_by (own := [("place", 18)]) (N := N) (sc := sc) (by decide +kernel)) (fun _ _ _ _ _ => (pg_name (i := 18) nd rfl (Or.inl rfl))) (fun _ _ _ _ _ => pts_nil) (fun _ _ _ _ _ => (pe_ix ix_seq (pv 11) (pe_op op_sub (pe_op op_sub (pe_callB call_len rfl T.b_len (by decide +kernel) (pa_cons (pv 11) pa_nil)) pe_int) (pv 18)) (fun _ _ => rfl))))
    (pss_one (ps_for PassesOwn.never rfl (pi_range1 rfl T.b_range (pa_cons pe_int pa_nil)) (pg_name (i := 15) nd rfl (Or.inl rfl)) (pss_cons (ps_set (i := 16) nd rfl (Or.inl rfl) (pe_dn (dn_law_only_in_all_ways T) (Room.mono hr (by decide)) rfl pass0 (pa_cons (pv 12) (pa_cons (pv 15) pa_nil))))
    (pss_one (ps_if (PW.pt (pw_or (pt_cmpR (op_neD hr.units) (pe_dn (dn_sure_entry T) (Room.mono hr (by decide)) rfl pass0 (pa_cons (pv 11) (pa_cons (pv 15) pa_nil))) (pv 16) (nomark _)) (pw_or1 (pt_cmpR (op_neD hr.units) (pe_dn (dn_sure_entry T) (Room.mono hr (by decide)) rfl pass0 (pa_cons (pv 14) (pa_cons (pv 15) pa_nil))) (pv 16) (nomark _))))) (pss_one (ps_ret pe_bl)) pss_nil))))))))))))
    (pss_cons (ps_set (i := 17) nd rfl (Or.inl rfl) (pe_dn (dn_law_counted T) (Room.mono hr (by decide)) rfl pass0 (pa_cons (pe_dn (dn_law_told_of T) (Room.mono hr (by decide)) rfl pass0 (pa_cons (pv 5) (pa_cons (pv 3) (pa_cons pe_non pa_nil)))) pa_nil)))
    (pss_one (ps_ret (pe_and (pe_cmpR (op_eqD hr.units) (DL.pe_dnD (dn_told_counts_d2 T) (Room.mono hr (by decide)) rfl pass0 (pa_cons (pv 5) (pa_cons (pv 3) pa_nil))) (pe_callTy call_tuple_of rfl T.b_tuple (by decide +kernel) (pa_cons (pv 17) pa_nil)) (nomark _)) (pe_and (pe_cmpR (op_eqD hr.units) (DL.pe_dnD (dn_told_counts_d2 T) (Room.mono hr (by decide)) rfl pass0 (pa_cons (pe_lst pa_nil) (pa_cons (pv 3) pa_nil))) (pe_tup pa_nil) (nomark _)) (pe_one (pe_cmp (pc_isN (pe_dn (dn_sure_entry T) (Room.mono hr (by decide)) rfl pass0 (pa_cons (pe_tup pa_nil) (pa_cons pe_int pa_nil)))) rfl))))))))))))))))))
  · obtain ⟨a, ns, rfl, _⟩ := h
    rfl
end
end K23
set_option maxHeartbeats 0
namespace K23
open PySem PySem.Spec PyProof.Rows L2
abbrev R : PySem.W.OpenRow := PySem.W.OpenLaw.row PySem.Challenge.rw_askedtrue_k23_whole_sure_in_all_ways_to
abbrev hk : PySem.W.Hook := Ax.hookY 5 fa fn exA
def ob (s : PySem.W.SharedT) : Ax.AlY := Ax.obsY 5 fa fn exA (HandSHeadRun.getT s)
theorem ob_eq (s : PySem.W.SharedT) : ob s = hk.obs s.abs := Ax.obsY_eq (HandSHeadRun.getT_eq s)
def loose : List Str := [("__name__" : Str), ("told_counts" : Str), ("sure_entry" : Str), ("_law_bag" : Str), ("_law_draw" : Str), ("_law_is_whole" : Str), ("_law_is_entry" : Str), ("_law_counted" : Str), ("_law_told_of" : Str), ("_law_marked_copy" : Str), ("_law_only_in_all_ways" : Str)]
theorem run (w : World) : HandSHeadRun.RunEq R (PySem.W.view R.prog [12]) hk ob 3000 loose w := by
  intro os
  kernel_rfl
end K23
set_option maxHeartbeats 0
namespace K23
open PySem PySem.Spec PyProof.Rows L2 Ax DL
theorem facts {P : Program} {w : World} {K : PySem.W.Frag} {h : Heap} {mg : Str → Option Value} {f : Addr} (X : K.In h) (G : h.Ns mainGlobals mg) (hfa : mg ("law" : Str) = some (.ref f)) (c : Ax.SaysY fa fn exA K) :
    ∃ fd : FuncData, (∀ (s : Shared) (v : Value), BindsTo s fd ⟨[v], []⟩ [("script", v)]) ∧ ∀ base : Heap, K.In base → base.Ns mainGlobals mg → FnOk P w K mg base CX0 3 f fd ["script"] (spLaw K) := by
  have T : Tx w K mg := ⟨h, X, G, c⟩
  have e := hfa.symm.trans T.g_law
  cases e
  obtain ⟨fd, F⟩ := T.f_law
  have b := FunD.bindsA (ps := ["script"]) F fun _ _ _ _ _ _ us hl => match us, hl with | [_], _ => rfl
  exact ⟨fd, fun s v => b s [v] rfl, fun base _ _ => ok_law T F⟩
end K23
open PySem PySem.W PySem.Calls PyProof.Rows
theorem PySem.Challenge.cw_askedtrue_k23_whole_sure_in_all_ways_to_holds : PySem.Challenge.rw_askedtrue_k23_whole_sure_in_all_ways_to.Holds := by
  w_on; o_law
  refine HandSHeadRun.head_any (r := OpenLaw.row PySem.Challenge.rw_askedtrue_k23_whole_sure_in_all_ways_to) (q := view (OpenLaw.row PySem.Challenge.rw_askedtrue_k23_whole_sure_in_all_ways_to).prog [12]) (H := K23.hk) (ob := K23.ob) (M := 3000) (loose := K23.loose) (d := HandSHeadRun.topDef (OpenLaw.row PySem.Challenge.rw_askedtrue_k23_whole_sure_in_all_ways_to).prog 12) (kwd := []) K23.ob_eq
    (by kernel_rfl) (fun s => by kernel_rfl) K23.run (by kernel_rfl) (by kernel_rfl) (by kernel_rfl) (by rfl) (by first | assumption | decide +kernel) (by decide +kernel) ⟨rfl, rfl, rfl, rfl, rfl, by decide +kernel⟩ ?hw ?hc
  case hw => w_witness2
  case hc =>
    refine L2.walk_ofE (l := PySem.Challenge.rw_askedtrue_k23_whole_sure_in_all_ways_to) (n := 63) (k := 3) (x := "script") (CX := L2.CX0) rfl (by decide) (by kernel_rfl) ⟨rfl, by decide, by decide⟩ ?F (fun _ _ _ _ z => z)
    intro w mg fa h Y G hmg0
    obtain ⟨K, KX, c⟩ := Y
    have hmg : mg ("law" : PySem.Str) = some (.ref fa) := by
      have e : (HandSHeadRun.topDef (OpenLaw.row PySem.Challenge.rw_askedtrue_k23_whole_sure_in_all_ways_to).prog 12).name = ("law" : PySem.Str) := by kernel_rfl
      rw [← e]
      exact hmg0
    obtain ⟨fd, hb, hF⟩ := K23.facts (P := (PySem.Challenge.rw_askedtrue_k23_whole_sure_in_all_ways_to).prog) (w := w) KX G hmg c
    exact ⟨K, fd, K23.spLaw K, KX, hb, fun H a ns hl _ hS => ⟨a, ns, rfl, hS, hl, fun _ => rfl⟩, hF⟩
