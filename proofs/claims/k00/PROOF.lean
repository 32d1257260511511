import PyProof.Rows.All
import Wide.All
import OpenK.AllK
import Wide.FinOn
import HandS.ForMost
import HandS.Defaults
import HandS.Exc
import HandS.ExcOwn
import HandS.ExcInit
import HandS.ExcField
import HandS.TryMany
import HandS.TryOnly
import HandS.Star
import HandS.ClsMeth
import HandS.OwnEq
import HandS.IsInst
import HandS.NoneIn
import HandS.TupAny
import HandS.Deep
import HandS.WordsExc
import HandS.Codes
import HandS.IterVal
import HandS.IterNext
import HandS.HeadHook4
import HandS.Walk
import KE.DataFind
import HandS.Head0
import HandS.Head1
import HandS.Head2
import HandS.HeadEnd
import PyProof.Rows.StrSplitAre
import PyProof.Rows.StrSplitCount
import PySem.Challenge.RW_askedtrue_k00_texts_of_orders_and_back
set_option Elab.async false
set_option linter.all false
set_option maxRecDepth 100000
set_option maxHeartbeats 4000000
/-! Rules of my own over the layer: a def read off its class and called. -/
namespace Ax
open PySem PySem.Spec PyProof.Rows L2
/-- the def at g stands in the class at C under the name m, plainly read -/
structure ClsFn (K : PySem.W.Frag) (C : Addr) (m : Str) (g : Addr) : Prop where
  rd : ∃ mc, ClX.CRead K C mc ∧ ClX.CVal K C mc m (.ref g) (.ref g)
  kp : PySem.W.keepIn K (.ref g) = true
section
variable {X : Cx} {CX : CXT} {k : Nat} {C g : Addr} {sp : Sp} {E : XK} {o e : Expr} {es : List Expr} {m : Str} {pos apos : Pos} {ta : TE} {t : TA} {pl : Sem Bool}
/-- C.m(e, ..) -/
def tClsFn (C : Addr) (sp : Sp) (E : XK) (ta : TE) (t : TA) : TE := fun σ H Q => ta σ H fun x H1 => x = .ref C ∧ t σ H1 fun vs H2 => sp vs H2 Q E
theorem pe_clsfn (he : PE X o ta) (r : ClsFn X.K C m g) (F : FnR X.prog X.w X.K X.mg X.base CX k g sp) (hr : Room k X.A) (hx : Passes CX X E) (ha : PA X (e :: es) t)
    (hst : starEach (e :: es) X.env = (false, eval e X.env) :: starEach es X.env := by rfl) (hpl : (backTo pos (starEach es X.env)).any (·.1) = false := by rfl)
    (ht : eval (.Call (.Attribute o m apos) (e :: es) [] pos) X.env = (do
      let ov ← eval o X.env
      standAt apos.atName
      let (f, first) ← holding [ov] (getMethod ov m pl)
      callWith pos f first (backTo pos (starEach (e :: es) X.env)) (backToKw pos (keywordEach [] X.env))) := by rfl) :
    PE X (.Call (.Attribute o m apos) (e :: es) [] pos) (tClsFn C sp E ta t) := by
  obtain ⟨mc, rd, cv⟩ := r.rd
  constructor
  intro pins s σ H Q I h
  refine PySem.W.methodCall_KW (pl := pl) (thn (he.run pins s σ H _ I h) fun u s1 got => ?_) ht
  obtain ⟨x, H1, I1, rx, ex, q⟩ := got
  subst ex
  obtain rfl : u = Value.ref C := rx
  refine PySem.W.method_cls I1.kIn rd.ga (ClX.getcval_ok I1 rd cv fun s2 I2 => ?_)
  refine PySem.W.callWith_K (h₀ := X.base) I2.ok.mod.kin r.kp (thn (ha.run pos pins s2 σ H1 _ I2 q) fun us s3 more => ?_) hst hpl
  obtain ⟨vs, H2, I3, rv, q2⟩ := more
  exact ⟨I3.kIn, wpAny_call (run_fnR F hr hx I3 rv q2)⟩
end
end Ax
set_option maxHeartbeats 4000000
/-! == and != of instances by their class's own __eq__, whatever it answers. -/
namespace Ax
open PySem PySem.Spec PyProof.Rows L2
section
variable {X : Cx} {CX : CXT} {n : Nat} {C D f : Addr} {fd : FuncData} {ps : List Str} {sp : Sp} {E : XK} {pins : List (Addr × Obj)} {σ : L2.St} {H : Hp} {s : Shared} {Q : VK} {A : Around}
/-- a def called below the running body -/
theorem run_in {us : List Value} {vs : List V} (F : FnOk X.prog X.w X.K X.mg X.base CX n f fd ps sp) (hb : Binds X.K fd ps []) (hx : Passes CX X E) (sb : L2.Sub X n A)
    (I : Inv X pins σ H s) (r : Vals vs us) (h : sp vs H Q E) : wpAny (model X.prog X.w) A (call (.ref f) us) (EP X pins σ Q) X.xe s := by
  have e0 : Env0 X.prog X.w X.K X.mg X.base A X.stack s H := by
    obtain ⟨a1, a2, a3, a4, a5, a6, a7, a8⟩ := I.env0
    exact ⟨by rw [sb.fr]; exact a1, a2, a3, a4, a5, a6, a7, a8⟩
  have hl : us.length = ps.length := by rw [← r.length]; exact F.len _ _ _ _ h
  have bt : BindsTo s fd ⟨us, []⟩ (ps.zip us) := by
    have q := hb s us I.kIn (by rw [List.append_nil]; exact hl)
    rw [List.append_nil] at q
    exact q
  refine wpAny_call (codeAny_mono (F.run A X.stack s H ⟨us, []⟩ us vs Q E sb.room e0 bt r h) fun rr s' hq => ?_)
  cases rr with
  | error er => exact hx pins σ H s er s' I hq
  | ok fl =>
    cases fl with
    | ret u => exact I.after hq
    | next => exact hq.elim
    | brk => exact hq.elim
    | cont => exact hq.elim
/-- what the class must have -/
structure EqC (K : PySem.W.Frag) (C f : Addr) : Prop where
  eq : PySem.W.findIn K (.ref C) "__eq__" = some (some (.ref f))
  fn : PySem.W.isFn K (.ref f) = true
  ne : PySem.W.findIn K (.ref C) "__ne__" = some (some (.builtin "object.__ne__"))
  ob : PySem.W.subIn K (.ref C) (.type "object") = some true
/-- x == y by C's own __eq__, of which sp tells; y an instance of the class at D -/
def rOwnEq (K : PySem.W.Frag) (C : Addr) (sp : Sp) (E : XK) : R2 := fun x y H Q => ∃ (a b D dx dy : Addr) (fs gs : List (Str × V)), x = .ref a ∧ y = .ref b ∧ H a = some (.ins C dx fs) ∧ H b = some (.ins D dy gs) ∧ PySem.W.notFirst K C (.ref D) = true ∧
  sp [x, y] H (fun v H' => ∃ k, v = .bl k ∧ Q (.bl k) H') E
def rOwnNe (K : PySem.W.Frag) (C : Addr) (sp : Sp) (E : XK) : R2 := fun x y H Q => ∃ (a b D dx dy : Addr) (fs gs : List (Str × V)), x = .ref a ∧ y = .ref b ∧ H a = some (.ins C dx fs) ∧ H b = some (.ins D dy gs) ∧ PySem.W.notFirst K C (.ref D) = true ∧
  sp [x, y] H (fun v H' => ∃ k, v = .bl k ∧ Q (.bl (!k)) H') E
theorem op_ownEq (F : FnOk X.prog X.w X.K X.mg X.base CX n f fd ps sp) (hb : Binds X.K fd ps []) (hx : Passes CX X E) (hr : Room n X.A) (c : EqC X.K C f) : OpR X (compareOp .Eq) (rOwnEq X.K C sp E) := by
  intro pins s σ H x y v u Q I rx ry h
  obtain ⟨a, b, D, dx, dy, fs, gs, rfl, rfl, ha, hb', hn, hq⟩ := h
  obtain rfl : v = Value.ref a := rx
  obtain rfl : u = Value.ref b := ry
  obtain ⟨m1, J, _⟩ := ins_get I.hok ha
  obtain ⟨m2, J', _⟩ := ins_get I.hok hb'
  obtain ⟨od, J, _⟩ := J.look
  obtain ⟨od', J', _⟩ := J'.look
  obtain ⟨m, hF⟩ := I.fr
  show wpAny _ _ (richCompare .Eq _ _) _ _ _
  refine PySem.W.cmp_K (op := .Eq) hr.units0 hF I.ok.mod.kin J J'.type hn c.eq c.fn ?_
  refine wpAny_mono (run_in (us := [.ref a, .ref b]) (vs := [V.ref a, V.ref b]) F hb hx ⟨hr, rfl⟩ I (.cons rfl (.cons rfl .nil)) hq) (fun w s' z => ?_) fun _ _ z => z
  obtain ⟨v, H', I', rv, k, ev, q⟩ := z
  subst ev
  obtain rfl : w = Value.bool k := rv
  exact ⟨.bl k, H', I', rfl, q⟩
theorem arg_ne (p q : Value) : argsOk "object.__ne__" ⟨[p, q], []⟩ := PySem.F.cmpArgs_ne p q
theorem op_ownNe (F : FnOk X.prog X.w X.K X.mg X.base CX n f fd ps sp) (hb : Binds X.K fd ps []) (hx : Passes CX X E) (hr : Room (n + 1) X.A) (c : EqC X.K C f) : OpR X (compareOp .NotEq) (rOwnNe X.K C sp E) := by
  intro pins s σ H x y v u Q I rx ry h
  obtain ⟨a, b, D, dx, dy, fs, gs, rfl, rfl, ha, hb', hn, hq⟩ := h
  obtain rfl : v = Value.ref a := rx
  obtain rfl : u = Value.ref b := ry
  obtain ⟨m1, J, _⟩ := ins_get I.hok ha
  obtain ⟨m2, J', _⟩ := ins_get I.hok hb'
  obtain ⟨od, J, _⟩ := J.look
  obtain ⟨od', J', _⟩ := J'.look
  have Xk := I.kIn
  -- the own __eq__, asked by object.__ne__
  have inner : wpAny (model X.prog X.w) X.A.in1 (callSpecialIfBound? (.ref a) "__eq__" [.ref b]) (fun r s' => ∃ k H', r = some (.bool k) ∧ Inv X pins σ H' s' ∧ Q (.bl (!k)) H') X.xe s := by
    refine PySem.W.ifBound_K Xk J c.eq c.fn ?_
    refine wpAny_mono (run_in (us := [.ref a, .ref b]) (vs := [V.ref a, V.ref b]) F hb hx ⟨hr.in1, rfl⟩ I (.cons rfl (.cons rfl .nil)) hq) (fun w s' z => ?_) fun _ _ z => z
    obtain ⟨v, H', I', rv, k, ev, q⟩ := z
    subst ev
    obtain rfl : w = Value.bool k := rv
    exact ⟨k, H', rfl, I', q⟩
  have body : wpAny (model X.prog X.w) X.A.in1 (Builtin.«object.__ne__» ⟨[.ref a, .ref b], []⟩) (fun r s' => ∃ k H', r = .done (.ret (.bool (!k))) ∧ Inv X pins σ H' s' ∧ Q (.bl (!k)) H') X.xe s := by
    unfold Builtin.«object.__ne__»
    repeat (first
      | with_reducible refine wpAny_cRoomFor hr.in1.units0 ?_
      | (refine wpAny_bind (m := callSpecialIfBound? (.ref a) (Str.ofString "__eq__") [.ref b]) (wpAny_mono inner (fun r s' z => ?_) fun _ _ z => z)
         obtain ⟨k, H', er, I', q⟩ := z
         subst er
         repeat (first | exact ⟨k, H', rfl, I', q⟩ | exact wpAny_pure ⟨k, H', rfl, I', q⟩ | (refine wpAny_bind (m := truthy (.bool _)) (wpAny_truthy_bool ?_)) | wp_step))
      | wp_step)
  have obj : PySem.W.Looks (model X.prog X.w) s.heap (isInstance (.ref a) (.type "object")) true := J.type.andThen (PySem.W.looks_subIn Xk c.ob)
  have callNe : wpAny (model X.prog X.w) X.A (call (.builtin "object.__ne__") [.ref a, .ref b]) (fun r s' => ∃ k H', r = .bool (!k) ∧ Inv X pins σ H' s' ∧ Q (.bl (!k)) H') X.xe s := by
    refine wpAny_call (codeAny_call_builtin PySem.F.cmp_object.ne.plain PySem.F.cmpEntry_ne (PySem.W.check_slot PySem.F.cmpKind_ne PySem.F.cmpSplit_ne obj (arg_ne _ _) (wpAny_mono body (fun r s' z => ?_) fun _ _ z => z)))
    obtain ⟨k, H', er, I', q⟩ := z
    subst er
    exact ⟨k, H', rfl, I', q⟩
  have bound : wpAny (model X.prog X.w) X.A (callSpecialIfBound? (.ref a) "__ne__" [.ref b]) (fun r s' => ∃ k H', r = some (.bool (!k)) ∧ Inv X pins σ H' s' ∧ Q (.bl (!k)) H') X.xe s := by
    simp only [callSpecialIfBound?, bindSpecialIfBound?]
    refine wpAny_holding (wpAny_bind (wpAny_bind (wpAny_bind (J.type.here ((PySem.W.looks_findIn Xk c.ne).here ?_)))))
    simp only [PySem.F.cmp_object.ne.bind]
    refine wpAny_bind (wpAny_askSetting (wpAny_ite ?_))
    have fin : wpAny (model X.prog X.w) X.A (call (.builtin "object.__ne__") ([.ref a] ++ [.ref b]) >>= fun v => pure (some v)) (fun r s' => ∃ k H', r = some (.bool (!k)) ∧ Inv X pins σ H' s' ∧ Q (.bl (!k)) H') X.xe s :=
      wpAny_bind (wpAny_mono callNe (fun v s' z => by
        obtain ⟨k, H', er, I', q⟩ := z
        subst er
        exact wpAny_pure ⟨k, H', rfl, I', q⟩) fun _ _ z => z)
    split
    · exact wpAny_bind (wpAny_pure (wpAny_pure fin))
    · exact wpAny_tryCatch (wpAny_bind (wpAny_pure (wpAny_pure fin)))
  show wpAny _ _ (richCompare .NotEq _ _) _ _ _
  have one : wpAny (model X.prog X.w) X.A (tryCompare (.ref a) "__ne__" (.ref b)) (fun r s' => ∃ k H', r = some (.bool (!k)) ∧ Inv X pins σ H' s' ∧ Q (.bl (!k)) H') X.xe s := by
    unfold tryCompare
    refine wpAny_bind (wpAny_mono bound (fun r s' z => ?_) fun _ _ z => z)
    obtain ⟨k, H', er, I', q⟩ := z
    subst er
    exact wpAny_pure ⟨k, H', rfl, I', q⟩
  have fin : ∀ {r : Option Value} {s' : Shared}, (∃ k H', r = some (.bool (!k)) ∧ Inv X pins σ H' s' ∧ Q (.bl (!k)) H') → ∃ v, r = some v ∧ EP X pins σ Q v s' := fun {r s'} z => by
    obtain ⟨k, H', er, I', q⟩ := z
    exact ⟨_, er, .bl (!k), H', I', rfl, q⟩
  unfold richCompare
  simp only [oneThing_ref]
  refine wpAny_holding (wpAny_bind (wpAny_cRoomFor hr.units0 ?_))
  refine wpAny_bind (J.type.here (wpAny_bind (J'.type.here ?_)))
  split
  · rename_i q
    have e : PySem.W.subIn X.K (.ref D) (.ref C) = some false := by
      rcases Bool.or_eq_true_iff.mp hn with e | e
      · rw [beq_iff_eq.mp e] at q
        simp at q
      · exact beq_iff_eq.mp e
    refine wpAny_bind ((PySem.W.looks_subIn Xk e).here ?_)
    simp only [Bool.false_eq_true, if_false]
    refine wpAny_bind (wpAny_mono one (fun r s' z => ?_) fun _ _ e => e)
    obtain ⟨v, rfl, hq⟩ := fin z
    exact wpAny_pure hq
  · refine wpAny_bind (wpAny_pure ?_)
    simp only [Bool.false_eq_true, if_false]
    refine wpAny_bind (wpAny_mono one (fun r s' z => ?_) fun _ _ e => e)
    obtain ⟨v, rfl, hq⟩ := fin z
    exact wpAny_pure hq
end
end Ax
set_option maxHeartbeats 4000000
/-! for x in o, o an instance whose __iter__ is «return iter(self.f)», self.f a tuple. -/
namespace Ax
open PySem PySem.Spec PyProof.Rows L2
/-! ### a def run once, at a given state -/
section
variable {CX : CXT} {P : Program} {w : World} {K : PySem.W.Frag} {mg : Str → Option Value} {base : Heap} {k : Nat} {f : Addr} {name qual : Str} {params : Arguments} {body : List Stmt} {scope : Scope} {dV kV doc pm cdv ct oc : Value} {an od : Option Addr}
  {osl : Array (Option Value)} {N ps : List Str} {A : Around} {outer : List Env} {s : Shared} {H : Hp} {us : List Value} {vs : List V} {Q : VK} {E : XK}
theorem run_at (lk : K.lookup f = some ⟨oc, od, .func (PySem.W.fnOf name qual params body scope dV kV doc pm an cdv ct), osl⟩) (hcd : PySem.W.codeIn K cdv qual = true) (S : FnScope N ps scope) (hr : Room (k + 1) A)
    (e0 : Env0 P w K mg base A outer s H) (hb : BindsTo s (PySem.W.fnOf name qual params body scope dV kV doc pm an cdv ct) ⟨us, []⟩ (ps.zip us)) (hl : vs.length = ps.length) (r : Vals vs us)
    (hbody : Room k (A.deeper (envOfC qual scope s.heap.objs.size f cdv)) → ∃ t, PSs (cxOf CX P w K mg base N qual scope f cdv A outer s H E) body t ∧ t { nx := fun _ H' => Q .non H', rt := Q } (start N vs) H) :
    codeAny (model P w) A (.call (.ref f) ⟨us, []⟩) (CR CX outer P w H s Q E) s := by
  have kin : K.In s.heap := e0.mod.kin.keeps fun b o e => (e0.bs b o e).1
  have nolim : s.heap.NoLimit := e0.mod.nolimit.keeps fun b o e => (e0.bs b o e).1
  refine codeAny_call_function hr.depth (kin _ _ lk) rfl S.co S.gen rfl (PySem.W.codeRec_of kin hcd) (hb _ _ _ _ ?_)
  refine wpAny_newFunctionEnv_cells S.kind (fun y hy => ?_) fun env he s1 x => ?_
  · have hm : y.1 ∈ ps := (List.of_mem_zip hy).1
    cases S.par y.1 hm with
    | inl q => exact .inl q
    | inr q => exact .inr ⟨q, PySem.W.cellsFrom_some _ _ _ (.inl q)⟩
  subst he
  refine ⟨nolim.keeps x.toInCall.keep, codeAny_func ?_⟩
  obtain ⟨t, ht, hq⟩ := hbody (hr.deeper _)
  have I : Inv (cxOf CX P w K mg base N qual scope f cdv A outer s H E) [] (start N vs) H s1 := inv_start S hr.hd e0 hl r x
  refine wpAny_mono (ht.run [] s1 (start N vs) H _ I hq) (fun fl s' hs => ?_) fun _ _ z => z
  cases fl with
  | ret u =>
    obtain ⟨v, _, H', J, rv, q⟩ := hs
    exact ⟨v, H', J.os, J.bare, J.base, J.hok, rv, q⟩
  | next =>
    obtain ⟨_, H', J, q⟩ := hs
    exact ⟨.non, H', J.os, J.bare, J.base, J.hok, rfl, q⟩
  | brk =>
    obtain ⟨_, _, _, q⟩ := hs
    exact q.elim
  | cont =>
    obtain ⟨_, _, _, q⟩ := hs
    exact q.elim
end
/-! ### iter(t), t a tuple -/
/-- at it: an iterator over the tuple at t, at its beginning -/
def ItTup (t it : Addr) : HO := .ext fun h => h.IsTupleIter it t 0
theorem itTup_ok {P : Program} {w : World} {H : Hp} {h : Heap} {t it : Addr} (e : h.IsTupleIter it t 0) : ObjOk P w H h it (ItTup t it) := by
  obtain ⟨o, ho, hc, hd⟩ := id e
  exact ⟨e, ⟨o, ho⟩, fun h1 h2 x k => let ⟨o, ho, r⟩ := x; ⟨o, k o ho, r⟩⟩
def rIterT (K : PySem.W.Frag) (n : Nat) : List V → Hp → VK → Prop := fun xs H Q => ∃ (t : Addr) (zs : List V), xs = [.ref t] ∧ SqT K H t zs ∧ ∀ it, H it = Option.none → n ≤ it → Q (.ref it) (upd H it (ItTup t it))
theorem call_iterT {X : Cx} : CallR X (.builtin "iter") (rIterT X.K X.s_0.heap.objs.size) := by
  intro pins s σ H xs us Q I r h
  obtain ⟨t, zs, rfl, hq, q⟩ := h
  obtain ⟨u, rfl, ru⟩ := vals1 r
  obtain rfl : u = Value.ref t := ru
  obtain ⟨its, rv, p, hz⟩ := I.tuple hq
  refine Calls.call_function_entry (by decide +kernel) (by decide +kernel) PySem.W.kdk_entry_iter (PySem.W.kdk_args_iter _) ?_
  unfold Builtin.«iter»
  refine wpAny_bind (m := someArgs "iter" 1 2 _) (wpAny_of_eq (a := [Value.ref t]) (by first | rfl | kernel_rfl!) ?_)
  show wpAny _ _ (pyIter (.ref t) >>= _) _ _ _
  refine wpAny_bind (PyProof.Rows.iter_tuple (t := t) (items := its.toArray) p ?_)
  exact wpAny_pure ⟨_, rfl, .ref s.heap.objs.size, _, I.laid (t' := s.toks) (fun b u e => Heap.get?_push_of_some _ e) (Nat.le_refl _) (itTup_ok ⟨_, Heap.get?_push_size _ rfl, rfl, rfl⟩), rfl, q _ (I.hok.fresh (Nat.le_refl _)) I.sz⟩
/-! ### the walk -/
/-- C's __iter__ stands at f; its body is read so, wherever it runs -/
structure IterC (P : Program) (w : World) (K : PySem.W.Frag) (mg : Str → Option Value) (base : Heap) (C f : Addr) (fld : Str) : Prop where
  cl : Cls K C
  no : NoAttr K C fld
  it : PySem.W.findIn K (.ref C) "__iter__" = some (some (.ref f))
  fn : PySem.W.isFn K (.ref f) = true
  ex : ∃ (fd : FuncData) (name qual : Str) (params : Arguments) (body : List Stmt) (scope : Scope) (dV kV doc pm cdv ct oc : Value) (an od : Option Addr) (osl : Array (Option Value)),
    fd = PySem.W.fnOf name qual params body scope dV kV doc pm an cdv ct ∧ K.lookup f = some ⟨oc, od, .func fd, osl⟩ ∧ PySem.W.codeIn K cdv qual = true ∧ FnScope ["self"] ["self"] scope ∧
    (∀ (s : Shared) (u : Value), BindsTo s fd ⟨[u], []⟩ [("self", u)]) ∧
    ∀ (A : Around) (outer : List Env) (s : Shared) (H : Hp), PSs (cxOf CX0 P w K mg base ["self"] qual scope f cdv A outer s H E0) body (tRet (tCB (rIterT K s.heap.objs.size) (tCons (tFld K (tVar 0) fld) tNil)))
def iOwn (K : PySem.W.Frag) (C : Addr) (fld : Str) (to : TE) : TI := fun σ H R => to σ H fun x H1 => ∃ (a dx t : Addr) (fs : List (Str × V)), x = .ref a ∧ H1 a = some (.ins C dx fs) ∧ fs.lookup fld = some (.ref t) ∧ (∃ xs, SqT K H1 t xs) ∧ R (Itt K t) H1
section
variable {X : Cx} {o : Expr} {to : TE} {tg : Expr} {C f : Addr} {fld : Str}
theorem pi_own (he : PE X o to) (c : IterC X.prog X.w X.K X.mg X.base C f fld) (hr : Room 1 X.A) : PI X tg o (iOwn X.K C fld to) := by
  obtain ⟨fd, name, qual, params, body, scope, dV, kV, doc, pm, cdv, ct, oc, an, od, osl, rfl, lk, hcd, S, hb, hB⟩ := c.ex
  constructor
  intro pins s σ H R I h
  refine thn (he.run pins s σ H _ I h) fun u s1 got => ?_
  obtain ⟨x, H1, I1, rx, a, dx, t, fs, rfl, ha, hl, ⟨xs, hq⟩, q⟩ := got
  obtain rfl : u = Value.ref a := rx
  obtain ⟨mA, J, _⟩ := ins_get I1.hok ha
  obtain ⟨od', J, _⟩ := J.look
  obtain ⟨m, hF⟩ := I1.fr
  refine PySem.W.owit_iter hF I1.ok.mod.kin J c.it c.fn ?_
  have body_ : codeAny (model X.prog X.w) X.A (.call (.ref f) ⟨[.ref a], []⟩) (CR CX0 X.stack X.prog X.w H1 s1 (fun v H' => ∃ it, v = .ref it ∧ H' = upd H1 it (ItTup t it) ∧ H1 it = none ∧ s1.heap.objs.size ≤ it) E0) s1 := by
    refine run_at (k := 0) (us := [.ref a]) (vs := [V.ref a]) (ps := ["self"]) lk hcd S hr I1.env0 (hb _ _) rfl (.cons rfl .nil) (fun _ => ⟨_, hB X.A X.stack s1 H1, ?_⟩)
    refine ⟨_, rfl, a, C, dx, fs, _, rfl, ha, c.cl, c.no, hl, t, xs, rfl, hq, fun it hit hn => ?_⟩
    exact ⟨it, rfl, rfl, hit, hn⟩
  refine wpAny_call (codeAny_mono body_ fun rr s' hq' => ?_)
  cases rr with
  | error e => exact hq'.elim
  | ok fl =>
    cases fl with
    | next => exact hq'.elim
    | brk => exact hq'.elim
    | cont => exact hq'.elim
    | ret v =>
      obtain ⟨z, H', J', rz, it, ez, eH, hn, hsz⟩ := I1.after hq'
      subst ez
      subst eH
      obtain rfl : v = Value.ref it := rz
      have st : s'.heap.IsTupleIter it t 0 := (J'.hok it _ upd_same).1
      have K1 : Inv X pins σ H1 s' := by
        have z := ItX.inv_drop (φ := fun h => h.IsTupleIter it t 0) J' upd_same
        rw [ItX.dropH_upd hn] at z
        exact z
      unfold PySem.W.OwitIt
      obtain ⟨o', ho', hc', hd'⟩ := id st
      refine wpAny_specialOf (T := "tuple_iterator") ⟨o', ho', hc'⟩ PyProof.Rows.slot_tupleiter_next.lookup ?_
      refine ⟨it, [it], _, _, H1, rfl, K1, turn_tuple t it, st, fun b hb' => ?_, q⟩
      have e : b = it := by simpa using hb'
      rw [e]
      exact I1.fpOk hsz hn
end
end Ax
set_option maxHeartbeats 4000000
/-! try: .. with several clauses «except C as n:». -/
namespace Ax
open PySem PySem.Spec PyProof.Rows L2
/-- one clause: the class that it names, the slot of its name, its suite's reading -/
structure Cl where
  c : Value
  i : Nat
  ts : Addr → Value → Option Addr → TS
/-- behind a suite the clause's name is gone -/
def gone (D : Ends) (i : Nat) : Ends := { nx := fun σ H => D.nx (σ.set i Option.none) H, rt := D.rt, bk := fun σ H => D.bk (σ.set i Option.none) H, ct := fun σ H => D.ct (σ.set i Option.none) H }
def wCls (K : PySem.W.Frag) (Wout : WX) (D : Ends) : List Cl → WX
  | [] => Wout
  | k :: r => fun cls d σ H => ∃ b, PySem.W.exmOne K cls k.c = some b ∧ (b = true → ∀ a, H a = Option.none → k.ts a cls d (gone D k.i) (σ.set k.i (some (.ref a))) H) ∧ (b = false → wCls K Wout D r cls d σ H)
inductive ClsOk (X : Cx) : List ExceptHandler → List Cl → Prop
  | nil : ClsOk X [] []
  | cons {x n : Str} {k : Cl} {b0 : Stmt} {suite : List Stmt} {np pos : Pos} {hs : List ExceptHandler} {l : List Cl} (hc : Names X x k.c) (hi : X.N[k.i]? = some n) (hn : X.env.kindOf n = some .local)
      (hsu : ∀ (a : Addr) (oe : Obj) (cls : Value) (d : Option Addr) (pn : List (Addr × Obj)), Zc cls d oe → (∃ vs, oe.data = .fields vs) → PSs (X.suite a ((a, oe) :: pn)) (b0 :: suite) (k.ts a cls d))
      (r : ClsOk X hs l) : ClsOk X (.ExceptHandler (some (.Name x np)) (some n) (b0 :: suite) pos :: hs) (k :: l)
section
variable {X : Cx} {body : List Stmt} {h0 : ExceptHandler} {hs : List ExceptHandler} {l : List Cl} {pos : Pos} {tb : WX → TS} {Wout : WX}
theorem ps_try_cls (hst : X.stack = X.env :: X.outer) (hfr : X.env.frame = some X.env.locals) (hN : X.N.Nodup) (tk : Takes X Wout)
    (hb : ∀ (W : WX) (pn : List (Addr × Obj)) (xe : Value → Shared → Prop), Takes (X.tr pn xe) W → PassesOwn (model X.prog X.w) X.A X.env xe → PSs (X.tr pn xe) body (tb W))
    (hh : ClsOk X (h0 :: hs) l) : PS X (.Try body (h0 :: hs) [] [] pos) (fun D σ H => tb (wCls X.K Wout D l) D σ H) := by
  constructor
  intro pins s σ H D I h
  have ok := I.ok
  have frames : X.A.frames = some (X.env :: X.outer) := by rw [ok.frames, hst]
  refine wpAny_Try_except ?_
  refine wpAny_mono ((hb (wCls X.K Wout D l) (X.pn ++ pins) _ (fun e s' xx => ?_) PassesOwn.looking).run [] s σ H D (I.toTry _) h) (fun f s1 done => ?_) (fun e s1 he => he)
  · obtain ⟨a, B, sI, pins', σ', H', cls, d, rfl, J', nb, up, sky, na, os, ag, w⟩ := xx
    have J : Inv X pins σ' H' sI := J'.ofTry ok
    rw [hst] at sky
    show wpAny (model X.prog X.w) X.A (noteFrame (.ref a) X.env) _ _ _
    refine Sky.land Zc.steady frames hfr sky fun h3 fl3 up3 => ?_
    obtain ⟨oe3, vs3, he3, hz3, hd3⟩ := fl3.there
    have noFrame : a ∉ frs (X.env :: X.outer) := fun hm => by
      obtain ⟨_, o', e', hnf⟩ := (fl3.2.2.1 : h3.FunFrames B (X.env :: X.outer)).mem hm
      rw [he3] at e'
      cases e'
      exact hnf _ hd3
    have nL : a ≠ X.env.locals := fun z => noFrame (List.mem_filterMap.mpr ⟨X.env, List.mem_cons_self, by rw [hfr, z]⟩)
    have nF : a ∉ X.fs := fun hm => by
      obtain ⟨e, he, q⟩ := List.mem_filterMap.mp hm
      exact noFrame (List.mem_filterMap.mpr ⟨e, List.mem_cons_of_mem _ he, q⟩)
    have J3 : Inv X pins σ' H' { s' with heap := h3 } := J.landed nb fl3.1 (up.trans up3) os ag
    have S3 := J3.suite he3 hd3 na nL nF
    -- clause by clause
    have go : ∀ {hs' : List ExceptHandler} {l' : List Cl}, ClsOk X hs' l' → wCls X.K Wout D l' cls d σ' H' → wpAny (model X.prog X.w) X.A (handleBy (.ref a) X.env hs') (SP X pins D) X.xe { s' with heap := h3 } := by
      intro hs' l' ck
      induction ck with
      | nil =>
        intro w
        refine wpAny_handleBy_nil ?_
        obtain ⟨k1, k2, k3, oe, vs, T, oT, ts', he, hz, hd, h1, hr⟩ := id fl3
        unfold PySem.passOn
        refine wpAny_bind (wpAny_field he hd h1 ?_)
        rw [if_neg (show ¬ ((Value.ref T == Value.none) = true) from by simp)]
        have out : wpAny (model X.prog X.w) X.A (setFlight (.ref a) X.env.frame) (fun _ s4 => wpAny (model X.prog X.w) X.A (throw (.ref a) : Sem Flow) (SP X pins D) X.xe s4) X.xe { s' with heap := h3 } := by
          rw [hfr]
          refine HandSPX.setFlight_upZ fl3 fun h4 hh4 up4 => wpAny_throw (tk _ _ ?_)
          exact ⟨a, B, sI, pins, σ', H', cls, d, rfl, J, nb, (up.trans up3).trans up4, .inr (.inr (by rw [hst]; exact hh4)), na, os, ag, w⟩
        first
          | exact wpAny_bind (wpAny_pure (wpAny_bind out))
          | exact wpAny_bind out
      | @cons x n k b0 suite np pos' hs2 l2 hc hi hn hsu r ih =>
        intro w
        obtain ⟨b, hb1, yes, no⟩ := w
        refine wpAny_handleBy_cons (codeAny_handlers_test ?_) (by intro q; cases q)
        have T1 : PySem.W.Looks (model X.prog X.w) h3 (typeOf (.ref a)) cls := fun A Q E s kk q => wpAny_typeOf_ref (kk _ _ he3) (by rw [hz3.1]; exact q)
        have T2 := PySem.W.exm_one (M := model X.prog X.w) J3.kIn T1 hb1
        have ask : ∀ {Q : Value → Shared → Prop} {E : Value → Shared → Prop}, Q k.c { s' with heap := h3 } → wpAny (model X.prog X.w) (X.A.mark (some (.ref a))) (eval (.Name x np) X.env) Q E { s' with heap := h3 } := fun {Q E} q => by
          obtain ⟨g1, g2, g3⟩ := hc
          cases g3 with
          | inl hm => exact ld_glob (X := X.suite a ((a, oe3) :: (X.pn ++ pins))) S3 g1 hm q g2
          | inr hm => exact ld_blt (X := X.suite a ((a, oe3) :: (X.pn ++ pins))) S3 g1 hm.1 hm.2.1 q hm.2.2 g2
        refine ask (T2.here ?_)
        cases b with
        | false =>
          show wpAny _ X.A (handleBy (.ref a) X.env hs2) _ _ _
          exact ih (no rfl)
        | true =>
          refine codeAny_handlers_suite_as ?_
          refine HandSPX.lands_againZ fl3 fun h4 fl4 up4 => ?_
          obtain ⟨oe4, vs4, he4, hz4, hd4⟩ := fl4.there
          have J4 : Inv X pins σ' H' { s' with heap := h4 } := J.landed nb fl4.1 ((up.trans up3).trans up4) os ag
          have S4 := J4.suite he4 hd4 na nL nF
          refine store_ok (X := X.suite a ((a, oe4) :: (X.pn ++ pins))) (v := .ref a) S4 hN hi (.inl hn) rfl (fun s5 S5 => ?_) (.inr hn)
          refine wpAny_mono ((hsu a oe4 cls d (X.pn ++ pins) hz4 ⟨_, hd4⟩).run [] s5 _ H' (gone D k.i) S5 (yes rfl a na)) (fun f s6 res => ?_) (fun _ _ z => z.elim)
          have fin : ∀ {σ6 : L2.St} {H6 : Hp} {Q : Shared → Prop}, Inv (X.suite a ((a, oe4) :: (X.pn ++ pins))) [] σ6 H6 s6 → (∀ s7, Inv X pins (σ6.set k.i Option.none) H6 s7 → Q s7) →
              wpAny (model X.prog X.w) X.A (do bindName X.env n .none; unbindBehindTheSuite X.env n pos') (fun _ s7 => Q s7) X.xe s6 := fun {σ6 H6 Q} S6 hq => gone_ok (S6.unsuite ok) hN hi hn hq
          cases f with
          | next =>
            obtain ⟨σ6, H6, S6, q6⟩ := res
            exact fin S6 fun s7 J7 => ⟨_, _, J7, q6⟩
          | brk =>
            obtain ⟨σ6, H6, S6, q6⟩ := res
            exact fin S6 fun s7 J7 => ⟨_, _, J7, q6⟩
          | cont =>
            obtain ⟨σ6, H6, S6, q6⟩ := res
            exact fin S6 fun s7 J7 => ⟨_, _, J7, q6⟩
          | ret u =>
            obtain ⟨v6, σ6, H6, S6, r6, q6⟩ := res
            exact fin S6 fun s7 J7 => ⟨_, _, _, J7, r6, q6⟩
    exact go hh w
  · cases f with
    | next =>
      obtain ⟨σ', H', J', q⟩ := done
      exact wpAny_execs_nil ⟨σ', H', J'.ofTry ok, q⟩
    | brk =>
      obtain ⟨σ', H', J', q⟩ := done
      exact ⟨σ', H', J'.ofTry ok, q⟩
    | cont =>
      obtain ⟨σ', H', J', q⟩ := done
      exact ⟨σ', H', J'.ofTry ok, q⟩
    | ret u =>
      obtain ⟨v, σ', H', J', r, q⟩ := done
      exact ⟨v, σ', H', J'.ofTry ok, r, q⟩
end
end Ax
set_option maxHeartbeats 4000000
/-! Defs as they are called: a promise with where the def stands. -/
namespace Ax
open PySem PySem.Spec PyProof.Rows L2
/-- the def of the module's name x keeps sp -/
def Dn (P : Program) (w : World) (K : PySem.W.Frag) (mg : Str → Option Value) (base : Heap) (CX : CXT) (k : Nat) (x : Str) (ps : List Str) (sp : Sp) : Prop :=
  ∃ (f : Addr) (fd : FuncData), FnOk P w K mg base CX k f fd ps sp ∧ mg x = some (.ref f) ∧ PySem.W.keepIn K (.ref f) = true ∧ Binds K fd ps []
/-- the class of the module's name x: its __init__ keeps sp -/
def Dc (P : Program) (w : World) (K : PySem.W.Frag) (mg : Str → Option Value) (base : Heap) (CX : CXT) (k : Nat) (x : Str) (ps : List Str) (sp : Sp) : Prop :=
  ∃ (f : Addr) (fd : FuncData), FnOk P w K mg base CX k f fd ps sp ∧ mg x = some (.ref (He.ga K x)) ∧ Mk K (He.ga K x) f ∧ Binds K fd ps []
section
variable {X : Cx} {CX : CXT} {k : Nat} {ps : List Str} {sp : Sp} {E : XK} {x : Str} {p pos : Pos} {e : Expr} {es : List Expr} {t : TA}
theorem pe_dn (D : Dn X.prog X.w X.K X.mg X.base CX k x ps sp) (hr : Room k X.A) (hg : Gl X x) (hx : Passes CX X E) (ha : PA X (e :: es) t) (hdb : (x == ("__debug__" : Str)) = false := by decide)
    (he : starEach (e :: es) X.env = (false, eval e X.env) :: starEach es X.env := by rfl) (hpl : (backTo pos (starEach es X.env)).any (·.1) = false := by rfl) :
    PE X (.Call (.Name x p) (e :: es) [] pos) (tCall sp [] E t) := by
  obtain ⟨f, fd, F, hm, hk, hb⟩ := D
  exact pe_call F hr hg hm hk hb .nil hx ha hdb he hpl
theorem pe_dnS {E : L2.St → XK} (D : Dn X.prog X.w X.K X.mg X.base CX k x ps sp) (hr : Room k X.A) (hg : Gl X x) (hx : ∀ σ, PassesAt CX X σ (E σ)) (ha : PA X (e :: es) t) (hdb : (x == ("__debug__" : Str)) = false := by decide)
    (he : starEach (e :: es) X.env = (false, eval e X.env) :: starEach es X.env := by rfl) (hpl : (backTo pos (starEach es X.env)).any (·.1) = false := by rfl) :
    PE X (.Call (.Name x p) (e :: es) [] pos) (tCallS sp E t) := by
  obtain ⟨f, fd, F, hm, hk, hb⟩ := D
  exact pe_callS F hr hg hm hk hb hx ha hdb he hpl
theorem pe_dc (D : Dc X.prog X.w X.K X.mg X.base CX k x ps sp) (hr : Room (k + 1) X.A) (hg : Gl X x) (hx : Passes CX X E) (ha : PA X (e :: es) t) (hdb : (x == ("__debug__" : Str)) = false := by decide)
    (he : starEach (e :: es) X.env = (false, eval e X.env) :: starEach es X.env := by rfl) (hpl : (backTo pos (starEach es X.env)).any (·.1) = false := by rfl) :
    PE X (.Call (.Name x p) (e :: es) [] pos) (tMake (He.ga X.K x) sp [] E t) := by
  obtain ⟨f, fd, F, hm, hk, hb⟩ := D
  exact pe_make hk F hr hg hm hb .nil hx ha hdb he hpl
end
section
variable {P : Program} {w : World} {K : PySem.W.Frag} {mg : Str → Option Value} {base : Heap} {CX : CXT} {k : Nat} {x : Str} {ps : List Str} {sp sp' : Sp}
theorem Dn.mono {j : Nat} (D : Dn P w K mg base CX j x ps sp) (h : j ≤ k) : Dn P w K mg base CX k x ps sp := let ⟨f, fd, F, a, b, c⟩ := D; ⟨f, fd, F.mono h, a, b, c⟩
theorem Dn.imp (D : Dn P w K mg base CX k x ps sp) (h : ∀ vs H Q E, sp' vs H Q E → sp vs H Q E) : Dn P w K mg base CX k x ps sp' := let ⟨f, fd, F, a, b, c⟩ := D; ⟨f, fd, F.imp h, a, b, c⟩
theorem Dc.mono {j : Nat} (D : Dc P w K mg base CX j x ps sp) (h : j ≤ k) : Dc P w K mg base CX k x ps sp := let ⟨f, fd, F, a, b, c⟩ := D; ⟨f, fd, F.mono h, a, b, c⟩
end
/-! ### what grows beside the rest -/
theorem ext_del {H : Hp} {D : Addr} : Ext (del H D) H := fun a o h => by
  by_cases c : a = D
  · rw [c, del_same] at h
    cases h
  · rw [del_ne c] at h
    exact h
theorem ext_delD {H H' : Hp} {D : Addr} (e : Ext H H') : Ext (del H D) (del H' D) := fun a o h => by
  by_cases c : a = D
  · rw [c, del_same] at h
    cases h
  · rw [del_ne c] at h ⊢
    exact e a o h
theorem del_none {H : Hp} {D : Addr} (h : H D = none) : del H D = H := funext fun a => by
  by_cases c : a = D
  · rw [c, del_same, h]
  · rw [del_ne c]
theorem del_upd {H : Hp} {D : Addr} {o : HO} : del (upd H D o) D = del H D := funext fun a => by
  by_cases c : a = D
  · rw [c, del_same, del_same]
  · rw [del_ne c, del_ne c, upd_ne c]
theorem ext_upd_of {H B : Hp} {D : Addr} {o : HO} (e : Ext B H) (h : B D = none) : Ext B (upd H D o) := fun a u q => by
  rw [upd_ne (ne_of_none q h)]
  exact e a u q
theorem ext_del_of {H B : Hp} {D : Addr} (e : Ext B H) (h : B D = none) : Ext B (del H D) := fun a u q => by
  rw [del_ne (ne_of_none q h)]
  exact e a u q
theorem yes_go {σ : L2.St} {H : Hp} {Q : Bool → Hp → Prop} (h : Q true H) : tYes σ H Q := h
section
variable {J : It} {n : Nat} {G : Hp → Prop} {Y : Nat → Hp → V → Hp → Prop}
def Pacc (R : Nat → List V → Hp → Prop) (D : Addr) (i : Nat) (H : Hp) : Prop := ∃ acc, H D = some (.lst acc) ∧ acc.length ≤ i ∧ R i acc (del H D)
theorem acc_add {R : Nat → List V → Hp → Prop} {D : Addr} {i : Nat} {H : Hp} {acc : List V} {y : V} (h : H D = some (.lst acc)) (hl : acc.length ≤ i) (hi : i < sizeLine) (r : R (i + 1) (acc ++ [y]) (del H D)) :
    ∃ acc, H D = some (.lst acc) ∧ acc.length < sizeLine ∧ Pacc R D (i + 1) (upd H D (.lst (acc ++ [y]))) :=
  ⟨acc, h, by omega, acc ++ [y], upd_same, by simp; omega, by rw [del_upd]; exact r⟩
theorem acc_skip {R : Nat → List V → Hp → Prop} {D : Addr} {i : Nat} {H : Hp} {acc : List V} (h : H D = some (.lst acc)) (hl : acc.length ≤ i) (r : R (i + 1) acc (del H D)) : Pacc R D (i + 1) H := ⟨acc, h, by omega, r⟩
/-- a comprehension whose new list is told apart from the rest -/
theorem lc_acc (w : Walk J n G Y) {g : TG} {tt : TT} {te : TE} {vs : List Nat} {σ : L2.St} {H1 : Hp} {D : Addr} {Qd : Hp → Prop} (hD : H1 D = none) (R : Nat → List V → Hp → Prop) (r0 : R 0 [] H1)
    (hG : ∀ i acc H, i ≤ n → H D = some (.lst acc) → R i acc (del H D) → G H)
    (hs : ∀ i x H H' acc, i < n → H D = some (.lst acc) → acc.length ≤ i → R i acc (del H D) → Y i H x H' → g x (wipe σ vs) H' fun σ2 H2 => wipe σ2 vs = wipe σ vs ∧ tt σ2 H2 fun b H3 =>
      if b = true then te σ2 H3 fun y H4 => ∃ acc, H4 D = some (.lst acc) ∧ acc.length < sizeLine ∧ Pacc R D (i + 1) (upd H4 D (.lst (acc ++ [y]))) else Pacc R D (i + 1) H3)
    (hd : ∀ H acc, H D = some (.lst acc) → acc.length ≤ n → R n acc (del H D) → Qd H) :
    ∃ W : Nat → Nat → Hp → Prop, (∃ m, W 0 m (upd H1 D (.lst []))) ∧ ∀ i m H, W i m H →
      (J.stop i H ∧ Qd H) ∨ (J.go i H ∧ ∃ Nx : Hp → Prop, (∀ H', Nx H' → ∃ m', m' < m ∧ W (i + 1) m' H') ∧ ∀ x H', J.yld i H x H' → g x (wipe σ vs) H' fun σ2 H2 => wipe σ2 vs = wipe σ vs ∧ tt σ2 H2 fun b H3 =>
        if b = true then te σ2 H3 fun y H4 => ∃ acc, H4 D = some (.lst acc) ∧ acc.length < sizeLine ∧ Nx (upd H4 D (.lst (acc ++ [y]))) else Nx H3) :=
  lc_it w (Pacc R D) ⟨[], upd_same, Nat.le_refl _, by rw [del_upd, del_none hD]; exact r0⟩ (fun i H hi ⟨acc, h1, h2, h3⟩ => hG i acc H hi h1 h3)
    (fun i x H H' hi ⟨acc, h1, h2, h3⟩ y => hs i x H H' acc hi h1 h2 h3 y) (fun H ⟨acc, h1, h2, h3⟩ => hd H acc h1 h2 h3)
end
end Ax
set_option maxHeartbeats 2000000
/-! t.count(x): a tuple of texts. -/
namespace Ax
open PySem PySem.Spec PyProof.Rows L2
variable {X : Cx}
theorem dpAll_strs {K : PySem.W.Frag} {H : Hp} : ∀ ys : List Str, DpAll K H (ys.map V.str) (ys.map PyData.str)
  | [] => .nil
  | y :: ys => .cons (.str y) (dpAll_strs ys)
theorem plain_strs : ∀ ys : List Str, PyData.plainAll (ys.map PyData.str) = true
  | [] => rfl
  | y :: ys => by
    show (PyData.plain (.str y) && PyData.plainAll (ys.map PyData.str)) = true
    rw [plain_strs ys]
    rfl
theorem depth_strs : ∀ ys : List Str, PyData.depthAll (ys.map PyData.str) = 0
  | [] => rfl
  | y :: ys => by
    show max (PyData.depth (.str y)) (PyData.depthAll (ys.map PyData.str)) = 0
    rw [depth_strs ys]
    rfl
theorem eqv_strs (y k : Str) : PyData.eqv (.str y) (.str k) = (y == k) := by
  first | rfl | (unfold PyData.eqv; rfl) | simp [PyData.eqv]
def rCntS (K : PySem.W.Frag) : V → List V → Hp → VK → Prop := fun x xs H Q => ∃ (p : Addr) (ys : List Str) (k : Str), x = .ref p ∧ xs = [.str k] ∧ SqT K H p (ys.map V.str) ∧ Q (.int (ys.count k : Nat)) H
theorem mt_tcountS (hu : X.A.units + 64 < cLine) : MtR X "tuple.count" (rCntS X.K) := by
  intro pins s σ H x xs v us Q I rx rxs h
  obtain ⟨p, ys, k, rfl, rfl, hs, q⟩ := h
  cases rx
  obtain ⟨u, rfl, ru⟩ := rxs.one
  obtain ⟨its, rv, p1, hlen⟩ := I.tuple hs
  obtain ⟨as, h4⟩ := Dp.readsAll I _ _ its (dpAll_strs ys) rv
  obtain ⟨bs, r1⟩ := Dp.reads I (.str k) (.str k) u (.str k) ru
  refine SeqAt.count_tuple_data (l := p) (vs := its.toArray) (xs := ys.map PyData.str) (d := .str k) p1 (show ReadsAll s.heap its.toArray.toList (ys.map PyData.str) as from h4) r1 (plain_strs ys) rfl ?_ ?_
  · have e := depth_strs ys
    omega
  · have ec : (ys.map PyData.str).countP (fun y => PyData.eqv y (.str k)) = ys.count k := by
      rw [List.countP_map]
      unfold List.count
      congr 1
    rw [ec]
    exact ⟨.int (ys.count k : Nat), H, I.tok _, ⟨s.toks, rfl⟩, q⟩
/-! ### tuples that have no dict -/
/-- tuple(l), told as the object itself -/
def rTupZ (K : PySem.W.Frag) : List V → Hp → VK → Prop := fun xs H Q => ∃ (p : Addr) (ys : List V), xs = [.ref p] ∧ SqL K H p ys ∧ ∀ (l : Addr) (ob : Obj), H l = none → ob.cls = .type "tuple" → (ob.dict = none ∧ ob.slots = #[]) → Q (.ref l) (upd H l (.frz ob (.tup ys)))
theorem call_tupZ : CallR X (.type "tuple") (rTupZ X.K) := by
  intro pins s σ H xs us Q I r h
  obtain ⟨p, ys, rfl, hq, q⟩ := h
  obtain ⟨u, rfl, rx⟩ := vals1 r
  cases rx
  obtain ⟨its, r', pl, hz⟩ := I.list hq
  have hlen := r'.length
  refine call_tuple_list pl.isList (fun h' kp => ?_) (by simp only [List.size_toArray] <;> omega)
  have I1 : Inv X pins σ H { s with heap := h' } := I.kept (t' := s.toks) kp
  have I2 : Inv X pins σ (upd H h'.objs.size (.frz { cls := .type "tuple", data := .seq its.toArray } (.tup ys))) { s with heap := h'.push { cls := .type "tuple", data := .seq its.toArray } } :=
    I1.laid (t' := s.toks) (fun b o e => Heap.get?_push_of_some _ e) (Nat.le_refl _)
      (show ObjOk X.prog X.w _ _ _ (.frz { cls := .type "tuple", data := .seq its.toArray } (.tup ys)) from ⟨Heap.get?_push_size _ rfl, hz, its, r', IsTup.new _ _⟩)
  exact ⟨.ref h'.objs.size, _, I2, rfl, q _ _ (I1.hok.fresh (Nat.le_refl _)) rfl ⟨rfl, rfl⟩⟩
/-- o.m(e), o such a tuple -/
def tTM (r : V → List V → Hp → VK → Prop) (to : TE) (t : TA) : TE := fun σ H Q => to σ H fun x H1 => (∃ (p : Addr) (ob : Obj) (xs : List V), x = .ref p ∧ H1 p = some (.frz ob (.tup xs)) ∧ ob.cls = .type "tuple" ∧ ob.dict = none) ∧ t σ H1 fun xs H2 => r x xs H2 Q
section
variable {o e : Expr} {es : List Expr} {to : TE} {t : TA} {name : Str} {apos cpos : Pos} {id : String} {r : V → List V → Hp → VK → Prop}
theorem pe_tm (slot : Slot "tuple" name id) (hty : typeOf (.builtin id) = pure (.type "method_descriptor")) (hm : MtR X id r) (ho : PE X o to) (ha : PA X (e :: es) t)
    (hbase : attributeBase o name X.env (eval o X.env) = eval o X.env := by rfl)
    (hfew : ((backTo cpos (starEach (e :: es) X.env)).all (fun x => !x.1) && (backToKw cpos (keywordEach [] X.env)).all (fun x => x.1.isSome)
      && decide ((e :: es).length + ([] : List Keyword).length + (if ([] : List Keyword).isEmpty then 0 else 1) < 30)) = true := by rfl)
    (hline : (apos.endLine == cpos.line) = true := by rfl) (hs : starEach (e :: es) X.env = (false, eval e X.env) :: starEach es X.env := by rfl) (hplain : (backTo cpos (starEach es X.env)).any (·.1) = false := by rfl) :
    PE X (.Call (.Attribute o name apos) (e :: es) [] cpos) (tTM r to t) := by
  refine ⟨fun pins s σ H Q I h => ?_⟩
  refine wpAny_Call_method_late hbase hfew hline rfl (thn (ho.run pins s σ H _ I h) fun v s1 ⟨x, H1, I1, r1, ty, q1⟩ => ?_)
  obtain ⟨p, ob, xs, rfl, hp, hc, hd⟩ := ty
  obtain rfl : v = Value.ref p := r1
  have hh : s1.heap.get? p = some ob := (I1.hok p _ hp).1
  refine ⟨"tuple", id, PySem.F.plainAttrs_tuple, slot, hty, ⟨ob, hh, hc⟩, fun a e => by cases e; exact ⟨ob, hh, hd⟩, ?_⟩
  have hA := ha.run cpos pins s1 σ H1 _ I1 q1
  rw [hs] at hA ⊢
  refine Calls.callWith_builtin (by show (false || (backTo cpos (starEach es X.env)).any (·.1)) = false; rw [hplain] <;> rfl) (Calls.evalArgs_plain ?_)
  exact thn hA fun us s2 ⟨vs, H2, I2, r2, q2⟩ => hm pins s2 σ H2 (.ref p) vs (.ref p) us Q I2 rfl r2 q2
end
end Ax
set_option maxHeartbeats 2000000
/-! A Hook: facts by names, defs, one more Bool, over what the names reach and the interpreter's statics. -/
namespace Ax
open PySem PySem.Spec PyProof.Rows L2 He
def asY (g : Addr → Option Obj) (n : Nat) : List Addr := asD g n ++ [cStatics]
def SaysY (fa : List Fa) (fn : List DefD) (ex : PySem.W.Frag → Bool) (K : PySem.W.Frag) : Prop := SaysD fa fn K ∧ ex K = true
abbrev AlY : Type := AlD × Bool
def obsY (n : Nat) (fa : List Fa) (fn : List DefD) (ex : PySem.W.Frag → Bool) (g : Addr → Option Obj) : AlY := (obsD fa fn (frG g (asY g n)), ex (frG g (asY g n)))
def valY (fn : List DefD) : AlY := (valD fn, true)
def hookY (n : Nat) (fa : List Fa) (fn : List DefD) (ex : PySem.W.Frag → Bool) : PySem.W.Hook where
  α := AlY
  obs := fun s => obsY n fa fn ex s.heap.get?
  val := fun _ => valY fn
  says := fun _ h => ∃ K : PySem.W.Frag, K.In h ∧ SaysY fa fn ex K
  of := fun _ _ e => ⟨_, frG_in, congrArg (fun z : AlY => z.1) e, congrArg (fun z : AlY => z.2) e⟩
  keeps := fun _ _ _ ⟨K, hK, c⟩ k => ⟨K, PySem.W.Frag.In.keeps hK k, c⟩
theorem obsY_eq {n : Nat} {fa : List Fa} {fn : List DefD} {ex : PySem.W.Frag → Bool} {g : Addr → Option Obj} {s : Shared} (h : ∀ a, g a = s.heap.get? a) : obsY n fa fn ex g = (hookY n fa fn ex).obs s := by
  have e : g = s.heap.get? := funext h
  rw [e] <;> rfl
end Ax
set_option maxHeartbeats 0
/-! The head of k00: what stands where. -/
namespace K00
open PySem PySem.Spec PyProof.Rows L2
def top (i : Nat) : Stmt := PySem.Challenge.pw_askedtrue_k00_texts_of_orders_and_back.main.body.getD i (.Pass ⟨0, 0, 0, 0⟩)
abbrev s_AskedError_init : Stmt := inClass (top 2) 0
def d_AskedError_init : He.DefD := ⟨("AskedError", some "__init__"), "__init__", "AskedError.__init__", defArgs s_AskedError_init, defBody s_AskedError_init, defScope s_AskedError_init, [], []⟩
abbrev n_AskedError_init : List Str := ["self", "told"]
theorem sc_AskedError_init : FnScope n_AskedError_init ["self", "told"] (defScope s_AskedError_init) := ⟨rfl, rfl, rfl, by decide +kernel, rfl, by decide +kernel, by decide +kernel⟩
abbrev s_BadOrder_init : Stmt := inClass (top 3) 0
def d_BadOrder_init : He.DefD := ⟨("BadOrder", some "__init__"), "__init__", "BadOrder.__init__", defArgs s_BadOrder_init, defBody s_BadOrder_init, defScope s_BadOrder_init, [], []⟩
abbrev n_BadOrder_init : List Str := ["self", "what", "name"]
theorem sc_BadOrder_init : FnScope n_BadOrder_init ["self", "what", "name"] (defScope s_BadOrder_init) := ⟨rfl, rfl, rfl, by decide +kernel, rfl, by decide +kernel, by decide +kernel⟩
abbrev s_BadText_init : Stmt := inClass (top 4) 0
def d_BadText_init : He.DefD := ⟨("BadText", some "__init__"), "__init__", "BadText.__init__", defArgs s_BadText_init, defBody s_BadText_init, defScope s_BadText_init, [], []⟩
abbrev n_BadText_init : List Str := ["self", "row"]
theorem sc_BadText_init : FnScope n_BadText_init ["self", "row"] (defScope s_BadText_init) := ⟨rfl, rfl, rfl, by decide +kernel, rfl, by decide +kernel, by decide +kernel⟩
abbrev s_is_whole : Stmt := top 13
def d_is_whole : He.DefD := ⟨("is_whole", none), "is_whole", "is_whole", defArgs s_is_whole, defBody s_is_whole, defScope s_is_whole, [], []⟩
abbrev n_is_whole : List Str := ["thing"]
theorem sc_is_whole : FnScope n_is_whole ["thing"] (defScope s_is_whole) := ⟨rfl, rfl, rfl, by decide +kernel, rfl, by decide +kernel, by decide +kernel⟩
abbrev s_is_between : Stmt := top 14
def d_is_between : He.DefD := ⟨("is_between", none), "is_between", "is_between", defArgs s_is_between, defBody s_is_between, defScope s_is_between, [], []⟩
abbrev n_is_between : List Str := ["thing", "least", "most"]
theorem sc_is_between : FnScope n_is_between ["thing", "least", "most"] (defScope s_is_between) := ⟨rfl, rfl, rfl, by decide +kernel, rfl, by decide +kernel, by decide +kernel⟩
abbrev s_is_name : Stmt := top 15
def d_is_name : He.DefD := ⟨("is_name", none), "is_name", "is_name", defArgs s_is_name, defBody s_is_name, defScope s_is_name, [], []⟩
abbrev n_is_name : List Str := ["thing", "sign"]
theorem sc_is_name : FnScope n_is_name ["thing"] (defScope s_is_name) := ⟨rfl, rfl, rfl, by decide +kernel, rfl, by decide +kernel, by decide +kernel⟩
abbrev s_Event_init : Stmt := inClass (top 16) 0
def d_Event_init : He.DefD := ⟨("Event", some "__init__"), "__init__", "Event.__init__", defArgs s_Event_init, defBody s_Event_init, defScope s_Event_init, [.adr (He.dflAt ("Event", some "__init__") 0)], []⟩
abbrev n_Event_init : List Str := ["self", "name", "end", "kind", "needs"]
theorem sc_Event_init : FnScope n_Event_init ["self", "name", "end", "kind", "needs"] (defScope s_Event_init) := ⟨rfl, rfl, rfl, by decide +kernel, rfl, by decide +kernel, by decide +kernel⟩
abbrev s_Event_eq : Stmt := inClass (top 16) 1
def d_Event_eq : He.DefD := ⟨("Event", some "__eq__"), "__eq__", "Event.__eq__", defArgs s_Event_eq, defBody s_Event_eq, defScope s_Event_eq, [], []⟩
abbrev n_Event_eq : List Str := ["self", "other"]
theorem sc_Event_eq : FnScope n_Event_eq ["self", "other"] (defScope s_Event_eq) := ⟨rfl, rfl, rfl, by decide +kernel, rfl, by decide +kernel, by decide +kernel⟩
abbrev s_Order_init : Stmt := inClass (top 17) 0
def d_Order_init : He.DefD := ⟨("Order", some "__init__"), "__init__", "Order.__init__", defArgs s_Order_init, defBody s_Order_init, defScope s_Order_init, [], []⟩
abbrev n_Order_init : List Str := ["self", "events", "elder", "event", "word"]
theorem sc_Order_init : FnScope n_Order_init ["self", "events"] (defScope s_Order_init) := ⟨rfl, rfl, rfl, by decide +kernel, rfl, by decide +kernel, by decide +kernel⟩
abbrev s_Order_eq : Stmt := inClass (top 17) 1
def d_Order_eq : He.DefD := ⟨("Order", some "__eq__"), "__eq__", "Order.__eq__", defArgs s_Order_eq, defBody s_Order_eq, defScope s_Order_eq, [], []⟩
abbrev n_Order_eq : List Str := ["self", "other"]
theorem sc_Order_eq : FnScope n_Order_eq ["self", "other"] (defScope s_Order_eq) := ⟨rfl, rfl, rfl, by decide +kernel, rfl, by decide +kernel, by decide +kernel⟩
abbrev s_Order_iter : Stmt := inClass (top 17) 2
def d_Order_iter : He.DefD := ⟨("Order", some "__iter__"), "__iter__", "Order.__iter__", defArgs s_Order_iter, defBody s_Order_iter, defScope s_Order_iter, [], []⟩
abbrev n_Order_iter : List Str := ["self"]
theorem sc_Order_iter : FnScope n_Order_iter ["self"] (defScope s_Order_iter) := ⟨rfl, rfl, rfl, by decide +kernel, rfl, by decide +kernel, by decide +kernel⟩
abbrev s_event_fault : Stmt := top 18
def d_event_fault : He.DefD := ⟨("event_fault", none), "event_fault", "event_fault", defArgs s_event_fault, defBody s_event_fault, defScope s_event_fault, [], []⟩
abbrev n_event_fault : List Str := ["event", "elder"]
theorem sc_event_fault : FnScope n_event_fault ["event", "elder"] (defScope s_event_fault) := ⟨rfl, rfl, rfl, by decide +kernel, rfl, by decide +kernel, by decide +kernel⟩
abbrev s_are_needs : Stmt := top 19
def d_are_needs : He.DefD := ⟨("are_needs", none), "are_needs", "are_needs", defArgs s_are_needs, defBody s_are_needs, defScope s_are_needs, [], []⟩
abbrev n_are_needs : List Str := ["needs", "elder", "need"]
theorem sc_are_needs : FnScope n_are_needs ["needs", "elder"] (defScope s_are_needs) := ⟨rfl, rfl, rfl, by decide +kernel, rfl, by decide +kernel, by decide +kernel⟩
abbrev s_rows_of : Stmt := top 22
def d_rows_of : He.DefD := ⟨("rows_of", none), "rows_of", "rows_of", defArgs s_rows_of, defBody s_rows_of, defScope s_rows_of, [], []⟩
abbrev n_rows_of : List Str := ["text"]
theorem sc_rows_of : FnScope n_rows_of ["text"] (defScope s_rows_of) := ⟨rfl, rfl, rfl, by decide +kernel, rfl, by decide +kernel, by decide +kernel⟩
abbrev s_words_of : Stmt := top 23
def d_words_of : He.DefD := ⟨("words_of", none), "words_of", "words_of", defArgs s_words_of, defBody s_words_of, defScope s_words_of, [], []⟩
abbrev n_words_of : List Str := ["row"]
theorem sc_words_of : FnScope n_words_of ["row"] (defScope s_words_of) := ⟨rfl, rfl, rfl, by decide +kernel, rfl, by decide +kernel, by decide +kernel⟩
abbrev s_read_figure : Stmt := top 24
def d_read_figure : He.DefD := ⟨("read_figure", none), "read_figure", "read_figure", defArgs s_read_figure, defBody s_read_figure, defScope s_read_figure, [], []⟩
abbrev n_read_figure : List Str := ["word"]
theorem sc_read_figure : FnScope n_read_figure ["word"] (defScope s_read_figure) := ⟨rfl, rfl, rfl, by decide +kernel, rfl, by decide +kernel, by decide +kernel⟩
abbrev s_order_text : Stmt := top 26
def d_order_text : He.DefD := ⟨("order_text", none), "order_text", "order_text", defArgs s_order_text, defBody s_order_text, defScope s_order_text, [], []⟩
abbrev n_order_text : List Str := ["order", "event"]
theorem sc_order_text : FnScope n_order_text ["order"] (defScope s_order_text) := ⟨rfl, rfl, rfl, by decide +kernel, rfl, by decide +kernel, by decide +kernel⟩
abbrev s_event_row : Stmt := top 27
def d_event_row : He.DefD := ⟨("event_row", none), "event_row", "event_row", defArgs s_event_row, defBody s_event_row, defScope s_event_row, [], []⟩
abbrev n_event_row : List Str := ["event"]
theorem sc_event_row : FnScope n_event_row ["event"] (defScope s_event_row) := ⟨rfl, rfl, rfl, by decide +kernel, rfl, by decide +kernel, by decide +kernel⟩
abbrev s_parse_order : Stmt := top 28
def d_parse_order : He.DefD := ⟨("parse_order", none), "parse_order", "parse_order", defArgs s_parse_order, defBody s_parse_order, defScope s_parse_order, [], []⟩
abbrev n_parse_order : List Str := ["text"]
theorem sc_parse_order : FnScope n_parse_order ["text"] (defScope s_parse_order) := ⟨rfl, rfl, rfl, by decide +kernel, rfl, by decide +kernel, by decide +kernel⟩
abbrev s_read_events : Stmt := top 29
def d_read_events : He.DefD := ⟨("read_events", none), "read_events", "read_events", defArgs s_read_events, defBody s_read_events, defScope s_read_events, [], []⟩
abbrev n_read_events : List Str := ["rows", "start", "events", "number", "event"]
theorem sc_read_events : FnScope n_read_events ["rows", "start"] (defScope s_read_events) := ⟨rfl, rfl, rfl, by decide +kernel, rfl, by decide +kernel, by decide +kernel⟩
abbrev s_read_event : Stmt := top 30
def d_read_event : He.DefD := ⟨("read_event", none), "read_event", "read_event", defArgs s_read_event, defBody s_read_event, defScope s_read_event, [], []⟩
abbrev n_read_event : List Str := ["row", "words", "end", "word"]
theorem sc_read_event : FnScope n_read_event ["row"] (defScope s_read_event) := ⟨rfl, rfl, rfl, by decide +kernel, rfl, by decide +kernel, by decide +kernel⟩
abbrev s_law_bag : Stmt := top 32
def d_law_bag : He.DefD := ⟨("_law_bag", none), "_law_bag", "_law_bag", defArgs s_law_bag, defBody s_law_bag, defScope s_law_bag, [], []⟩
abbrev n_law_bag : List Str := ["script", "cells", "cell"]
theorem sc_law_bag : FnScope n_law_bag ["script"] (defScope s_law_bag) := ⟨rfl, rfl, rfl, by decide +kernel, rfl, by decide +kernel, by decide +kernel⟩
abbrev s_law_draw : Stmt := top 33
def d_law_draw : He.DefD := ⟨("_law_draw", none), "_law_draw", "_law_draw", defArgs s_law_draw, defBody s_law_draw, defScope s_law_draw, [], []⟩
abbrev n_law_draw : List Str := ["bag", "limit", "digit", "turn", "cells", "cell", "mixed"]
theorem sc_law_draw : FnScope n_law_draw ["bag", "limit"] (defScope s_law_draw) := ⟨rfl, rfl, rfl, by decide +kernel, rfl, by decide +kernel, by decide +kernel⟩
abbrev s_law_names : Stmt := top 34
def d_law_names : He.DefD := ⟨("_law_names", none), "_law_names", "_law_names", defArgs s_law_names, defBody s_law_names, defScope s_law_names, [], []⟩
abbrev n_law_names : List Str := ["bag", "many", "pool", "found", "turn"]
theorem sc_law_names : FnScope n_law_names ["bag", "many"] (defScope s_law_names) := ⟨rfl, rfl, rfl, by decide +kernel, rfl, by decide +kernel, by decide +kernel⟩
abbrev s_law_drawn_events : Stmt := top 35
def d_law_drawn_events : He.DefD := ⟨("_law_drawn_events", none), "_law_drawn_events", "_law_drawn_events", defArgs s_law_drawn_events, defBody s_law_drawn_events, defScope s_law_drawn_events, [], []⟩
abbrev n_law_drawn_events : List Str := ["bag", "names", "events", "place", "left", "needs", "turn"]
theorem sc_law_drawn_events : FnScope n_law_drawn_events ["bag"] (defScope s_law_drawn_events) := ⟨rfl, rfl, rfl, by decide +kernel, rfl, by decide +kernel, by decide +kernel⟩
abbrev s_law_text : Stmt := top 36
def d_law_text : He.DefD := ⟨("_law_text", none), "_law_text", "_law_text", defArgs s_law_text, defBody s_law_text, defScope s_law_text, [], []⟩
abbrev n_law_text : List Str := ["events", "rows", "name", "end", "kind", "needs", "row", "need"]
theorem sc_law_text : FnScope n_law_text ["events"] (defScope s_law_text) := ⟨rfl, rfl, rfl, by decide +kernel, rfl, by decide +kernel, by decide +kernel⟩
abbrev s_law_is_name : Stmt := top 37
def d_law_is_name : He.DefD := ⟨("_law_is_name", none), "_law_is_name", "_law_is_name", defArgs s_law_is_name, defBody s_law_is_name, defScope s_law_is_name, [], []⟩
abbrev n_law_is_name : List Str := ["word", "sign"]
theorem sc_law_is_name : FnScope n_law_is_name ["word"] (defScope s_law_is_name) := ⟨rfl, rfl, rfl, by decide +kernel, rfl, by decide +kernel, by decide +kernel⟩
abbrev s_law_read : Stmt := top 38
def d_law_read : He.DefD := ⟨("_law_read", none), "_law_read", "_law_read", defArgs s_law_read, defBody s_law_read, defScope s_law_read, [], []⟩
abbrev n_law_read : List Str := ["text", "rows", "events", "place", "row", "words", "event", "elder", "needs", "bad", "word", "other", "k"]
theorem sc_law_read : FnScope n_law_read ["text"] (defScope s_law_read) := ⟨rfl, rfl, rfl, by decide +kernel, rfl, by decide +kernel, by decide +kernel⟩
abbrev s_law_spoiled : Stmt := top 39
def d_law_spoiled : He.DefD := ⟨("_law_spoiled", none), "_law_spoiled", "_law_spoiled", defArgs s_law_spoiled, defBody s_law_spoiled, defScope s_law_spoiled, [], []⟩
abbrev n_law_spoiled : List Str := ["bag", "text", "at", "sign"]
theorem sc_law_spoiled : FnScope n_law_spoiled ["bag", "text"] (defScope s_law_spoiled) := ⟨rfl, rfl, rfl, by decide +kernel, rfl, by decide +kernel, by decide +kernel⟩
abbrev s_law_made : Stmt := top 40
def d_law_made : He.DefD := ⟨("_law_made", none), "_law_made", "_law_made", defArgs s_law_made, defBody s_law_made, defScope s_law_made, [], []⟩
abbrev n_law_made : List Str := ["events", "name", "end", "kind", "needs"]
theorem sc_law_made : FnScope n_law_made ["events"] (defScope s_law_made) := ⟨rfl, rfl, rfl, by decide +kernel, rfl, by decide +kernel, by decide +kernel⟩
abbrev s_law_back_right : Stmt := top 41
def d_law_back_right : He.DefD := ⟨("_law_back_right", none), "_law_back_right", "_law_back_right", defArgs s_law_back_right, defBody s_law_back_right, defScope s_law_back_right, [], []⟩
abbrev n_law_back_right : List Str := ["text", "due", "told", "e"]
theorem sc_law_back_right : FnScope n_law_back_right ["text"] (defScope s_law_back_right) := ⟨rfl, rfl, rfl, by decide +kernel, rfl, by decide +kernel, by decide +kernel⟩
abbrev s_law_no_text : Stmt := top 42
def d_law_no_text : He.DefD := ⟨("_law_no_text", none), "_law_no_text", "_law_no_text", defArgs s_law_no_text, defBody s_law_no_text, defScope s_law_no_text, [], []⟩
abbrev n_law_no_text : List Str := ["thing", "e"]
theorem sc_law_no_text : FnScope n_law_no_text ["thing"] (defScope s_law_no_text) := ⟨rfl, rfl, rfl, by decide +kernel, rfl, by decide +kernel, by decide +kernel⟩
abbrev s_law : Stmt := top 43
def d_law : He.DefD := ⟨("law", none), "law", "law", defArgs s_law, defBody s_law, defScope s_law, [], []⟩
abbrev n_law : List Str := ["script", "bag", "events", "order", "text", "turn", "spoiled", "event"]
theorem sc_law : FnScope n_law ["script"] (defScope s_law) := ⟨rfl, rfl, rfl, by decide +kernel, rfl, by decide +kernel, by decide +kernel⟩
def fn : List He.DefD := [d_AskedError_init, d_BadOrder_init, d_BadText_init, d_is_whole, d_is_between, d_is_name, d_Event_init, d_Event_eq, d_Order_init, d_Order_eq, d_Order_iter, d_event_fault, d_are_needs, d_rows_of, d_words_of, d_read_figure, d_order_text, d_event_row, d_parse_order, d_read_events, d_read_event, d_law_bag, d_law_draw, d_law_names, d_law_drawn_events, d_law_text, d_law_is_name, d_law_read, d_law_spoiled, d_law_made, d_law_back_right, d_law_no_text, d_law]
def fa : List He.Fa := [.glo "AskedError", .glo "BadOrder", .glo "BadText", .glo "Event", .glo "Order", .glo "KINDS", .glo "is_whole", .glo "is_between", .glo "is_name", .glo "event_fault", .glo "are_needs", .glo "rows_of", .glo "words_of", .glo "read_figure", .glo "order_text", .glo "event_row", .glo "parse_order", .glo "read_events", .glo "read_event", .glo "_law_bag", .glo "_law_draw", .glo "_law_names", .glo "_law_drawn_events", .glo "_law_text", .glo "_law_is_name", .glo "_law_read", .glo "_law_spoiled", .glo "_law_made", .glo "_law_back_right", .glo "_law_no_text", .glo "law", .free "isinstance", .free "int", .free "bool", .free "str", .free "len", .free "tuple", .free "all", .free "iter", .free "range", .free "abs", .free "list", .free "enumerate", .int "LONGEST_NAME" 8, .int "MOST_EVENTS" 12, .int "MOST_NEEDS" 3, .int "LAST_END" 5, .str "LETTERS" "abcdefghijklmnopqrstuvwxyz", .str "SIGNS" "abcdefghijklmnopqrstuvwxyz0123456789", .str "FIGURES" "0123456789", .cls "Event", .cls "Order", .mkr "Event", .mkr "Order", .meth "Event" "__eq__", .meth "Order" "__eq__", .meth "Order" "__iter__", .noat "Event" "name", .noat "Event" "end", .noat "Event" "kind", .noat "Event" "needs", .noat "Order" "events", .noat "Order" "_names", .noat "BadOrder" "what", .noat "BadOrder" "name", .noat "BadOrder" "told", .noat "BadText" "told", .noat "BadText" "row", .exm "BadText" "BadText" true, .exm "BadOrder" "BadText" false, .exm "BadOrder" "BadOrder" true]
/-! ### further facts -/
def sl4 : List (Option Value) → Bool
  | [_, _, _, _, some (.builtin n), _] => decide (n = "ValueError.__new__")
  | _ => false
theorem sl4_ok : ∀ {l : List (Option Value)}, sl4 l = true → ∃ k0 k1 k2 k3 k5, l = [k0, k1, k2, k3, some (.builtin "ValueError.__new__"), k5] := by
  intro l h
  unfold sl4 at h
  split at h
  · rename_i k0 k1 k2 k3 n k5
    rw [of_decide_eq_true h]
    exact ⟨k0, k1, k2, k3, k5, rfl⟩
  · cases h
def oexB (K : PySem.W.Frag) (C : Addr) : Bool := match K.lookup C with
  | some ⟨.type t, _, .cls cd, sl⟩ => decide (t = "type") && ((match cd.mro with
    | .ref c :: bm => decide (c = C) && PySem.HandSPX.refsVE bm
    | _ => false) && (sl4 sl.toList && (cd.hasDict && !cd.hasDel)))
  | _ => false
theorem oexB_ok {K : PySem.W.Frag} {C : Addr} (h : oexB K C = true) : ∃ nm q N bs bm sn sub ab col dd k0 k1 k2 k3 k5, K.lookup C = some (excClassObj nm q C N bs bm true sn sub ab col dd k0 k1 k2 k3 k5 "ValueError.__new__") ∧ PySem.HandSPX.refsVE bm = true := by
  unfold oexB at h
  split at h
  · rename_i t dd cd sl ho
    obtain ⟨h1, h⟩ := Bool.and_eq_true_iff.mp h
    obtain ⟨h2, h⟩ := Bool.and_eq_true_iff.mp h
    obtain ⟨h3, h4⟩ := Bool.and_eq_true_iff.mp h
    obtain ⟨h5, h6⟩ := Bool.and_eq_true_iff.mp h4
    obtain ⟨nm, bs, mro, ns, qn, hd, sn, sub, ab, col, del⟩ := cd
    dsimp only at h2 h5 h6
    cases mro with
    | nil => cases h2
    | cons v bm => cases v with
      | ref c =>
        obtain ⟨h7, h8⟩ := Bool.and_eq_true_iff.mp h2
        obtain ⟨k0, k1, k2, k3, k5, e3⟩ := sl4_ok h3
        obtain ⟨l⟩ := sl
        dsimp only at e3
        have e7 := of_decide_eq_true h7
        have e1 := of_decide_eq_true h1
        subst e3 e7 e1 h5
        cases del with
        | true => cases h6
        | false => exact ⟨nm, qn, ns, bs, bm, sn, sub, ab, col, dd, k0, k1, k2, k3, k5, ho, h8⟩
      | _ => cases h2
  · cases h
def oexAll (K : PySem.W.Frag) (C : Addr) : Bool := oexB K C && (decide (PySem.W.findIn K (.ref C) "__setattr__" = some (some (.builtin "object.__setattr__"))) && (decide (PySem.W.subIn K (.ref C) (.type "BaseException") = some true) && (decide (PySem.W.typeIn K (.ref C) = some (.type "type")) && PySem.W.keepIn K (.ref C))))
theorem oexAll_ok {K : PySem.W.Frag} {C : Addr} (h : oexAll K C = true) : OexC K C := by
  obtain ⟨h1, h⟩ := Bool.and_eq_true_iff.mp h
  obtain ⟨h2, h⟩ := Bool.and_eq_true_iff.mp h
  obtain ⟨h3, h⟩ := Bool.and_eq_true_iff.mp h
  obtain ⟨h4, h5⟩ := Bool.and_eq_true_iff.mp h
  exact ⟨oexB_ok h1, of_decide_eq_true h2, of_decide_eq_true h3, of_decide_eq_true h4, h5⟩
/-- C's own __eq__ at f -/
def eqcB (K : PySem.W.Frag) (C : Addr) : Bool := decide (PySem.W.findIn K (.ref C) "__ne__" = some (some (.builtin "object.__ne__"))) && decide (PySem.W.subIn K (.ref C) (.type "object") = some true)
/-- isinstance of instances -/
structure InsC (K : PySem.W.Frag) (C : Addr) : Prop where
  ha : PySem.W.findIn K (.ref C) "__class__" = some (some (.builtin "object.__class__"))
  hn : PySem.W.specialIn K (.builtin "object.__class__") "__get__" = some (some (.builtin "getset_descriptor.__get__"))
  htk : PySem.W.takesIn K (.builtin "object.__class__") = some true
  hm : PySem.W.mroIn K C (.type "object") = some true
def insB (K : PySem.W.Frag) (C : Addr) : Bool := decide (PySem.W.findIn K (.ref C) "__class__" = some (some (.builtin "object.__class__"))) && (decide (PySem.W.specialIn K (.builtin "object.__class__") "__get__" = some (some (.builtin "getset_descriptor.__get__"))) && (decide (PySem.W.takesIn K (.builtin "object.__class__") = some true) && decide (PySem.W.mroIn K C (.type "object") = some true)))
theorem insB_ok {K : PySem.W.Frag} {C : Addr} (h : insB K C = true) : InsC K C := by
  obtain ⟨h1, h⟩ := Bool.and_eq_true_iff.mp h
  obtain ⟨h2, h⟩ := Bool.and_eq_true_iff.mp h
  obtain ⟨h3, h⟩ := Bool.and_eq_true_iff.mp h
  exact ⟨of_decide_eq_true h1, of_decide_eq_true h2, of_decide_eq_true h3, of_decide_eq_true h⟩
def isFnd : Option PySem.W.CFound → Addr → Bool
  | some (.val (.ref a)), g => decide (a = g)
  | _, _ => false
def clsfnB (K : PySem.W.Frag) (C : Addr) (m : Str) : Bool := PySem.W.readsIn K C (.type "type") && (decide (PySem.W.specialIn K (.ref C) "__getattribute__" = some (some (.builtin "type.__getattribute__"))) && (isFnd (PySem.W.findCls K (.ref C) (.type "type") m) (He.ma K C m) && PySem.W.keepIn K (.ref (He.ma K C m))))
theorem clsfnB_ok {K : PySem.W.Frag} {C : Addr} {m : Str} (h : clsfnB K C m = true) : Ax.ClsFn K C m (He.ma K C m) := by
  obtain ⟨h1, h⟩ := Bool.and_eq_true_iff.mp h
  obtain ⟨h2, h⟩ := Bool.and_eq_true_iff.mp h
  obtain ⟨h3, h4⟩ := Bool.and_eq_true_iff.mp h
  refine ⟨⟨.type "type", ⟨h1, of_decide_eq_true h2⟩, ⟨?_, rfl⟩⟩, h4⟩
  revert h3
  cases e : PySem.W.findCls K (.ref C) (.type "type") m with
  | none => intro h3; cases h3
  | some r =>
    cases r with
    | val u =>
      cases u with
      | ref a =>
        intro h3
        have z : a = He.ma K C m := of_decide_eq_true h3
        rw [z]
      | _ => intro h3; cases h3
    | _ => intro h3; cases h3
def exL : List (PySem.W.Frag → Bool) := [fun K => oexAll K (He.ga K "BadOrder"),
  fun K => oexAll K (He.ga K "BadText"),
  fun K => xfB K (He.ga K "BadOrder"),
  fun K => xfB K (He.ga K "BadText"),
  fun K => decide (PySem.W.findIn K (.ref (He.ga K "BadOrder")) "__init__" = some (some (.ref (He.ma K (He.ga K "BadOrder") "__init__")))),
  fun K => decide (PySem.W.findIn K (.ref (He.ga K "BadText")) "__init__" = some (some (.ref (He.ma K (He.ga K "BadText") "__init__")))),
  fun K => decide (PySem.W.typeIn K (.ref (He.ma K (He.ga K "BadOrder") "__init__")) = some (.type "function")),
  fun K => decide (PySem.W.typeIn K (.ref (He.ma K (He.ga K "BadText") "__init__")) = some (.type "function")),
  fun K => eqcB K (He.ga K "Event"),
  fun K => eqcB K (He.ga K "Order"),
  fun K => insB K (He.ga K "Event"),
  fun K => insB K (He.ga K "Order"),
  fun K => decide (PySem.W.findIn K (.ref (He.ga K "Order")) "__iter__" = some (some (.ref (He.ma K (He.ga K "Order") "__iter__")))) && PySem.W.isFn K (.ref (He.ma K (He.ga K "Order") "__iter__")),
  fun K => clsfnB K (He.ga K "AskedError") "__init__",
  fun K => He.tupB K "KINDS" [.str "query", .str "action"]]
def exA (K : PySem.W.Frag) : Bool := exL.all fun q => q K
theorem exA_ok {K : PySem.W.Frag} (h : exA K = true) (i : Nat) {q : PySem.W.Frag → Bool} (e : exL[i]? = some q) : q K = true := List.all_eq_true.mp h q (List.mem_of_getElem? e)
def Tx (w : World) (K : PySem.W.Frag) (mg : Str → Option Value) : Prop := ∃ h : Heap, K.In h ∧ h.Ns mainGlobals mg ∧ Ax.SaysY fa fn exA K
section
variable {w : World} {K : PySem.W.Frag} {mg : Str → Option Value}
theorem Tx.g_AskedError (T : Tx w K mg) : mg "AskedError" = some (.ref (He.ga K "AskedError")) := let ⟨_, c⟩ := T; He.glo_ok c.1 c.2.1 (c.2.2.1.fact 0 (f := .glo "AskedError") rfl)
theorem Tx.g_BadOrder (T : Tx w K mg) : mg "BadOrder" = some (.ref (He.ga K "BadOrder")) := let ⟨_, c⟩ := T; He.glo_ok c.1 c.2.1 (c.2.2.1.fact 1 (f := .glo "BadOrder") rfl)
theorem Tx.g_BadText (T : Tx w K mg) : mg "BadText" = some (.ref (He.ga K "BadText")) := let ⟨_, c⟩ := T; He.glo_ok c.1 c.2.1 (c.2.2.1.fact 2 (f := .glo "BadText") rfl)
theorem Tx.g_Event (T : Tx w K mg) : mg "Event" = some (.ref (He.ga K "Event")) := let ⟨_, c⟩ := T; He.glo_ok c.1 c.2.1 (c.2.2.1.fact 3 (f := .glo "Event") rfl)
theorem Tx.g_Order (T : Tx w K mg) : mg "Order" = some (.ref (He.ga K "Order")) := let ⟨_, c⟩ := T; He.glo_ok c.1 c.2.1 (c.2.2.1.fact 4 (f := .glo "Order") rfl)
theorem Tx.g_KINDS (T : Tx w K mg) : mg "KINDS" = some (.ref (He.ga K "KINDS")) := let ⟨_, c⟩ := T; He.glo_ok c.1 c.2.1 (c.2.2.1.fact 5 (f := .glo "KINDS") rfl)
theorem Tx.g_is_whole (T : Tx w K mg) : mg "is_whole" = some (.ref (He.ga K "is_whole")) := let ⟨_, c⟩ := T; He.glo_ok c.1 c.2.1 (c.2.2.1.fact 6 (f := .glo "is_whole") rfl)
theorem Tx.g_is_between (T : Tx w K mg) : mg "is_between" = some (.ref (He.ga K "is_between")) := let ⟨_, c⟩ := T; He.glo_ok c.1 c.2.1 (c.2.2.1.fact 7 (f := .glo "is_between") rfl)
theorem Tx.g_is_name (T : Tx w K mg) : mg "is_name" = some (.ref (He.ga K "is_name")) := let ⟨_, c⟩ := T; He.glo_ok c.1 c.2.1 (c.2.2.1.fact 8 (f := .glo "is_name") rfl)
theorem Tx.g_event_fault (T : Tx w K mg) : mg "event_fault" = some (.ref (He.ga K "event_fault")) := let ⟨_, c⟩ := T; He.glo_ok c.1 c.2.1 (c.2.2.1.fact 9 (f := .glo "event_fault") rfl)
theorem Tx.g_are_needs (T : Tx w K mg) : mg "are_needs" = some (.ref (He.ga K "are_needs")) := let ⟨_, c⟩ := T; He.glo_ok c.1 c.2.1 (c.2.2.1.fact 10 (f := .glo "are_needs") rfl)
theorem Tx.g_rows_of (T : Tx w K mg) : mg "rows_of" = some (.ref (He.ga K "rows_of")) := let ⟨_, c⟩ := T; He.glo_ok c.1 c.2.1 (c.2.2.1.fact 11 (f := .glo "rows_of") rfl)
theorem Tx.g_words_of (T : Tx w K mg) : mg "words_of" = some (.ref (He.ga K "words_of")) := let ⟨_, c⟩ := T; He.glo_ok c.1 c.2.1 (c.2.2.1.fact 12 (f := .glo "words_of") rfl)
theorem Tx.g_read_figure (T : Tx w K mg) : mg "read_figure" = some (.ref (He.ga K "read_figure")) := let ⟨_, c⟩ := T; He.glo_ok c.1 c.2.1 (c.2.2.1.fact 13 (f := .glo "read_figure") rfl)
theorem Tx.g_order_text (T : Tx w K mg) : mg "order_text" = some (.ref (He.ga K "order_text")) := let ⟨_, c⟩ := T; He.glo_ok c.1 c.2.1 (c.2.2.1.fact 14 (f := .glo "order_text") rfl)
theorem Tx.g_event_row (T : Tx w K mg) : mg "event_row" = some (.ref (He.ga K "event_row")) := let ⟨_, c⟩ := T; He.glo_ok c.1 c.2.1 (c.2.2.1.fact 15 (f := .glo "event_row") rfl)
theorem Tx.g_parse_order (T : Tx w K mg) : mg "parse_order" = some (.ref (He.ga K "parse_order")) := let ⟨_, c⟩ := T; He.glo_ok c.1 c.2.1 (c.2.2.1.fact 16 (f := .glo "parse_order") rfl)
theorem Tx.g_read_events (T : Tx w K mg) : mg "read_events" = some (.ref (He.ga K "read_events")) := let ⟨_, c⟩ := T; He.glo_ok c.1 c.2.1 (c.2.2.1.fact 17 (f := .glo "read_events") rfl)
theorem Tx.g_read_event (T : Tx w K mg) : mg "read_event" = some (.ref (He.ga K "read_event")) := let ⟨_, c⟩ := T; He.glo_ok c.1 c.2.1 (c.2.2.1.fact 18 (f := .glo "read_event") rfl)
theorem Tx.g_law_bag (T : Tx w K mg) : mg "_law_bag" = some (.ref (He.ga K "_law_bag")) := let ⟨_, c⟩ := T; He.glo_ok c.1 c.2.1 (c.2.2.1.fact 19 (f := .glo "_law_bag") rfl)
theorem Tx.g_law_draw (T : Tx w K mg) : mg "_law_draw" = some (.ref (He.ga K "_law_draw")) := let ⟨_, c⟩ := T; He.glo_ok c.1 c.2.1 (c.2.2.1.fact 20 (f := .glo "_law_draw") rfl)
theorem Tx.g_law_names (T : Tx w K mg) : mg "_law_names" = some (.ref (He.ga K "_law_names")) := let ⟨_, c⟩ := T; He.glo_ok c.1 c.2.1 (c.2.2.1.fact 21 (f := .glo "_law_names") rfl)
theorem Tx.g_law_drawn_events (T : Tx w K mg) : mg "_law_drawn_events" = some (.ref (He.ga K "_law_drawn_events")) := let ⟨_, c⟩ := T; He.glo_ok c.1 c.2.1 (c.2.2.1.fact 22 (f := .glo "_law_drawn_events") rfl)
theorem Tx.g_law_text (T : Tx w K mg) : mg "_law_text" = some (.ref (He.ga K "_law_text")) := let ⟨_, c⟩ := T; He.glo_ok c.1 c.2.1 (c.2.2.1.fact 23 (f := .glo "_law_text") rfl)
theorem Tx.g_law_is_name (T : Tx w K mg) : mg "_law_is_name" = some (.ref (He.ga K "_law_is_name")) := let ⟨_, c⟩ := T; He.glo_ok c.1 c.2.1 (c.2.2.1.fact 24 (f := .glo "_law_is_name") rfl)
theorem Tx.g_law_read (T : Tx w K mg) : mg "_law_read" = some (.ref (He.ga K "_law_read")) := let ⟨_, c⟩ := T; He.glo_ok c.1 c.2.1 (c.2.2.1.fact 25 (f := .glo "_law_read") rfl)
theorem Tx.g_law_spoiled (T : Tx w K mg) : mg "_law_spoiled" = some (.ref (He.ga K "_law_spoiled")) := let ⟨_, c⟩ := T; He.glo_ok c.1 c.2.1 (c.2.2.1.fact 26 (f := .glo "_law_spoiled") rfl)
theorem Tx.g_law_made (T : Tx w K mg) : mg "_law_made" = some (.ref (He.ga K "_law_made")) := let ⟨_, c⟩ := T; He.glo_ok c.1 c.2.1 (c.2.2.1.fact 27 (f := .glo "_law_made") rfl)
theorem Tx.g_law_back_right (T : Tx w K mg) : mg "_law_back_right" = some (.ref (He.ga K "_law_back_right")) := let ⟨_, c⟩ := T; He.glo_ok c.1 c.2.1 (c.2.2.1.fact 28 (f := .glo "_law_back_right") rfl)
theorem Tx.g_law_no_text (T : Tx w K mg) : mg "_law_no_text" = some (.ref (He.ga K "_law_no_text")) := let ⟨_, c⟩ := T; He.glo_ok c.1 c.2.1 (c.2.2.1.fact 29 (f := .glo "_law_no_text") rfl)
theorem Tx.g_law (T : Tx w K mg) : mg "law" = some (.ref (He.ga K "law")) := let ⟨_, c⟩ := T; He.glo_ok c.1 c.2.1 (c.2.2.1.fact 30 (f := .glo "law") rfl)
theorem Tx.b_isinstance (T : Tx w K mg) : mg "isinstance" = none := let ⟨_, c⟩ := T; He.free_ok c.1 c.2.1 (c.2.2.1.fact 31 (f := .free "isinstance") rfl)
theorem Tx.b_int (T : Tx w K mg) : mg "int" = none := let ⟨_, c⟩ := T; He.free_ok c.1 c.2.1 (c.2.2.1.fact 32 (f := .free "int") rfl)
theorem Tx.b_bool (T : Tx w K mg) : mg "bool" = none := let ⟨_, c⟩ := T; He.free_ok c.1 c.2.1 (c.2.2.1.fact 33 (f := .free "bool") rfl)
theorem Tx.b_str (T : Tx w K mg) : mg "str" = none := let ⟨_, c⟩ := T; He.free_ok c.1 c.2.1 (c.2.2.1.fact 34 (f := .free "str") rfl)
theorem Tx.b_len (T : Tx w K mg) : mg "len" = none := let ⟨_, c⟩ := T; He.free_ok c.1 c.2.1 (c.2.2.1.fact 35 (f := .free "len") rfl)
theorem Tx.b_tuple (T : Tx w K mg) : mg "tuple" = none := let ⟨_, c⟩ := T; He.free_ok c.1 c.2.1 (c.2.2.1.fact 36 (f := .free "tuple") rfl)
theorem Tx.b_all (T : Tx w K mg) : mg "all" = none := let ⟨_, c⟩ := T; He.free_ok c.1 c.2.1 (c.2.2.1.fact 37 (f := .free "all") rfl)
theorem Tx.b_iter (T : Tx w K mg) : mg "iter" = none := let ⟨_, c⟩ := T; He.free_ok c.1 c.2.1 (c.2.2.1.fact 38 (f := .free "iter") rfl)
theorem Tx.b_range (T : Tx w K mg) : mg "range" = none := let ⟨_, c⟩ := T; He.free_ok c.1 c.2.1 (c.2.2.1.fact 39 (f := .free "range") rfl)
theorem Tx.b_abs (T : Tx w K mg) : mg "abs" = none := let ⟨_, c⟩ := T; He.free_ok c.1 c.2.1 (c.2.2.1.fact 40 (f := .free "abs") rfl)
theorem Tx.b_list (T : Tx w K mg) : mg "list" = none := let ⟨_, c⟩ := T; He.free_ok c.1 c.2.1 (c.2.2.1.fact 41 (f := .free "list") rfl)
theorem Tx.b_enumerate (T : Tx w K mg) : mg "enumerate" = none := let ⟨_, c⟩ := T; He.free_ok c.1 c.2.1 (c.2.2.1.fact 42 (f := .free "enumerate") rfl)
theorem Tx.i_LONGEST_NAME (T : Tx w K mg) : ∃ t, mg "LONGEST_NAME" = some (.int 8 t) := let ⟨_, c⟩ := T; He.int_ok c.1 c.2.1 (c.2.2.1.fact 43 (f := .int "LONGEST_NAME" 8) rfl)
theorem Tx.i_MOST_EVENTS (T : Tx w K mg) : ∃ t, mg "MOST_EVENTS" = some (.int 12 t) := let ⟨_, c⟩ := T; He.int_ok c.1 c.2.1 (c.2.2.1.fact 44 (f := .int "MOST_EVENTS" 12) rfl)
theorem Tx.i_MOST_NEEDS (T : Tx w K mg) : ∃ t, mg "MOST_NEEDS" = some (.int 3 t) := let ⟨_, c⟩ := T; He.int_ok c.1 c.2.1 (c.2.2.1.fact 45 (f := .int "MOST_NEEDS" 3) rfl)
theorem Tx.i_LAST_END (T : Tx w K mg) : ∃ t, mg "LAST_END" = some (.int 5 t) := let ⟨_, c⟩ := T; He.int_ok c.1 c.2.1 (c.2.2.1.fact 46 (f := .int "LAST_END" 5) rfl)
theorem Tx.s_LETTERS (T : Tx w K mg) : ∃ t, mg "LETTERS" = some (.str "abcdefghijklmnopqrstuvwxyz" t) := let ⟨_, c⟩ := T; He.str_ok c.1 c.2.1 (c.2.2.1.fact 47 (f := .str "LETTERS" "abcdefghijklmnopqrstuvwxyz") rfl)
theorem Tx.s_SIGNS (T : Tx w K mg) : ∃ t, mg "SIGNS" = some (.str "abcdefghijklmnopqrstuvwxyz0123456789" t) := let ⟨_, c⟩ := T; He.str_ok c.1 c.2.1 (c.2.2.1.fact 48 (f := .str "SIGNS" "abcdefghijklmnopqrstuvwxyz0123456789") rfl)
theorem Tx.s_FIGURES (T : Tx w K mg) : ∃ t, mg "FIGURES" = some (.str "0123456789" t) := let ⟨_, c⟩ := T; He.str_ok c.1 c.2.1 (c.2.2.1.fact 49 (f := .str "FIGURES" "0123456789") rfl)
theorem Tx.c_Event (T : Tx w K mg) : Cls K (He.ga K "Event") := let ⟨_, c⟩ := T; He.cls_ok (c.2.2.1.fact 50 (f := .cls "Event") rfl)
theorem Tx.c_Order (T : Tx w K mg) : Cls K (He.ga K "Order") := let ⟨_, c⟩ := T; He.cls_ok (c.2.2.1.fact 51 (f := .cls "Order") rfl)
theorem Tx.k_Event (T : Tx w K mg) : Mk K (He.ga K "Event") (He.ma K (He.ga K "Event") "__init__") := let ⟨_, c⟩ := T; He.mkr_ok (c.2.2.1.fact 52 (f := .mkr "Event") rfl)
theorem Tx.k_Order (T : Tx w K mg) : Mk K (He.ga K "Order") (He.ma K (He.ga K "Order") "__init__") := let ⟨_, c⟩ := T; He.mkr_ok (c.2.2.1.fact 53 (f := .mkr "Order") rfl)
theorem Tx.m_Event_eq (T : Tx w K mg) : Meth K (He.ga K "Event") "__eq__" (He.ma K (He.ga K "Event") "__eq__") := let ⟨_, c⟩ := T; He.meth_ok (c.2.2.1.fact 54 (f := .meth "Event" "__eq__") rfl)
theorem Tx.m_Order_eq (T : Tx w K mg) : Meth K (He.ga K "Order") "__eq__" (He.ma K (He.ga K "Order") "__eq__") := let ⟨_, c⟩ := T; He.meth_ok (c.2.2.1.fact 55 (f := .meth "Order" "__eq__") rfl)
theorem Tx.m_Order_iter (T : Tx w K mg) : Meth K (He.ga K "Order") "__iter__" (He.ma K (He.ga K "Order") "__iter__") := let ⟨_, c⟩ := T; He.meth_ok (c.2.2.1.fact 56 (f := .meth "Order" "__iter__") rfl)
theorem Tx.n_Event_name (T : Tx w K mg) : NoAttr K (He.ga K "Event") "name" := let ⟨_, c⟩ := T; He.noat_ok (c.2.2.1.fact 57 (f := .noat "Event" "name") rfl)
theorem Tx.n_Event_end (T : Tx w K mg) : NoAttr K (He.ga K "Event") "end" := let ⟨_, c⟩ := T; He.noat_ok (c.2.2.1.fact 58 (f := .noat "Event" "end") rfl)
theorem Tx.n_Event_kind (T : Tx w K mg) : NoAttr K (He.ga K "Event") "kind" := let ⟨_, c⟩ := T; He.noat_ok (c.2.2.1.fact 59 (f := .noat "Event" "kind") rfl)
theorem Tx.n_Event_needs (T : Tx w K mg) : NoAttr K (He.ga K "Event") "needs" := let ⟨_, c⟩ := T; He.noat_ok (c.2.2.1.fact 60 (f := .noat "Event" "needs") rfl)
theorem Tx.n_Order_events (T : Tx w K mg) : NoAttr K (He.ga K "Order") "events" := let ⟨_, c⟩ := T; He.noat_ok (c.2.2.1.fact 61 (f := .noat "Order" "events") rfl)
theorem Tx.n_Order__names (T : Tx w K mg) : NoAttr K (He.ga K "Order") "_names" := let ⟨_, c⟩ := T; He.noat_ok (c.2.2.1.fact 62 (f := .noat "Order" "_names") rfl)
theorem Tx.n_BadOrder_what (T : Tx w K mg) : NoAttr K (He.ga K "BadOrder") "what" := let ⟨_, c⟩ := T; He.noat_ok (c.2.2.1.fact 63 (f := .noat "BadOrder" "what") rfl)
theorem Tx.n_BadOrder_name (T : Tx w K mg) : NoAttr K (He.ga K "BadOrder") "name" := let ⟨_, c⟩ := T; He.noat_ok (c.2.2.1.fact 64 (f := .noat "BadOrder" "name") rfl)
theorem Tx.n_BadOrder_told (T : Tx w K mg) : NoAttr K (He.ga K "BadOrder") "told" := let ⟨_, c⟩ := T; He.noat_ok (c.2.2.1.fact 65 (f := .noat "BadOrder" "told") rfl)
theorem Tx.n_BadText_told (T : Tx w K mg) : NoAttr K (He.ga K "BadText") "told" := let ⟨_, c⟩ := T; He.noat_ok (c.2.2.1.fact 66 (f := .noat "BadText" "told") rfl)
theorem Tx.n_BadText_row (T : Tx w K mg) : NoAttr K (He.ga K "BadText") "row" := let ⟨_, c⟩ := T; He.noat_ok (c.2.2.1.fact 67 (f := .noat "BadText" "row") rfl)
theorem Tx.x_BadText_BadText (T : Tx w K mg) : PySem.W.exmOne K (.ref (He.ga K "BadText")) (.ref (He.ga K "BadText")) = some true := let ⟨_, c⟩ := T; He.exm_ok (c.2.2.1.fact 68 (f := .exm "BadText" "BadText" true) rfl)
theorem Tx.x_BadOrder_BadText (T : Tx w K mg) : PySem.W.exmOne K (.ref (He.ga K "BadOrder")) (.ref (He.ga K "BadText")) = some false := let ⟨_, c⟩ := T; He.exm_ok (c.2.2.1.fact 69 (f := .exm "BadOrder" "BadText" false) rfl)
theorem Tx.x_BadOrder_BadOrder (T : Tx w K mg) : PySem.W.exmOne K (.ref (He.ga K "BadOrder")) (.ref (He.ga K "BadOrder")) = some true := let ⟨_, c⟩ := T; He.exm_ok (c.2.2.1.fact 70 (f := .exm "BadOrder" "BadOrder" true) rfl)
theorem Tx.ox_BadOrder (T : Tx w K mg) : OexC K (He.ga K "BadOrder") := let ⟨_, c⟩ := T; oexAll_ok (exA_ok c.2.2.2 0 (q := fun K => oexAll K (He.ga K "BadOrder")) rfl)
theorem Tx.ox_BadText (T : Tx w K mg) : OexC K (He.ga K "BadText") := let ⟨_, c⟩ := T; oexAll_ok (exA_ok c.2.2.2 1 (q := fun K => oexAll K (He.ga K "BadText")) rfl)
theorem Tx.xf_BadOrder (T : Tx w K mg) : XfC K (He.ga K "BadOrder") := let ⟨_, c⟩ := T; xfB_ok (exA_ok c.2.2.2 2 (q := fun K => xfB K (He.ga K "BadOrder")) rfl)
theorem Tx.xf_BadText (T : Tx w K mg) : XfC K (He.ga K "BadText") := let ⟨_, c⟩ := T; xfB_ok (exA_ok c.2.2.2 3 (q := fun K => xfB K (He.ga K "BadText")) rfl)
theorem Tx.fi_BadOrder (T : Tx w K mg) : PySem.W.findIn K (.ref (He.ga K "BadOrder")) "__init__" = some (some (.ref (He.ma K (He.ga K "BadOrder") "__init__"))) := let ⟨_, c⟩ := T; of_decide_eq_true (exA_ok c.2.2.2 4 (q := fun K => decide (PySem.W.findIn K (.ref (He.ga K "BadOrder")) "__init__" = some (some (.ref (He.ma K (He.ga K "BadOrder") "__init__"))))) rfl)
theorem Tx.fi_BadText (T : Tx w K mg) : PySem.W.findIn K (.ref (He.ga K "BadText")) "__init__" = some (some (.ref (He.ma K (He.ga K "BadText") "__init__"))) := let ⟨_, c⟩ := T; of_decide_eq_true (exA_ok c.2.2.2 5 (q := fun K => decide (PySem.W.findIn K (.ref (He.ga K "BadText")) "__init__" = some (some (.ref (He.ma K (He.ga K "BadText") "__init__"))))) rfl)
theorem Tx.ft_BadOrder (T : Tx w K mg) : PySem.W.typeIn K (.ref (He.ma K (He.ga K "BadOrder") "__init__")) = some (.type "function") := let ⟨_, c⟩ := T; of_decide_eq_true (exA_ok c.2.2.2 6 (q := fun K => decide (PySem.W.typeIn K (.ref (He.ma K (He.ga K "BadOrder") "__init__")) = some (.type "function"))) rfl)
theorem Tx.ft_BadText (T : Tx w K mg) : PySem.W.typeIn K (.ref (He.ma K (He.ga K "BadText") "__init__")) = some (.type "function") := let ⟨_, c⟩ := T; of_decide_eq_true (exA_ok c.2.2.2 7 (q := fun K => decide (PySem.W.typeIn K (.ref (He.ma K (He.ga K "BadText") "__init__")) = some (.type "function"))) rfl)
theorem Tx.ne_Event (T : Tx w K mg) : eqcB K (He.ga K "Event") = true := let ⟨_, c⟩ := T; id (exA_ok c.2.2.2 8 (q := fun K => eqcB K (He.ga K "Event")) rfl)
theorem Tx.ne_Order (T : Tx w K mg) : eqcB K (He.ga K "Order") = true := let ⟨_, c⟩ := T; id (exA_ok c.2.2.2 9 (q := fun K => eqcB K (He.ga K "Order")) rfl)
theorem Tx.in_Event (T : Tx w K mg) : InsC K (He.ga K "Event") := let ⟨_, c⟩ := T; insB_ok (exA_ok c.2.2.2 10 (q := fun K => insB K (He.ga K "Event")) rfl)
theorem Tx.in_Order (T : Tx w K mg) : InsC K (He.ga K "Order") := let ⟨_, c⟩ := T; insB_ok (exA_ok c.2.2.2 11 (q := fun K => insB K (He.ga K "Order")) rfl)
theorem Tx.it_Order (T : Tx w K mg) : (decide (PySem.W.findIn K (.ref (He.ga K "Order")) "__iter__" = some (some (.ref (He.ma K (He.ga K "Order") "__iter__")))) && PySem.W.isFn K (.ref (He.ma K (He.ga K "Order") "__iter__"))) = true := let ⟨_, c⟩ := T; id (exA_ok c.2.2.2 12 (q := fun K => decide (PySem.W.findIn K (.ref (He.ga K "Order")) "__iter__" = some (some (.ref (He.ma K (He.ga K "Order") "__iter__")))) && PySem.W.isFn K (.ref (He.ma K (He.ga K "Order") "__iter__"))) rfl)
theorem Tx.cf_AskedError_init (T : Tx w K mg) : Ax.ClsFn K (He.ga K "AskedError") "__init__" (He.ma K (He.ga K "AskedError") "__init__") := let ⟨_, c⟩ := T; clsfnB_ok (exA_ok c.2.2.2 13 (q := fun K => clsfnB K (He.ga K "AskedError") "__init__") rfl)
theorem Tx.t_KINDS (T : Tx w K mg) : ∀ H : Hp, SqT K H (He.ga K "KINDS") [.str "query", .str "action"] := let ⟨_, c⟩ := T; He.tupB_ok (exA_ok c.2.2.2 14 (q := fun K => He.tupB K "KINDS" [.str "query", .str "action"]) rfl)
theorem Tx.f_AskedError_init (T : Tx w K mg) : ∃ fd, FunD K "__init__" "AskedError.__init__" (defArgs s_AskedError_init) (defBody s_AskedError_init) (defScope s_AskedError_init) (d_AskedError_init.dvs K) [] (He.fAd K d_AskedError_init.at_) fd := let ⟨_, c⟩ := T; c.2.2.1.def_ 0 (d := d_AskedError_init) rfl
theorem Tx.f_BadOrder_init (T : Tx w K mg) : ∃ fd, FunD K "__init__" "BadOrder.__init__" (defArgs s_BadOrder_init) (defBody s_BadOrder_init) (defScope s_BadOrder_init) (d_BadOrder_init.dvs K) [] (He.fAd K d_BadOrder_init.at_) fd := let ⟨_, c⟩ := T; c.2.2.1.def_ 1 (d := d_BadOrder_init) rfl
theorem Tx.f_BadText_init (T : Tx w K mg) : ∃ fd, FunD K "__init__" "BadText.__init__" (defArgs s_BadText_init) (defBody s_BadText_init) (defScope s_BadText_init) (d_BadText_init.dvs K) [] (He.fAd K d_BadText_init.at_) fd := let ⟨_, c⟩ := T; c.2.2.1.def_ 2 (d := d_BadText_init) rfl
theorem Tx.f_is_whole (T : Tx w K mg) : ∃ fd, FunD K "is_whole" "is_whole" (defArgs s_is_whole) (defBody s_is_whole) (defScope s_is_whole) (d_is_whole.dvs K) [] (He.fAd K d_is_whole.at_) fd := let ⟨_, c⟩ := T; c.2.2.1.def_ 3 (d := d_is_whole) rfl
theorem Tx.f_is_between (T : Tx w K mg) : ∃ fd, FunD K "is_between" "is_between" (defArgs s_is_between) (defBody s_is_between) (defScope s_is_between) (d_is_between.dvs K) [] (He.fAd K d_is_between.at_) fd := let ⟨_, c⟩ := T; c.2.2.1.def_ 4 (d := d_is_between) rfl
theorem Tx.f_is_name (T : Tx w K mg) : ∃ fd, FunD K "is_name" "is_name" (defArgs s_is_name) (defBody s_is_name) (defScope s_is_name) (d_is_name.dvs K) [] (He.fAd K d_is_name.at_) fd := let ⟨_, c⟩ := T; c.2.2.1.def_ 5 (d := d_is_name) rfl
theorem Tx.f_Event_init (T : Tx w K mg) : ∃ fd, FunD K "__init__" "Event.__init__" (defArgs s_Event_init) (defBody s_Event_init) (defScope s_Event_init) (d_Event_init.dvs K) [] (He.fAd K d_Event_init.at_) fd := let ⟨_, c⟩ := T; c.2.2.1.def_ 6 (d := d_Event_init) rfl
theorem Tx.f_Event_eq (T : Tx w K mg) : ∃ fd, FunD K "__eq__" "Event.__eq__" (defArgs s_Event_eq) (defBody s_Event_eq) (defScope s_Event_eq) (d_Event_eq.dvs K) [] (He.fAd K d_Event_eq.at_) fd := let ⟨_, c⟩ := T; c.2.2.1.def_ 7 (d := d_Event_eq) rfl
theorem Tx.f_Order_init (T : Tx w K mg) : ∃ fd, FunD K "__init__" "Order.__init__" (defArgs s_Order_init) (defBody s_Order_init) (defScope s_Order_init) (d_Order_init.dvs K) [] (He.fAd K d_Order_init.at_) fd := let ⟨_, c⟩ := T; c.2.2.1.def_ 8 (d := d_Order_init) rfl
theorem Tx.f_Order_eq (T : Tx w K mg) : ∃ fd, FunD K "__eq__" "Order.__eq__" (defArgs s_Order_eq) (defBody s_Order_eq) (defScope s_Order_eq) (d_Order_eq.dvs K) [] (He.fAd K d_Order_eq.at_) fd := let ⟨_, c⟩ := T; c.2.2.1.def_ 9 (d := d_Order_eq) rfl
theorem Tx.f_Order_iter (T : Tx w K mg) : ∃ fd, FunD K "__iter__" "Order.__iter__" (defArgs s_Order_iter) (defBody s_Order_iter) (defScope s_Order_iter) (d_Order_iter.dvs K) [] (He.fAd K d_Order_iter.at_) fd := let ⟨_, c⟩ := T; c.2.2.1.def_ 10 (d := d_Order_iter) rfl
theorem Tx.f_event_fault (T : Tx w K mg) : ∃ fd, FunD K "event_fault" "event_fault" (defArgs s_event_fault) (defBody s_event_fault) (defScope s_event_fault) (d_event_fault.dvs K) [] (He.fAd K d_event_fault.at_) fd := let ⟨_, c⟩ := T; c.2.2.1.def_ 11 (d := d_event_fault) rfl
theorem Tx.f_are_needs (T : Tx w K mg) : ∃ fd, FunD K "are_needs" "are_needs" (defArgs s_are_needs) (defBody s_are_needs) (defScope s_are_needs) (d_are_needs.dvs K) [] (He.fAd K d_are_needs.at_) fd := let ⟨_, c⟩ := T; c.2.2.1.def_ 12 (d := d_are_needs) rfl
theorem Tx.f_rows_of (T : Tx w K mg) : ∃ fd, FunD K "rows_of" "rows_of" (defArgs s_rows_of) (defBody s_rows_of) (defScope s_rows_of) (d_rows_of.dvs K) [] (He.fAd K d_rows_of.at_) fd := let ⟨_, c⟩ := T; c.2.2.1.def_ 13 (d := d_rows_of) rfl
theorem Tx.f_words_of (T : Tx w K mg) : ∃ fd, FunD K "words_of" "words_of" (defArgs s_words_of) (defBody s_words_of) (defScope s_words_of) (d_words_of.dvs K) [] (He.fAd K d_words_of.at_) fd := let ⟨_, c⟩ := T; c.2.2.1.def_ 14 (d := d_words_of) rfl
theorem Tx.f_read_figure (T : Tx w K mg) : ∃ fd, FunD K "read_figure" "read_figure" (defArgs s_read_figure) (defBody s_read_figure) (defScope s_read_figure) (d_read_figure.dvs K) [] (He.fAd K d_read_figure.at_) fd := let ⟨_, c⟩ := T; c.2.2.1.def_ 15 (d := d_read_figure) rfl
theorem Tx.f_order_text (T : Tx w K mg) : ∃ fd, FunD K "order_text" "order_text" (defArgs s_order_text) (defBody s_order_text) (defScope s_order_text) (d_order_text.dvs K) [] (He.fAd K d_order_text.at_) fd := let ⟨_, c⟩ := T; c.2.2.1.def_ 16 (d := d_order_text) rfl
theorem Tx.f_event_row (T : Tx w K mg) : ∃ fd, FunD K "event_row" "event_row" (defArgs s_event_row) (defBody s_event_row) (defScope s_event_row) (d_event_row.dvs K) [] (He.fAd K d_event_row.at_) fd := let ⟨_, c⟩ := T; c.2.2.1.def_ 17 (d := d_event_row) rfl
theorem Tx.f_parse_order (T : Tx w K mg) : ∃ fd, FunD K "parse_order" "parse_order" (defArgs s_parse_order) (defBody s_parse_order) (defScope s_parse_order) (d_parse_order.dvs K) [] (He.fAd K d_parse_order.at_) fd := let ⟨_, c⟩ := T; c.2.2.1.def_ 18 (d := d_parse_order) rfl
theorem Tx.f_read_events (T : Tx w K mg) : ∃ fd, FunD K "read_events" "read_events" (defArgs s_read_events) (defBody s_read_events) (defScope s_read_events) (d_read_events.dvs K) [] (He.fAd K d_read_events.at_) fd := let ⟨_, c⟩ := T; c.2.2.1.def_ 19 (d := d_read_events) rfl
theorem Tx.f_read_event (T : Tx w K mg) : ∃ fd, FunD K "read_event" "read_event" (defArgs s_read_event) (defBody s_read_event) (defScope s_read_event) (d_read_event.dvs K) [] (He.fAd K d_read_event.at_) fd := let ⟨_, c⟩ := T; c.2.2.1.def_ 20 (d := d_read_event) rfl
theorem Tx.f_law_bag (T : Tx w K mg) : ∃ fd, FunD K "_law_bag" "_law_bag" (defArgs s_law_bag) (defBody s_law_bag) (defScope s_law_bag) (d_law_bag.dvs K) [] (He.fAd K d_law_bag.at_) fd := let ⟨_, c⟩ := T; c.2.2.1.def_ 21 (d := d_law_bag) rfl
theorem Tx.f_law_draw (T : Tx w K mg) : ∃ fd, FunD K "_law_draw" "_law_draw" (defArgs s_law_draw) (defBody s_law_draw) (defScope s_law_draw) (d_law_draw.dvs K) [] (He.fAd K d_law_draw.at_) fd := let ⟨_, c⟩ := T; c.2.2.1.def_ 22 (d := d_law_draw) rfl
theorem Tx.f_law_names (T : Tx w K mg) : ∃ fd, FunD K "_law_names" "_law_names" (defArgs s_law_names) (defBody s_law_names) (defScope s_law_names) (d_law_names.dvs K) [] (He.fAd K d_law_names.at_) fd := let ⟨_, c⟩ := T; c.2.2.1.def_ 23 (d := d_law_names) rfl
theorem Tx.f_law_drawn_events (T : Tx w K mg) : ∃ fd, FunD K "_law_drawn_events" "_law_drawn_events" (defArgs s_law_drawn_events) (defBody s_law_drawn_events) (defScope s_law_drawn_events) (d_law_drawn_events.dvs K) [] (He.fAd K d_law_drawn_events.at_) fd := let ⟨_, c⟩ := T; c.2.2.1.def_ 24 (d := d_law_drawn_events) rfl
theorem Tx.f_law_text (T : Tx w K mg) : ∃ fd, FunD K "_law_text" "_law_text" (defArgs s_law_text) (defBody s_law_text) (defScope s_law_text) (d_law_text.dvs K) [] (He.fAd K d_law_text.at_) fd := let ⟨_, c⟩ := T; c.2.2.1.def_ 25 (d := d_law_text) rfl
theorem Tx.f_law_is_name (T : Tx w K mg) : ∃ fd, FunD K "_law_is_name" "_law_is_name" (defArgs s_law_is_name) (defBody s_law_is_name) (defScope s_law_is_name) (d_law_is_name.dvs K) [] (He.fAd K d_law_is_name.at_) fd := let ⟨_, c⟩ := T; c.2.2.1.def_ 26 (d := d_law_is_name) rfl
theorem Tx.f_law_read (T : Tx w K mg) : ∃ fd, FunD K "_law_read" "_law_read" (defArgs s_law_read) (defBody s_law_read) (defScope s_law_read) (d_law_read.dvs K) [] (He.fAd K d_law_read.at_) fd := let ⟨_, c⟩ := T; c.2.2.1.def_ 27 (d := d_law_read) rfl
theorem Tx.f_law_spoiled (T : Tx w K mg) : ∃ fd, FunD K "_law_spoiled" "_law_spoiled" (defArgs s_law_spoiled) (defBody s_law_spoiled) (defScope s_law_spoiled) (d_law_spoiled.dvs K) [] (He.fAd K d_law_spoiled.at_) fd := let ⟨_, c⟩ := T; c.2.2.1.def_ 28 (d := d_law_spoiled) rfl
theorem Tx.f_law_made (T : Tx w K mg) : ∃ fd, FunD K "_law_made" "_law_made" (defArgs s_law_made) (defBody s_law_made) (defScope s_law_made) (d_law_made.dvs K) [] (He.fAd K d_law_made.at_) fd := let ⟨_, c⟩ := T; c.2.2.1.def_ 29 (d := d_law_made) rfl
theorem Tx.f_law_back_right (T : Tx w K mg) : ∃ fd, FunD K "_law_back_right" "_law_back_right" (defArgs s_law_back_right) (defBody s_law_back_right) (defScope s_law_back_right) (d_law_back_right.dvs K) [] (He.fAd K d_law_back_right.at_) fd := let ⟨_, c⟩ := T; c.2.2.1.def_ 30 (d := d_law_back_right) rfl
theorem Tx.f_law_no_text (T : Tx w K mg) : ∃ fd, FunD K "_law_no_text" "_law_no_text" (defArgs s_law_no_text) (defBody s_law_no_text) (defScope s_law_no_text) (d_law_no_text.dvs K) [] (He.fAd K d_law_no_text.at_) fd := let ⟨_, c⟩ := T; c.2.2.1.def_ 31 (d := d_law_no_text) rfl
theorem Tx.f_law (T : Tx w K mg) : ∃ fd, FunD K "law" "law" (defArgs s_law) (defBody s_law) (defScope s_law) (d_law.dvs K) [] (He.fAd K d_law.at_) fd := let ⟨_, c⟩ := T; c.2.2.1.def_ 32 (d := d_law) rfl
end
end K00
set_option maxHeartbeats 1000000
namespace K00
open PySem PySem.Spec PyProof.Rows L2 Ax
section
variable {P : Program} {w : World} {K : PySem.W.Frag} {mg : Str → Option Value} {base : Heap}
/-! ### is_whole, is_between -/
def spWhole : Sp := fun vs H Q _ => ∃ x, vs = [x] ∧ ((∃ i, x = .int i ∧ Q (.bl true) H) ∨ (x = .non ∧ Q (.bl false) H))
theorem ok_whole (T : Tx w K mg) : Dn P w K mg base CX0 1 "is_whole" ["thing"] spWhole := by
  obtain ⟨fd, F⟩ := T.f_is_whole
  refine ⟨_, fd, F.ok sc_is_whole (fun vs H Q E h => ?_) (fun cdv A outer s H vs Q E hr h => ⟨_, PSs.nox (pss_one (ps_ret
    (pe_and (pe_callB call_isi rfl T.b_isinstance (by decide +kernel) (pa_cons (pv 0) (pa_cons (pe_bltn (v := .ty "int") (by rfl) T.b_int (by decide +kernel) rfl) pa_nil)))
      (pe_one (pe_not (pe_callB call_isi rfl T.b_isinstance (by decide +kernel) (pa_cons (pv 0) (pa_cons (pe_bltn (v := .ty "bool") (by rfl) T.b_bool (by decide +kernel) rfl) pa_nil)))))))), ?_⟩), T.g_is_whole, F.kp, F.bindsN fun _ _ _ _ _ _ us hl => match us, hl with | [_], _ => rfl⟩
  · obtain ⟨x, rfl, _⟩ := h
    rfl
  · obtain ⟨x, rfl, ⟨i, rfl, h⟩ | ⟨rfl, h⟩⟩ := h
    · refine ⟨_, rfl, _, _, _, _, true, rfl, ClsV.ty "int", .base (.int i), kit_ty (by decide +kernel), true, rfl, ?_⟩
      refine ⟨_, rfl, _, _, _, _, false, rfl, ClsV.ty "bool", .base (.int i), kit_ty (by decide +kernel), false, rfl, ?_⟩
      exact h
    · refine ⟨_, rfl, _, _, _, _, false, rfl, ClsV.ty "int", .base .non, kit_ty (by decide +kernel), false, rfl, ?_⟩
      exact h
def spBetween : Sp := fun vs H Q _ => ∃ (x : V) (lo hi : Int), vs = [x, .int lo, .int hi] ∧ ((∃ i, x = .int i ∧ Q (.bl (decide (lo ≤ i ∧ i ≤ hi))) H) ∨ (x = .non ∧ Q (.bl false) H))
theorem ok_between (T : Tx w K mg) : Dn P w K mg base CX0 2 "is_between" ["thing", "least", "most"] spBetween := by
  obtain ⟨fd, F⟩ := T.f_is_between
  refine ⟨_, fd, F.ok sc_is_between (fun vs H Q E h => ?_) (fun cdv A outer s H vs Q E hr h => ⟨_, PSs.nox (pss_one (ps_ret
    (pe_and (pe_dn (ok_whole T) hr rfl pass0 (pa_cons (pv 0) pa_nil)) (pe_one (pe_chain op_le op_le (pv 1) (pv 0) (pv 2)))))), ?_⟩), T.g_is_between, F.kp, F.bindsN fun _ _ _ _ _ _ us hl => match us, hl with | [_, _, _], _ => rfl⟩
  · obtain ⟨x, lo, hi, rfl, _⟩ := h
    rfl
  · obtain ⟨x, lo, hi, rfl, ⟨i, rfl, h⟩ | ⟨rfl, h⟩⟩ := h
    · refine ⟨_, rfl, _, rfl, .inl ⟨i, rfl, true, rfl, ?_⟩⟩
      refine ⟨_, rfl, _, rfl, _, _, rfl, rfl, _, rfl, ?_⟩
      by_cases c : lo ≤ i
      · rw [if_pos (decide_eq_true c)]
        refine ⟨_, rfl, _, _, rfl, rfl, ?_⟩
        have e : decide (i ≤ hi) = decide (lo ≤ i ∧ i ≤ hi) := by simp [c]
        show Q (.bl (decide (i ≤ hi))) H
        rw [e]
        exact h
      · rw [if_neg (by rw [decide_eq_false c]; decide)]
        have e : false = decide (lo ≤ i ∧ i ≤ hi) := by simp [c]
        show Q (.bl false) H
        rw [e]
        exact h
    · exact ⟨_, rfl, _, rfl, .inr ⟨rfl, false, rfl, h⟩⟩
/-! ### is_name -/
def letL : List Nat := ("abcdefghijklmnopqrstuvwxyz" : Str).cps.toList
def sigL : List Nat := ("abcdefghijklmnopqrstuvwxyz0123456789" : Str).cps.toList
def isNm (x : Str) : Bool := decide (1 ≤ x.length ∧ x.length ≤ 8) && (x.cps.toList.take 1).all (fun c => decide (c ∈ letL)) && x.cps.toList.all (fun c => decide (c ∈ sigL))
def spName : Sp := fun vs H Q _ => ∃ x : Str, vs = [.str x] ∧ x.length ≤ sizeLine ∧ ∀ H', Ext H H' → Q (.bl (isNm x)) H'
theorem ok_name (T : Tx w K mg) : Dn P w K mg base CX0 1 "is_name" ["thing"] spName := by
  obtain ⟨fd, F⟩ := T.f_is_name
  obtain ⟨t1, e1⟩ := T.s_LETTERS
  obtain ⟨t2, e2⟩ := T.s_SIGNS
  obtain ⟨t3, e3⟩ := T.i_LONGEST_NAME
  refine ⟨_, fd, F.ok sc_is_name (fun vs H Q E h => ?_) (fun cdv A outer s H vs Q E hr h => ⟨_, PSs.nox (pss_cons
    (ps_if (PW.pt (pw_or (pt_not (pt_val (pe_callB call_isi rfl T.b_isinstance (by decide +kernel) (pa_cons (pv 0) (pa_cons (pe_bltn (v := .ty "str") (by rfl) T.b_str (by decide +kernel) rfl) pa_nil)))))
        (pw_or1 (pt_not (pt_chain op_le op_le pe_int (pe_callB call_len_str rfl T.b_len (by decide +kernel) (pa_cons (pv 0) pa_nil)) (pe_glob (v := .int 8) rfl e3 ⟨_, rfl⟩))))))
      (pss_one (ps_ret pe_bl)) pss_nil)
    (pss_one (ps_ret (pe_and (pe_cmpR op_in_sign (pe_item_str (pv 0) pe_int (fun _ _ => rfl)) (pe_glob (v := .str "abcdefghijklmnopqrstuvwxyz") rfl e1 ⟨_, rfl⟩) rfl)
      (pe_one (pe_callB (cr_all rfl) rfl T.b_all (by decide +kernel) (pa_cons
        (pe_lc (own := [("sign", 1)]) (g := gName 1) (tt := tYes) (by rfl) sc_is_name.nd (pi_str (pv 0)) (blkOk_by (own := [("sign", 1)]) (N := n_is_name) (sc := defScope s_is_name) (by decide +kernel)) (fun _ _ _ _ _ => pg_name (i := 1) sc_is_name.nd rfl (Or.inl rfl)) (fun _ _ _ _ _ => pts_nil)
          (fun _ _ _ _ _ => pe_cmpR op_in_sign (pv 1) (pe_glob (v := .str "abcdefghijklmnopqrstuvwxyz0123456789") rfl e2 ⟨_, rfl⟩) rfl)) pa_nil))))))), ?_⟩), T.g_is_name, F.kp, F.bindsN fun _ _ _ _ _ _ us hl => match us, hl with | [_], _ => rfl⟩
  · obtain ⟨x, rfl, _⟩ := h
    rfl
  · obtain ⟨x, rfl, hl, h⟩ := h
    refine ⟨_, rfl, _, _, _, _, true, rfl, ClsV.ty "str", .base (.str x), kit_ty (by decide +kernel), true, rfl, ?_⟩
    refine iteF ?_
    refine ⟨_, rfl, _, rfl, hl, _, _, rfl, rfl, _, rfl, ?_⟩
    by_cases c1 : (1 : Int) ≤ (x.length : Int)
    · rw [if_pos (decide_eq_true c1)]
      refine ⟨_, _, rfl, rfl, _, rfl, ?_⟩
      by_cases c2 : (x.length : Int) ≤ 8
      · rw [decide_eq_true c2]
        refine iteF ?_
        have hlen : 0 < x.cps.size := by
          have : x.cps.size = x.length := rfl
          omega
        obtain ⟨c, hc⟩ : ∃ c, x.cps[0]? = some c := ⟨x.cps[0], by simp [hlen]⟩
        refine ⟨_, rfl, _, _, c, rfl, rfl, by decide, by decide, by omega, hc, _, _, rfl, rfl, _, rfl, ?_⟩
        have hcl : x.cps.toList[0]? = some c := by rw [Array.getElem?_toList]; exact hc
        have htk : x.cps.toList.take 1 = [c] := by
          cases q : x.cps.toList with
          | nil => rw [q] at hcl; cases hcl
          | cons d l =>
            rw [q] at hcl
            have e : d = c := Option.some.inj hcl
            rw [e]
            rfl
        have hnm : isNm x = (decide (c ∈ letL) && x.cps.toList.all (fun c => decide (c ∈ sigL))) := by
          unfold isNm
          rw [htk, decide_eq_true (⟨by omega, by omega⟩ : 1 ≤ x.length ∧ x.length ≤ 8)]
          simp
        by_cases c3 : c ∈ letL
        · rw [if_pos (show decide (c ∈ (Str.ofString "abcdefghijklmnopqrstuvwxyz").cps.toList) = true from decide_eq_true c3)]
          refine ⟨_, rfl, x, rfl, fun D hD => ?_⟩
          refine lc_acc walk_str hD (fun i acc B => B = H ∧ acc = (x.cps.toList.take i).map fun c => V.bl (decide (c ∈ sigL))) ⟨rfl, rfl⟩ (fun _ _ _ _ _ _ => trivial) ?_ ?_
          · rintro i y H1 H' acc hi hacc hl2 ⟨eB, ea⟩ ⟨eH, d, hd, ey⟩
            subst ey eH
            refine ⟨rfl, ?_⟩
            refine yes_go (iteT ?_)
            refine ⟨_, rfl, d, _, rfl, rfl, ?_⟩
            refine acc_add hacc hl2 (by have : x.cps.size = x.length := rfl; omega) ⟨eB, ?_⟩
            have hdl : x.cps.toList[i]? = some d := by rw [Array.getElem?_toList]; exact hd
            rw [ea, List.take_add_one, hdl, List.map_append]
            rfl
          · rintro H1 acc hacc hl2 ⟨eB, ea⟩
            have ea2 : acc = (x.cps.toList.map fun c => decide (c ∈ sigL)).map V.bl := by
              rw [ea, List.map_map, List.take_of_length_le (by simp)]
              rfl
            rw [ea2] at hacc
            refine ⟨D, _, rfl, SqL.of hacc, ?_⟩
            have e : (x.cps.toList.map fun c => decide (c ∈ sigL)).all id = isNm x := by
              rw [hnm, decide_eq_true c3, Bool.true_and, List.all_map]
              rfl
            rw [e]
            refine h _ ?_
            rw [← eB]
            exact ext_del
        · rw [if_neg (by rw [show decide (c ∈ (Str.ofString "abcdefghijklmnopqrstuvwxyz").cps.toList) = false from decide_eq_false c3]; decide)]
          have e : false = isNm x := by rw [hnm, decide_eq_false c3]; rfl
          show Q (.bl false) H
          rw [e]
          exact h H Ext.rfl'
      · rw [decide_eq_false c2]
        refine iteT ?_
        have e : false = isNm x := by unfold isNm; simp; omega
        show Q (.bl false) H
        rw [e]
        exact h H Ext.rfl'
    · rw [if_neg (by rw [decide_eq_false c1]; decide)]
      refine ⟨_, rfl, ?_⟩
      refine iteT ?_
      have e : false = isNm x := by unfold isNm; simp; omega
      show Q (.bl false) H
      rw [e]
      exact h H Ext.rfl'
end
end K00
set_option maxHeartbeats 1000000
namespace K00
open PySem PySem.Spec PyProof.Rows L2 Ax
structure Ev where
  name : Str
  fin : Int
  kind : Str
  needs : List Str
/-- all but a stays -/
def Off (a : Addr) (H H' : Hp) : Prop := ∀ b o, b ≠ a → H b = some o → H' b = some o
theorem Ext.off {H H' : Hp} {a : Addr} (e : Ext H H') : Off a H H' := fun b o _ h => e b o h
theorem Off.upd {H H' : Hp} {a : Addr} {o : HO} (e : Off a H H') : Off a H (upd H' a o) := fun b u hb h => by
  rw [upd_ne hb]
  exact e b u hb h
theorem Off.trans {H H1 H2 : Hp} {a : Addr} (e : Off a H H1) (e2 : Off a H1 H2) : Off a H H2 := fun b o hb h => e2 b o hb (e b o hb h)
theorem sqL_ne {K : PySem.W.Frag} {H H' : Hp} {x p : Addr} {ys : List V} {o : HO} (h : SqL K H p ys) (hx : H x = some o) (h1 : ∀ zs, o ≠ .lst zs) (h2 : ∀ q u, o ≠ .frz q u) (e : Off x H H') : SqL K H' p ys := by
  rcases h with (h | ⟨q, h⟩) | h
  · refine .inl (.inl (e p _ ?_ h))
    intro c
    rw [c, hx] at h
    exact h1 ys (Option.some.inj h)
  · refine .inl (.inr ⟨q, e p _ ?_ h⟩)
    intro c
    rw [c, hx] at h
    exact h2 _ _ (Option.some.inj h)
  · exact .inr h
theorem sqT_ne {K : PySem.W.Frag} {H H' : Hp} {x p : Addr} {ys : List V} {o : HO} (h : SqT K H p ys) (hx : H x = some o) (h1 : ∀ zs, o ≠ .tup zs) (h2 : ∀ q u, o ≠ .frz q u) (e : Off x H H') : SqT K H' p ys := by
  rcases h with (h | ⟨q, h⟩) | h
  · refine .inl (.inl (e p _ ?_ h))
    intro c
    rw [c, hx] at h
    exact h1 ys (Option.some.inj h)
  · refine .inl (.inr ⟨q, e p _ ?_ h⟩)
    intro c
    rw [c, hx] at h
    exact h2 _ _ (Option.some.inj h)
  · exact .inr h
/-- a tuple without a dict -/
def TupZ (H : Hp) (t : Addr) (xs : List V) : Prop := ∃ ob : Obj, H t = some (.frz ob (.tup xs)) ∧ ob.cls = .type "tuple" ∧ ob.dict = none ∧ ob.slots = #[]
theorem TupZ.sq {K : PySem.W.Frag} {H : Hp} {t : Addr} {xs : List V} (h : TupZ H t xs) : SqT K H t xs := let ⟨ob, h, _⟩ := h; .inl (.inr ⟨ob, h⟩)
theorem TupZ.ext {H H' : Hp} {t : Addr} {xs : List V} (h : TupZ H t xs) (x : Ext H H') : TupZ H' t xs := let ⟨ob, h, a, b⟩ := h; ⟨ob, x _ _ h, a, b⟩
theorem TupZ.ne {H H' : Hp} {t x : Addr} {xs : List V} {o : HO} (h : TupZ H t xs) (hx : H x = some o) (h2 : ∀ q u, o ≠ .frz q u) (e : Off x H H') : TupZ H' t xs := by
  obtain ⟨ob, h, a, b⟩ := h
  refine ⟨ob, e t _ ?_ h, a, b⟩
  intro c
  rw [c, hx] at h
  exact h2 _ _ (Option.some.inj h)
def EvAt (K : PySem.W.Frag) (H : Hp) (a : Addr) (e : Ev) : Prop := ∃ (dx t : Addr) (fs : List (Str × V)), H a = some (.ins (He.ga K "Event") dx fs) ∧ fs.lookup ("name" : Str) = some (.str e.name) ∧ fs.lookup ("end" : Str) = some (.int e.fin) ∧ fs.lookup ("kind" : Str) = some (.str e.kind) ∧
  fs.lookup ("needs" : Str) = some (.ref t) ∧ TupZ H t (e.needs.map V.str)
theorem EvAt.ext {K : PySem.W.Frag} {H H' : Hp} {a : Addr} {e : Ev} (h : EvAt K H a e) (x : Ext H H') : EvAt K H' a e := by
  obtain ⟨dx, t, fs, h1, h2, h3, h4, h5, h6⟩ := h
  exact ⟨dx, t, fs, x _ _ h1, h2, h3, h4, h5, h6.ext x⟩
theorem EvAt.ne {K : PySem.W.Frag} {H H' : Hp} {a x : Addr} {e : Ev} {ys : List V} (h : EvAt K H a e) (hx : H x = some (.lst ys)) (o : Off x H H') : EvAt K H' a e := by
  obtain ⟨dx, t, fs, h1, h2, h3, h4, h5, h6⟩ := h
  refine ⟨dx, t, fs, o _ _ ?_ h1, h2, h3, h4, h5, h6.ne hx (fun _ _ z => by cases z) o⟩
  intro c
  rw [c, hx] at h1
  cases Option.some.inj h1
theorem EvAt.del {K : PySem.W.Frag} {H : Hp} {a x : Addr} {e : Ev} {ys : List V} (h : EvAt K H a e) (hx : H x = some (.lst ys)) : EvAt K (del H x) a e := h.ne hx fun b o hb q => by rw [del_ne hb]; exact q
section
variable {P : Program} {w : World} {K : PySem.W.Frag} {mg : Str → Option Value} {base : Heap}
/-! ### Event -/
def spEvI (K : PySem.W.Frag) : Sp := fun vs H Q _ => ∃ (x dx p : Addr) (e : Ev), vs = [.ref x, .str e.name, .int e.fin, .str e.kind, .ref p] ∧ H x = some (.ins (He.ga K "Event") dx []) ∧ SqL K H p (e.needs.map V.str) ∧ ∀ H', Off x H H' → EvAt K H' x e → Q .non H'
theorem ok_EvI (T : Tx w K mg) : Dc P w K mg base CX0 1 "Event" ["self", "name", "end", "kind", "needs"] (spEvI K) := by
  obtain ⟨fd, F⟩ := T.f_Event_init
  obtain ⟨ds, hv, hb⟩ := F.binds1 5 1 (ps := ["self", "name", "end", "kind", "needs"]) (by intro z; cases z) (by rfl) (fun Ta kV doc pm an cdv ct us its h1 h2 => match us, its, h1, h2 with
    | [_, _, _, _, _], [_], _, _ => ⟨_, rfl, rfl⟩)
  have hds : ds = [] := by
    cases hv
    rfl
  subst hds
  refine ⟨_, fd, F.ok sc_Event_init (fun vs H Q E h => ?_) (fun cdv A outer s H vs Q E hr h => ⟨_, PSs.nox (pss_cons (ps_fld (pv 0) (pv 1) rfl) (pss_cons (ps_fld (pv 0) (pv 2) rfl) (pss_cons (ps_fld (pv 0) (pv 3) rfl) (pss_one
    (ps_fld (pv 0) (pe_callTy call_tupZ rfl T.b_tuple (by decide +kernel) (pa_cons (pv 4) pa_nil)) rfl))))), ?_⟩), T.g_Event, T.k_Event, hb⟩
  · obtain ⟨x, dx, p, e, rfl, _⟩ := h
    rfl
  · obtain ⟨x, dx, p, e, rfl, hx, hp, h⟩ := h
    refine ⟨_, rfl, _, rfl, x, _, dx, [], rfl, hx, T.c_Event, T.n_Event_name, by decide, ?_⟩
    refine ⟨_, rfl, _, rfl, x, _, dx, _, rfl, upd_same, T.c_Event, T.n_Event_end, Nat.le_of_ble_eq_true rfl, ?_⟩
    refine ⟨_, rfl, _, rfl, x, _, dx, _, rfl, upd_same, T.c_Event, T.n_Event_kind, Nat.le_of_ble_eq_true rfl, ?_⟩
    have o3 : Off x H (upd (upd (upd H x (.ins (He.ga K "Event") dx (putF "name" (.str e.name) []))) x (.ins (He.ga K "Event") dx (putF "end" (.int e.fin) (putF "name" (.str e.name) [])))) x (.ins (He.ga K "Event") dx (putF "kind" (.str e.kind) (putF "end" (.int e.fin) (putF "name" (.str e.name) []))))) :=
      ((Ext.off Ext.rfl').upd.upd).upd
    refine ⟨_, rfl, p, _, rfl, sqL_ne hp hx (fun _ z => by cases z) (fun _ _ z => by cases z) o3, fun l ob hl hob hod => ?_⟩
    have hxl : x ≠ l := ne_of_none upd_same hl
    refine ⟨_, rfl, x, _, dx, _, rfl, (upd_ne hxl).trans upd_same, T.c_Event, T.n_Event_needs, Nat.le_of_ble_eq_true rfl, ?_⟩
    refine h _ ?_ ?_
    · exact (o3.trans (Ext.off (Ext.upd hl))).upd
    · exact ⟨dx, l, _, upd_same, rfl, rfl, rfl, rfl, ob, (upd_ne hxl.symm).trans upd_same, hob, hod⟩
def REv (K : PySem.W.Frag) (a b : Addr) (H : Hp) : Prop := ∃ e, EvAt K H a e ∧ EvAt K H b e
theorem kit_own {K : PySem.W.Frag} {C : Addr} : PySem.W.kitOne K (.ref C) (.ref C) = some true := by
  unfold PySem.W.kitOne
  simp
theorem ok_EvEq (T : Tx w K mg) : ∃ fd, FnOk P w K mg base CX0 2 (He.ma K (He.ga K "Event") "__eq__") fd ["self", "other"] (spEq (REv K)) ∧ Binds K fd ["self", "other"] [] := by
  obtain ⟨fd, F⟩ := T.f_Event_eq
  refine ⟨fd, F.ok sc_Event_eq (fun vs H Q E h => ?_) (fun cdv A outer s H vs Q E hr h => ⟨_, PSs.nox (pss_one (ps_ret
    (pe_and (pe_callB call_isi rfl T.b_isinstance (by decide +kernel) (pa_cons (pv 1) (pa_cons (pe_glob (v := .ref (He.ga K "Event")) rfl T.g_Event rfl) pa_nil)))
    (pe_and (pe_cmpR op_eq (pe_fld (pv 0) rfl) (pe_fld (pv 1) rfl) (nomark _)) (pe_and (pe_cmpR op_eq (pe_fld (pv 0) rfl) (pe_fld (pv 1) rfl) (nomark _)) (pe_and (pe_cmpR op_eq (pe_fld (pv 0) rfl) (pe_fld (pv 1) rfl) (nomark _))
    (pe_one (pe_cmpR (op_eqG (rcG_tup mon_flat eqG_flat) hr) (pe_fld (pv 0) rfl) (pe_fld (pv 1) rfl) (nomark _))))))))), ?_⟩), F.bindsN fun _ _ _ _ _ _ us hl => match us, hl with | [_, _], _ => rfl⟩
  · obtain ⟨a, b, rfl, _⟩ := h
    rfl
  · obtain ⟨a, b, rfl, ⟨e, ⟨dx, t, fs, h1, h2, h3, h4, h5, h6⟩, ⟨dy, u, gs, g1, g2, g3, g4, g5, g6⟩⟩, h⟩ := h
    refine ⟨_, rfl, _, _, _, _, true, rfl, ClsV.own _, .base (.ins g1 T.c_Event T.in_Event.ha T.in_Event.hn T.in_Event.htk T.in_Event.hm), kit_own, true, rfl, ?_⟩
    refine iteT ?_
    have f1 := T.c_Event
    refine ⟨_, rfl, a, _, dx, fs, _, rfl, h1, f1, T.n_Event_name, h2, _, rfl, b, _, dy, gs, _, rfl, g1, f1, T.n_Event_name, g2, rfl, _, rfl, ?_⟩
    rw [decide_eq_true rfl]
    refine iteT ?_
    refine ⟨_, rfl, a, _, dx, fs, _, rfl, h1, f1, T.n_Event_end, h3, _, rfl, b, _, dy, gs, _, rfl, g1, f1, T.n_Event_end, g3, rfl, _, rfl, ?_⟩
    rw [decide_eq_true rfl]
    refine iteT ?_
    refine ⟨_, rfl, a, _, dx, fs, _, rfl, h1, f1, T.n_Event_kind, h4, _, rfl, b, _, dy, gs, _, rfl, g1, f1, T.n_Event_kind, g4, rfl, _, rfl, ?_⟩
    rw [decide_eq_true rfl]
    refine iteT ?_
    refine ⟨_, rfl, a, _, dx, fs, _, rfl, h1, f1, T.n_Event_needs, h5, _, rfl, b, _, dy, gs, _, rfl, g1, f1, T.n_Event_needs, g5, ?_, ?_⟩
    · refine ⟨t, u, _, _, rfl, rfl, h6.sq, g6.sq, rfl, fun i x y hx hy => ?_⟩
      rw [hx] at hy
      cases Option.some.inj hy
      rw [List.getElem?_map] at hx
      cases q : e.needs[i]? with
      | none => rw [q] at hx; cases hx
      | some z =>
        rw [q] at hx
        cases Option.some.inj hx
        exact ⟨rfl, rfl, by simp [eqV]⟩
    · exact h
end
end K00
set_option maxHeartbeats 1000000
namespace K00
open PySem PySem.Spec PyProof.Rows L2 Ax
section
variable {P : Program} {w : World} {K : PySem.W.Frag} {mg : Str → Option Value} {base : Heap}
/-! ### the errors -/
/-- what stands where an error was made -/
def spErr (K : PySem.W.Frag) (C : Addr) (n : Nat) (fs : List V → Addr → List (Str × V)) : Sp := fun vs H Q _ => ∃ (a : Addr) (ws : List V), vs = .ref a :: ws ∧ ws.length = n ∧ H a = some (exo a C none) ∧
  ∀ (d t : Addr) H', H d = none → Off a H H' → H' a = some (exo a C (some d)) → H' d = some (exd d (fs ws t)) → H' t = some (.tup ws) → Q .non H'
def fsText (ws : List V) (t : Addr) : List (Str × V) := [("row", ws.getD 0 .non), ("told", .ref t)]
def fsOrder (ws : List V) (t : Addr) : List (Str × V) := [("name", ws.getD 1 .non), ("what", ws.getD 0 .non), ("told", .ref t)]
theorem ok_BadText (T : Tx w K mg) : ∃ fd, FnOk P w K mg base CX0 2 (He.ma K (He.ga K "BadText") "__init__") fd ["self", "row"] (spErr K (He.ga K "BadText") 1 fsText) ∧ Binds K fd ["self", "row"] [] := by
  obtain ⟨fd, F⟩ := T.f_BadText_init
  refine ⟨fd, F.ok sc_BadText_init (fun vs H Q E h => ?_) (fun cdv A outer s H vs Q E hr h => ⟨_, PSs.nox (pss_cons
    (ps_ost (pv 0) (pe_tup (pa_cons (pv 1) pa_nil)))
    (pss_one (ps_ost (pv 0) (pv 1)))), ?_⟩), F.bindsN fun _ _ _ _ _ _ us hl => match us, hl with | [_, _], _ => rfl⟩
  · obtain ⟨a, ws, rfl, hl, _⟩ := h
    simp [hl]
  · obtain ⟨a, ws, rfl, hl, ha, h⟩ := h
    match ws, hl with
    | [v], _ =>
      refine ⟨_, rfl, by show 1 ≤ sizeLine; decide, fun p hp => ?_⟩
      have hpa : a ≠ p := ne_of_none ha hp
      refine ⟨_, rfl, a, _, rfl, T.ox_BadText, T.n_BadText_told, .inl ⟨(upd_ne hpa).trans ha, fun d hd hda => ?_⟩⟩
      have hdp : d ≠ p := fun z => by rw [z, upd_same] at hd; cases hd
      have hd0 : H d = none := by rw [← hd, upd_ne hdp]
      refine ⟨_, rfl, _, rfl, a, _, rfl, T.ox_BadText, T.n_BadText_row, .inr ⟨d, _, upd_same, (upd_ne hda).trans upd_same, by show 1 ≤ 900; decide, ?_⟩⟩
      refine h d p _ hd0 ?_ ?_ upd_same ?_
      · refine Off.trans (Ext.off (Ext.upd (o := .tup [v]) hp)) ?_
        intro b o hb ho
        have hbd : b ≠ d := fun z => by rw [z, hd] at ho; cases ho
        rw [upd_ne hbd, upd_ne hb, upd_ne hbd]
        exact ho
      · exact (upd_ne (Ne.symm hda)).trans upd_same
      · rw [upd_ne (Ne.symm hdp), upd_ne hpa.symm, upd_ne (Ne.symm hdp), upd_same]
theorem ok_BadOrder (T : Tx w K mg) : ∃ fd, FnOk P w K mg base CX0 2 (He.ma K (He.ga K "BadOrder") "__init__") fd ["self", "what", "name"] (spErr K (He.ga K "BadOrder") 2 fsOrder) ∧ Binds K fd ["self", "what", "name"] [] := by
  obtain ⟨fd, F⟩ := T.f_BadOrder_init
  refine ⟨fd, F.ok sc_BadOrder_init (fun vs H Q E h => ?_) (fun cdv A outer s H vs Q E hr h => ⟨_, PSs.nox (pss_cons
    (ps_ost (pv 0) (pe_tup (pa_cons (pv 1) (pa_cons (pv 2) pa_nil))))
    (pss_cons (ps_ost (pv 0) (pv 1)) (pss_one (ps_ost (pv 0) (pv 2))))), ?_⟩), F.bindsN fun _ _ _ _ _ _ us hl => match us, hl with | [_, _, _], _ => rfl⟩
  · obtain ⟨a, ws, rfl, hl, _⟩ := h
    simp [hl]
  · obtain ⟨a, ws, rfl, hl, ha, h⟩ := h
    match ws, hl with
    | [v, u], _ =>
      refine ⟨_, rfl, _, rfl, by show 2 ≤ sizeLine; decide, fun p hp => ?_⟩
      have hpa : a ≠ p := ne_of_none ha hp
      refine ⟨_, rfl, a, _, rfl, T.ox_BadOrder, T.n_BadOrder_told, .inl ⟨(upd_ne hpa).trans ha, fun d hd hda => ?_⟩⟩
      have hdp : d ≠ p := fun z => by rw [z, upd_same] at hd; cases hd
      have hd0 : H d = none := by rw [← hd, upd_ne hdp]
      refine ⟨_, rfl, _, rfl, a, _, rfl, T.ox_BadOrder, T.n_BadOrder_what, .inr ⟨d, _, upd_same, (upd_ne hda).trans upd_same, by show 1 ≤ 900; decide, ?_⟩⟩
      refine ⟨_, rfl, _, rfl, a, _, rfl, T.ox_BadOrder, T.n_BadOrder_name, .inr ⟨d, _, (upd_ne (Ne.symm hda)).trans upd_same, upd_same, by show 2 ≤ 900; decide, ?_⟩⟩
      refine h d p _ hd0 ?_ ?_ upd_same ?_
      · refine Off.trans (Ext.off (Ext.upd (o := .tup [v, u]) hp)) ?_
        intro b o hb ho
        have hbd : b ≠ d := fun z => by rw [z, hd] at ho; cases ho
        rw [upd_ne hbd, upd_ne hbd, upd_ne hb, upd_ne hbd]
        exact ho
      · exact (upd_ne (Ne.symm hda)).trans ((upd_ne (Ne.symm hda)).trans upd_same)
      · rw [upd_ne (Ne.symm hdp), upd_ne (Ne.symm hdp), upd_ne hpa.symm, upd_ne (Ne.symm hdp), upd_same]
end
end K00
set_option maxHeartbeats 1000000
namespace K00
open PySem PySem.Spec PyProof.Rows L2 Ax
theorem inV_strs (x : Str) (ys : List Str) : inV (.str x) (ys.map V.str) = decide (x ∈ ys) := by
  unfold inV
  rw [List.any_map, Bool.eq_iff_iff, List.any_eq_true, decide_eq_true_iff]
  constructor
  · rintro ⟨y, hy, h⟩
    have e : (y == x) = true := h
    rw [← beq_iff_eq.mp e]
    exact hy
  · intro h
    exact ⟨x, h, show (x == x) = true from beq_self_eq_true x⟩
theorem flat_strs (ys : List Str) : (ys.map V.str).all flatV = true := by
  rw [List.all_map, List.all_eq_true]
  intro x _
  rfl
def areN (ns el : List Str) : Bool := decide (ns.length ≤ 3) && ns.all (fun n => decide (n ∈ el) && decide (ns.count n = 1))
def evF (e : Ev) (el : List Str) : Option Str := if e.name ∈ el then some "twice" else if areN e.needs el = true then none else some "needs"
def ordF : List Str → List Ev → Option (Str × Str)
  | _, [] => none
  | el, e :: r => match evF e el with
    | some x => some (x, e.name)
    | none => ordF (el ++ [e.name]) r
structure Good (e : Ev) : Prop where
  nm : isNm e.name = true
  lo : 1 ≤ e.fin
  hi : e.fin ≤ 5
  kd : e.kind = "query" ∨ e.kind = "action"
theorem isNm_len {x : Str} (h : isNm x = true) : x.length ≤ 8 := by
  unfold isNm at h
  simp at h
  exact h.1.1.2
section
variable {P : Program} {w : World} {K : PySem.W.Frag} {mg : Str → Option Value} {base : Heap}
/-! ### are_needs, event_fault -/
def spNeeds (K : PySem.W.Frag) : Sp := fun vs H Q _ => ∃ (t l : Addr) (ns el : List Str), vs = [.ref t, .ref l] ∧ TupZ H t (ns.map V.str) ∧ SqL K H l (el.map V.str) ∧ ∀ H', Ext H H' → Q (.bl (areN ns el)) H'
theorem ok_needs (T : Tx w K mg) : Dn P w K mg base CX0 1 "are_needs" ["needs", "elder"] (spNeeds K) := by
  obtain ⟨fd, F⟩ := T.f_are_needs
  obtain ⟨t3, e3⟩ := T.i_MOST_NEEDS
  refine ⟨_, fd, F.ok sc_are_needs (fun vs H Q E h => ?_) (fun cdv A outer s H vs Q E hr h => ⟨_, PSs.nox (pss_cons
    (ps_if (pt_cmpR op_gt (pe_callB call_len_seq rfl T.b_len (by decide +kernel) (pa_cons (pv 0) pa_nil)) (pe_glob (v := .int 3) rfl e3 ⟨_, rfl⟩) (nomark _)) (pss_one (ps_ret pe_bl)) pss_nil)
    (pss_one (ps_ret (pe_callB (cr_all rfl) rfl T.b_all (by decide +kernel) (pa_cons
        (pe_lc (own := [("need", 2)]) (g := gName 2) (tt := tYes) (te := tAndV (tOp (rIn K false) (tVar 2) (tVar 1)) (tOp rEq (tTM (rCntS K) (tVar 0) (tCons (tVar 2) tNil)) (tC (.int 1)))) (by rfl) sc_are_needs.nd (pi_tup (pv 0)) (blkOk_by (own := [("need", 2)]) (N := n_are_needs) (sc := defScope s_are_needs) (by decide +kernel)) (fun _ _ _ _ _ => pg_name (i := 2) sc_are_needs.nd rfl (Or.inl rfl)) (fun _ _ _ _ _ => pts_nil)
          (fun _ _ _ _ _ => pe_and (pe_cmpR op_in_seq (pv 2) (pv 1) (by rfl)) (pe_one (pe_cmpR op_eq (pe_tm PySem.F.slot_tuple_count PySem.F.type_tuple_count (mt_tcountS hr.units) (pv 0) (pa_cons (pv 2) pa_nil)) pe_int (nomark _))))) pa_nil))))), ?_⟩), T.g_are_needs, F.kp, F.bindsN fun _ _ _ _ _ _ us hl => match us, hl with | [_, _], _ => rfl⟩
  · obtain ⟨t, l, ns, el, rfl, _⟩ := h
    rfl
  · obtain ⟨t, l, ns, el, rfl, ht, hl, h⟩ := h
    refine ⟨_, rfl, t, _, rfl, .inr ht.sq, _, _, rfl, rfl, _, rfl, ?_⟩
    rw [List.length_map]
    by_cases c : (3 : Int) < (ns.length : Int)
    · rw [decide_eq_true c]
      refine iteT ?_
      have e : false = areN ns el := by unfold areN; rw [decide_eq_false (by omega)]; rfl
      show Q (.bl false) H
      rw [e]
      exact h H Ext.rfl'
    · rw [decide_eq_false c]
      refine iteF ?_
      refine ⟨_, rfl, t, rfl, ⟨_, ht.sq⟩, fun D hD => ?_⟩
      refine lc_acc (walk_tup (K := K) (xs := ns.map V.str)) hD (fun i acc B => B = H ∧ acc = (ns.take i).map fun n => V.bl (decide (n ∈ el) && decide (ns.count n = 1))) ⟨rfl, rfl⟩ (fun i acc H1 hi _ r => ?_) ?_ ?_
      · exact ht.sq.ext (by rw [← r.1]; exact ext_del)
      · rintro i y H1 H' acc hi hacc hl2 ⟨eB, ea⟩ ⟨eH, hy⟩
        subst eH
        have x1 : Ext H H' := by rw [← eB]; exact ext_del
        rw [List.getElem?_map] at hy
        cases q : ns[i]? with
        | none => rw [q] at hy; cases hy
        | some n =>
          rw [q] at hy
          cases Option.some.inj hy
          refine ⟨rfl, ?_⟩
          refine yes_go (iteT ?_)
          have fin : ∃ acc', H' D = some (.lst acc') ∧ acc'.length < sizeLine ∧ Pacc (fun i acc B => B = H ∧ acc = (ns.take i).map fun n => V.bl (decide (n ∈ el) && decide (ns.count n = 1))) D (i + 1) (upd H' D (.lst (acc' ++ [V.bl (decide (n ∈ el) && decide (ns.count n = 1))]))) := by
            refine acc_add hacc hl2 (by rw [List.length_map] at hi; have : (4 : Nat) ≤ sizeLine := by decide
                                        omega) ⟨eB, ?_⟩
            rw [ea, List.take_add_one, q, List.map_append]
            rfl
          refine ⟨_, rfl, _, rfl, l, _, rfl, .inl (hl.ext x1), rfl, flat_strs el, _, rfl, ?_⟩
          show if inV (.str n) (el.map V.str) = true then _ else _
          rw [inV_strs]
          by_cases c1 : n ∈ el
          · rw [if_pos (decide_eq_true c1)]
            rw [decide_eq_true c1, Bool.true_and] at fin
            obtain ⟨ob, hob, hoc, hod⟩ := ht.ext x1
            refine ⟨_, rfl, ⟨t, ob, _, rfl, hob, hoc, hod.1⟩, _, rfl, t, ns, n, rfl, rfl, ht.sq.ext x1, rfl, ?_⟩
            have ed : decide (V.int ((ns.count n : Nat) : Int) = V.int 1) = decide (ns.count n = 1) := by
              rw [Bool.eq_iff_iff, decide_eq_true_iff, decide_eq_true_iff]
              constructor
              · intro z
                injection z with z
                omega
              · intro z
                rw [z]
                rfl
            rw [ed]
            exact fin
          · rw [if_neg (by rw [decide_eq_false c1]; decide)]
            rw [decide_eq_false c1, Bool.false_and] at fin
            exact fin
      · rintro H1 acc hacc hl2 ⟨eB, ea⟩
        have ea2 : acc = (ns.map fun n => (decide (n ∈ el) && decide (ns.count n = 1))).map V.bl := by
          rw [ea, List.map_map, List.take_of_length_le (by simp)]
          rfl
        rw [ea2] at hacc
        refine ⟨D, _, rfl, SqL.of hacc, ?_⟩
        have e : (ns.map fun n => (decide (n ∈ el) && decide (ns.count n = 1))).all id = areN ns el := by
          unfold areN
          rw [decide_eq_true (show ns.length ≤ 3 by omega), Bool.true_and, List.all_map]
          rfl
        rw [e]
        exact h _ (by rw [← eB]; exact ext_del)
end
end K00
set_option maxHeartbeats 1000000
namespace K00
open PySem PySem.Spec PyProof.Rows L2 Ax
def vOpt : Option Str → V
  | none => .non
  | some x => .str x
section
variable {P : Program} {w : World} {K : PySem.W.Frag} {mg : Str → Option Value} {base : Heap}
def spFault (K : PySem.W.Frag) : Sp := fun vs H Q _ => ∃ (a l : Addr) (e : Ev) (el : List Str), vs = [.ref a, .ref l] ∧ EvAt K H a e ∧ Good e ∧ SqL K H l (el.map V.str) ∧ ∀ H', Ext H H' → Q (vOpt (evF e el)) H'
theorem ok_fault (T : Tx w K mg) : Dn P w K mg base CX0 3 "event_fault" ["event", "elder"] (spFault K) := by
  obtain ⟨fd, F⟩ := T.f_event_fault
  obtain ⟨t3, e3⟩ := T.i_LAST_END
  refine ⟨_, fd, F.ok sc_event_fault (fun vs H Q E h => ?_) (fun cdv A outer s H vs Q E hr h => ⟨_, PSs.nox (pss_cons
    (ps_if (pt_not (pt_val (pe_dn ((ok_name T).mono (by decide)) hr rfl pass0 (pa_cons (pe_fld (pv 0) rfl) pa_nil)))) (pss_one (ps_ret pe_str)) pss_nil) (pss_cons
    (ps_if (pt_cmpR op_in_seq (pe_fld (pv 0) rfl) (pv 1) (by rfl)) (pss_one (ps_ret pe_str)) pss_nil) (pss_cons
    (ps_if (pt_not (pt_val (pe_dn ((ok_between T).mono (by decide)) hr rfl pass0 (pa_cons (pe_fld (pv 0) rfl) (pa_cons pe_int (pa_cons (pe_glob (v := .int 5) rfl e3 ⟨_, rfl⟩) pa_nil)))))) (pss_one (ps_ret pe_str)) pss_nil) (pss_cons
    (ps_if (pt_cmpR op_notIn_seq (pe_fld (pv 0) rfl) (pe_glob (v := .ref (He.ga K "KINDS")) rfl T.g_KINDS rfl) (by rfl)) (pss_one (ps_ret pe_str)) pss_nil) (pss_cons
    (ps_if (pt_not (pt_val (pe_dn ((ok_needs T).mono (by decide)) hr rfl pass0 (pa_cons (pe_fld (pv 0) rfl) (pa_cons (pv 1) pa_nil))))) (pss_one (ps_ret pe_str)) pss_nil)
    (pss_one (ps_ret pe_non))))))), ?_⟩), T.g_event_fault, F.kp, F.bindsN fun _ _ _ _ _ _ us hl => match us, hl with | [_, _], _ => rfl⟩
  · obtain ⟨a, l, e, el, rfl, _⟩ := h
    rfl
  · obtain ⟨a, l, e, el, rfl, ha, hg, hl, h⟩ := h
    obtain ⟨dx, t, fs, h1, h2, h3, h4, h5, h6⟩ := ha
    have f1 := T.c_Event
    refine ⟨_, rfl, a, _, dx, fs, _, rfl, h1, f1, T.n_Event_name, h2, e.name, rfl, ?_, fun H1 x1 => ?_⟩
    · have := isNm_len hg.nm
      have : 8 ≤ sizeLine := by decide
      omega
    rw [hg.nm]
    refine ⟨_, rfl, ?_⟩
    refine iteF ?_
    refine ⟨_, rfl, a, _, dx, fs, _, rfl, x1 _ _ h1, f1, T.n_Event_name, h2, _, rfl, l, _, rfl, .inl (hl.ext x1), rfl, flat_strs el, _, rfl, ?_⟩
    show if inV (.str e.name) (el.map V.str) = true then _ else _
    rw [inV_strs]
    by_cases c1 : e.name ∈ el
    · rw [decide_eq_true c1]
      refine iteT ?_
      have q : (some "twice" : Option Str) = evF e el := by unfold evF; rw [if_pos c1]
      show Q (vOpt (some "twice")) H1
      rw [q]
      exact h H1 x1
    rw [decide_eq_false c1]
    refine iteF ?_
    refine ⟨_, rfl, a, _, dx, fs, _, rfl, x1 _ _ h1, f1, T.n_Event_end, h3, _, _, _, rfl, .inl ⟨_, rfl, ?_⟩⟩
    rw [decide_eq_true ⟨hg.lo, hg.hi⟩]
    refine ⟨_, rfl, ?_⟩
    refine iteF ?_
    refine ⟨_, rfl, a, _, dx, fs, _, rfl, x1 _ _ h1, f1, T.n_Event_kind, h4, _, _, rfl, .inr (T.t_KINDS H1), rfl, rfl, _, rfl, ?_⟩
    have hk : inV (.str e.kind) ((["query", "action"] : List Str).map V.str) = true := by
      rw [inV_strs]
      rcases hg.kd with q | q <;> rw [q] <;> decide
    show if (!inV (.str e.kind) ((["query", "action"] : List Str).map V.str)) = true then _ else _
    rw [hk]
    refine iteF ?_
    refine ⟨_, rfl, a, _, dx, fs, _, rfl, x1 _ _ h1, f1, T.n_Event_needs, h5, _, rfl, t, l, e.needs, el, rfl, h6.ext x1, hl.ext x1, fun H2 x2 => ?_⟩
    refine ⟨_, rfl, ?_⟩
    cases c2 : areN e.needs el with
    | true =>
      refine iteF ?_
      have q : (none : Option Str) = evF e el := by unfold evF; rw [if_neg c1, if_pos c2]
      show Q (vOpt none) H2
      rw [q]
      exact h H2 (x1.trans x2)
    | false =>
      refine iteT ?_
      have q : (some "needs" : Option Str) = evF e el := by unfold evF; rw [if_neg c1, if_neg (by rw [c2]; decide)]
      show Q (vOpt (some "needs")) H2
      rw [q]
      exact h H2 (x1.trans x2)
end
end K00
set_option maxHeartbeats 1000000
namespace K00
open PySem PySem.Spec PyProof.Rows L2 Ax
def EvsAt (K : PySem.W.Frag) (H : Hp) (as : List Addr) (evs : List Ev) : Prop := as.length = evs.length ∧ ∀ (i : Nat) (a : Addr) (e : Ev), as[i]? = some a → evs[i]? = some e → EvAt K H a e
theorem EvsAt.ext {K : PySem.W.Frag} {H H' : Hp} {as : List Addr} {evs : List Ev} (h : EvsAt K H as evs) (x : Ext H H') : EvsAt K H' as evs := ⟨h.1, fun i a e h1 h2 => (h.2 i a e h1 h2).ext x⟩
theorem EvAt.off {K : PySem.W.Frag} {H H' : Hp} {a x : Addr} {e : Ev} {o : HO} (h : EvAt K H a e) (hx : H x = some o) (h1 : ∀ dx fs, o ≠ .ins (He.ga K "Event") dx fs) (h2 : ∀ q u, o ≠ .frz q u) (f : Off x H H') : EvAt K H' a e := by
  obtain ⟨dx, t, fs, g1, g2, g3, g4, g5, g6⟩ := h
  refine ⟨dx, t, fs, f _ _ ?_ g1, g2, g3, g4, g5, g6.ne hx h2 f⟩
  intro c
  rw [c, hx] at g1
  exact h1 _ _ (Option.some.inj g1)
theorem EvAt.off0 {K : PySem.W.Frag} {H H' : Hp} {a x : Addr} {e : Ev} (h : EvAt K H a e) (hx : H x = none) (f : Off x H H') : EvAt K H' a e := by
  obtain ⟨dx, t, fs, g1, g2, g3, g4, g5, ob, g6, g7⟩ := h
  refine ⟨dx, t, fs, f _ _ ?_ g1, g2, g3, g4, g5, ob, f _ _ ?_ g6, g7⟩
  · intro c
    rw [c, hx] at g1
    cases g1
  · intro c
    rw [c, hx] at g6
    cases g6
def OrdAt (K : PySem.W.Frag) (H : Hp) (a : Addr) (evs : List Ev) : Prop := ∃ (dx t : Addr) (as : List Addr) (fs : List (Str × V)), H a = some (.ins (He.ga K "Order") dx fs) ∧ fs.lookup ("events" : Str) = some (.ref t) ∧ SqT K H t (as.map V.ref) ∧ EvsAt K H as evs
theorem OrdAt.ext {K : PySem.W.Frag} {H H' : Hp} {a : Addr} {evs : List Ev} (h : OrdAt K H a evs) (x : Ext H H') : OrdAt K H' a evs := by
  obtain ⟨dx, t, as, fs, h1, h2, h3, h4⟩ := h
  exact ⟨dx, t, as, fs, x _ _ h1, h2, h3.ext x, h4.ext x⟩
def ErrO (H : Hp) (d : Addr) (wh nm : Str) : Prop := ∃ t, H d = some (.xd (fsOrder [.str wh, .str nm] t))
theorem tup_or {K : PySem.W.Frag} {H : Hp} {p : Addr} {ys : List V} {Qc : VK} (hp : SqL K H p ys ∨ SqT K H p ys) (h : ∀ t H1, Ext H H1 → SqT K H1 t ys → Qc (.ref t) H1) :
    (SqL K H p ys ∧ ∀ l, H l = none → Qc (.ref l) (upd H l (.tup ys))) ∨ (SqT K H p ys ∧ Qc (.ref p) H) := by
  rcases hp with hp | hp
  · exact .inl ⟨hp, fun l hl => h l _ (Ext.upd hl) (SqT.of upd_same)⟩
  · exact .inr ⟨hp, h p H Ext.rfl' hp⟩
/-- tuple(xs): some tuple of the same -/
def rTupN (K : PySem.W.Frag) : List V → Hp → VK → Prop := fun xs H Q => ∃ p ys, xs = [.ref p] ∧ (SqL K H p ys ∨ SqT K H p ys) ∧ ∀ t H1, Ext H H1 → SqT K H1 t ys → Q (.ref t) H1
theorem call_tupN {X : Cx} : CallR X (.type "tuple") (rTupN X.K) := fun pins s σ H xs us Q I r ⟨p, ys, e, hp, h⟩ => call_tuple_of pins s σ H xs us Q I r ⟨p, ys, e, tup_or hp h⟩
section
variable {P : Program} {w : World} {K : PySem.W.Frag} {mg : Str → Option Value} {base : Heap}
def spOrdI (K : PySem.W.Frag) : Sp := fun vs H Q E => ∃ (x dx p : Addr) (as : List Addr) (evs : List Ev), vs = [.ref x, .ref p] ∧ H x = some (.ins (He.ga K "Order") dx []) ∧ (SqL K H p (as.map V.ref) ∨ SqT K H p (as.map V.ref)) ∧ EvsAt K H as evs ∧ (∀ e ∈ evs, Good e) ∧ evs.length ≤ 12 ∧
  (match ordF [] evs with
  | none => ∀ H', Off x H H' → OrdAt K H' x evs → Q .non H'
  | some (wh, nm) => ∀ (d : Addr) H', Off x H H' → ErrO H' d wh nm → E (.ref (He.ga K "BadOrder")) (some d) H')
theorem EvAt.offx {H H' : Hp} {a x C dx : Addr} {e : Ev} (h : EvAt K H a e) (hx : H x = some (.ins C dx [])) (f : Off x H H') : EvAt K H' a e := by
  obtain ⟨dy, t, fs, g1, g2, g3, g4, g5, g6⟩ := h
  refine ⟨dy, t, fs, f _ _ ?_ g1, g2, g3, g4, g5, g6.ne hx (fun _ _ z => by cases z) f⟩
  intro c
  rw [c, hx] at g1
  have e1 := Option.some.inj g1
  injection e1 with _ _ e2
  rw [← e2] at g2
  cases g2
theorem EvsAt.offx {H H' : Hp} {x C dx : Addr} {as : List Addr} {evs : List Ev} (h : EvsAt K H as evs) (hx : H x = some (.ins C dx [])) (f : Off x H H') : EvsAt K H' as evs := ⟨h.1, fun i a e h1 h2 => (h.2 i a e h1 h2).offx hx f⟩
theorem ext_of_off {H H' : Hp} {x : Addr} (hx : H x = none) (f : Off x H H') : Ext H H' := fun a o h => f a o (ne_of_none h hx) h
theorem iteFd {c : Prop} [Decidable c] {A B : Prop} (hc : ¬ c) (h : B) : if decide c = true then A else B := by
  rw [decide_eq_false hc]
  exact iteF h
theorem iteTd {c : Bool} {A B : Prop} (hc : c = true) (h : A) : if c = true then A else B := by
  rw [if_pos hc]
  exact h
theorem ordF_cons {el : List Str} {e : Ev} {r : List Ev} : ordF el (e :: r) = (match evF e el with | some x => some (x, e.name) | none => ordF (el ++ [e.name]) r) := rfl
theorem ok_OrdI (T : Tx w K mg) : Dc P w K mg base (CX P w) 4 "Order" ["self", "events"] (spOrdI K) := by
  obtain ⟨fd, F⟩ := T.f_Order_init
  obtain ⟨t3, e3⟩ := T.i_MOST_EVENTS
  obtain ⟨fdB, FB, bB⟩ := ok_BadOrder (P := P) (base := base) T
  refine ⟨_, fd, F.ok sc_Order_init (fun vs H Q E h => ?_) (fun cdv A outer s H vs Q E hr h => ⟨_, (pss_cons
    (ps_fld (pv 0) (pe_callTy call_tupN rfl T.b_tuple (by decide +kernel) (pa_cons (pv 1) pa_nil)) rfl) (pss_cons
    (ps_if (pt_cmpR op_gt (pe_callB call_len_seq rfl T.b_len (by decide +kernel) (pa_cons (pe_fld (pv 0) rfl) pa_nil)) (pe_glob (v := .int 12) rfl e3 ⟨_, rfl⟩) (nomark _)) pss_never pss_nil) (pss_cons
    (ps_set (i := 2) sc_Order_init.nd rfl (Or.inl rfl) (pe_lst pa_nil)) (pss_cons
    (ps_for (passes_of rfl) rfl (pi_tup (pe_fld (pv 0) rfl)) (pg_name (i := 3) sc_Order_init.nd rfl (Or.inl rfl)) (pss_cons
      (ps_set (i := 4) sc_Order_init.nd rfl (Or.inl rfl) (pe_dn (ok_fault T) hr rfl pass0 (pa_cons (pv 3) (pa_cons (pv 2) pa_nil)))) (pss_cons
      (ps_if (pt_cmpR op_notN (pv 4) pe_non (nomark _)) (pss_one (ps_raise rfl (takes_of rfl rfl rfl rfl) (pmk_oex T.ox_BadOrder T.fi_BadOrder T.ft_BadOrder (FB.mono (by decide)) hr bB .nil pass0 rfl T.g_BadOrder (pa_cons (pv 4) (pa_cons (pe_fld (pv 3) rfl) pa_nil))))) pss_nil)
      (pss_one (ps_expr (pe_bm PySem.F.plainAttrs_list PySem.F.slot_list_append PySem.F.type_list_append mt_append (pv 2) (pa_cons (pe_fld (pv 3) rfl) pa_nil))))))) 
    (pss_one (ps_fld (pv 0) (pe_callTy call_tupN rfl T.b_tuple (by decide +kernel) (pa_cons (pv 2) pa_nil)) rfl)))))), ?_⟩), T.g_Order, T.k_Order, F.bindsN fun _ _ _ _ _ _ us hl => match us, hl with | [_, _], _ => rfl⟩
  · obtain ⟨x, dx, p, as, evs, rfl, _⟩ := h
    rfl
  · obtain ⟨x, dx, p, as, evs, rfl, hx, hp, hev, hg, hlen, h⟩ := h
    have f1 := T.c_Order
    have f2 := T.n_Order_events
    refine ⟨_, rfl, p, _, rfl, hp, fun t H1 x1 ht => ?_⟩
    have hx1 := x1 _ _ hx
    refine ⟨_, rfl, x, _, dx, _, rfl, hx1, f1, f2, Nat.le_of_ble_eq_true rfl, ?_⟩
    have o2 : Off x H (upd H1 x (.ins (He.ga K "Order") dx (putF "events" (.ref t) []))) := (Ext.off x1).upd
    have o12 : Off x H1 (upd H1 x (.ins (He.ga K "Order") dx (putF "events" (.ref t) []))) := (Ext.off Ext.rfl').upd
    have ht2 := sqT_ne ht hx1 (fun _ z => by cases z) (fun _ _ z => by cases z) o12
    have hx2 : (upd H1 x (.ins (He.ga K "Order") dx (putF "events" (.ref t) []))) x = some (.ins (He.ga K "Order") dx (putF "events" (.ref t) [])) := upd_same
    have hev2 := hev.offx hx o2
    generalize (upd H1 x (.ins (He.ga K "Order") dx (putF "events" (.ref t) []))) = H2 at o2 ht2 hx2 hev2 ⊢
    refine ⟨_, rfl, x, _, dx, _, _, rfl, hx2, f1, f2, rfl, t, _, rfl, .inr ht2, _, _, rfl, rfl, _, rfl, ?_⟩
    rw [List.length_map, hev.1]
    refine iteFd (by omega) ?_
    refine ⟨by decide, fun D hD => ?_⟩
    have x3 : Ext H2 (upd H2 D (.lst [])) := Ext.upd hD
    refine ⟨_, rfl, x, _, dx, _, _, rfl, x3 _ _ hx2, f1, f2, rfl, t, rfl, ⟨_, ht2.ext x3⟩, ?_⟩
    refine for_tup (K := K) (xs := as.map V.ref) (fun i σ H' => ∃ s3 s4, σ = [some (.ref x), some (.ref p), some (.ref D), s3, s4] ∧ H' D = some (.lst (((evs.take i).map Ev.name).map V.str)) ∧ Ext H2 H' ∧ ordF ((evs.take i).map Ev.name) (evs.drop i) = ordF [] evs)
      ⟨none, none, rfl, upd_same, x3, rfl⟩ (fun i σ H' _ ⟨_, _, _, _, x4, _⟩ => ht2.ext x4) ?_ ?_
    · rintro i y σ H' hy ⟨s3, s4, rfl, hDl, x4, ho⟩
      rw [List.getElem?_map] at hy
      cases qa : as[i]? with
      | none => rw [qa] at hy; cases hy
      | some a =>
        rw [qa] at hy
        cases Option.some.inj hy
        have hi : i < evs.length := by rw [← hev.1]; exact (List.getElem?_eq_some_iff.mp qa).1
        have qe : evs[i]? = some evs[i] := List.getElem?_eq_getElem hi
        have hea : EvAt K H' a evs[i] := (hev2.2 i a _ qa qe).ext x4
        have hdr : evs.drop i = evs[i] :: evs.drop (i + 1) := List.drop_eq_getElem_cons hi
        have htk : evs.take (i + 1) = evs.take i ++ [evs[i]] := by rw [List.take_add_one, qe]; rfl
        generalize evs[i] = e at qe hea hdr htk
        have hge : Good e := hg e (List.mem_of_getElem? qe)
        rw [hdr, ordF_cons] at ho
        refine ⟨_, rfl, _, rfl, a, D, e, _, rfl, hea, hge, SqL.of hDl, fun H4 x5 => ?_⟩
        obtain ⟨dy, u, gs, g1, g2, g3, g4, g5, g6⟩ := hea.ext x5
        cases qf : evF e ((evs.take i).map Ev.name) with
        | none =>
          rw [qf] at ho
          refine ⟨_, rfl, rfl, _, rfl, ?_⟩
          refine iteF ?_
          refine ⟨_, rfl, .inl ⟨rfl, _, SqL.of (x5 _ _ hDl)⟩, _, rfl, a, _, dy, gs, _, rfl, g1, T.c_Event, T.n_Event_name, g2, D, _, _, rfl, rfl, x5 _ _ hDl, ?_, ?_⟩
          · simp only [List.length_map, List.length_take]
            have : 12 < sizeLine := by decide
            omega
          · refine ⟨_, _, rfl, ?_, ?_, ?_⟩
            · rw [htk, List.map_append, List.map_append]
              exact upd_same
            · exact ext_upd_of (x4.trans x5) hD
            · rw [htk, List.map_append]
              exact ho
        | some wd =>
          rw [qf] at ho
          refine ⟨_, rfl, rfl, _, rfl, ?_⟩
          refine iteTd (by rfl) ?_
          refine ⟨_, rfl, _, rfl, a, _, dy, gs, _, rfl, g1, T.c_Event, T.n_Event_name, g2, by show 2 ≤ 1000; decide, fun a1 ha1 => ?_⟩
          refine ⟨a1, [.str wd, .str e.name], rfl, rfl, upd_same, fun d tt H5 hd off h1' h2' h3' => ?_⟩
          have hd4 : H4 d = none := by
            by_cases c : d = a1
            · rw [c, upd_same] at hd
              cases hd
            · rw [upd_ne c] at hd
              exact hd
          have hda : d ≠ a1 := fun c => by rw [c, upd_same] at hd; cases hd
          refine ⟨rfl, d, _, h1', h2', hd4, ?_⟩
          rw [← ho] at h
          have x6 : Ext H2 (upd (del H5 a1) d (.xd (fsOrder [.str wd, .str e.name] tt))) := by
            intro b o hb
            have hb4 := x5 _ _ (x4 _ _ hb)
            have hba : b ≠ a1 := ne_of_none hb4 ha1
            have hbd : b ≠ d := ne_of_none hb4 hd4
            rw [upd_ne hbd, del_ne hba]
            refine off b o hba ?_
            rw [upd_ne hba]
            exact hb4
          exact h d _ (o2.trans (Ext.off x6)) ⟨tt, upd_same⟩
    · rintro σ H' ⟨s3, s4, rfl, hDl, x4, ho⟩
      refine ⟨_, rfl, D, _, rfl, .inl (SqL.of hDl), fun t6 H6 x6 ht6 => ?_⟩
      have hx6 := x6 _ _ (x4 _ _ hx2)
      refine ⟨_, rfl, x, _, dx, _, rfl, hx6, f1, T.n_Order__names, Nat.le_of_ble_eq_true rfl, ?_⟩
      have hor : ordF [] evs = none := by
        rw [← ho, List.length_map, hev.1, List.drop_length]
        rfl
      rw [hor] at h
      have o6 : Off x H6 (upd H6 x (.ins (He.ga K "Order") dx (putF "_names" (.ref t6) (putF "events" (.ref t) [])))) := (Ext.off Ext.rfl').upd
      have x26 : Ext H2 H6 := x4.trans x6
      refine h _ ((o2.trans (Ext.off x26)).trans o6) ⟨dx, t, as, _, upd_same, rfl, sqT_ne (ht2.ext x26) hx6 (fun _ z => by cases z) (fun _ _ z => by cases z) o6, hev.offx hx ((o2.trans (Ext.off x26)).trans o6)⟩
end
end K00
set_option maxHeartbeats 1000000
namespace K00
open PySem PySem.Spec PyProof.Rows L2 Ax
theorem iteFd' {c : Bool} {A B : Prop} (hc : c = false) (h : B) : if c = true then A else B := by
  rw [hc]
  exact iteF h
section
variable {P : Program} {w : World} {K : PySem.W.Frag} {mg : Str → Option Value} {base : Heap}
def ROrd (K : PySem.W.Frag) (a b : Addr) (H : Hp) : Prop := ∃ evs, OrdAt K H a evs ∧ OrdAt K H b evs
theorem REv.mono (a b : Addr) (H H' : Hp) (x : Ext H H') (h : REv K a b H) : REv K a b H' := let ⟨e, h1, h2⟩ := h; ⟨e, h1.ext x, h2.ext x⟩
theorem ok_OrdEq (T : Tx w K mg) : ∃ fd, FnOk P w K mg base CX0 4 (He.ma K (He.ga K "Order") "__eq__") fd ["self", "other"] (spEq (ROrd K)) ∧ Binds K fd ["self", "other"] [] := by
  obtain ⟨fd, F⟩ := T.f_Order_eq
  obtain ⟨fdE, FE, bE⟩ := ok_EvEq (P := P) (base := base) T
  refine ⟨fd, F.ok sc_Order_eq (fun vs H Q E h => ?_) (fun cdv A outer s H vs Q E hr h => ⟨_, PSs.nox (pss_one (ps_ret
    (pe_and (pe_callB call_isi rfl T.b_isinstance (by decide +kernel) (pa_cons (pv 1) (pa_cons (pe_glob (v := .ref (He.ga K "Order")) rfl T.g_Order rfl) pa_nil)))
    (pe_one (pe_cmpR (op_eqG (rcG_tup (mon_ins REv.mono) (eqG_ins FE T.m_Event_eq.at_ T.m_Event_eq.fn bE (E := E0) pass0)) hr) (pe_fld (pv 0) rfl) (pe_fld (pv 1) rfl) (nomark _)))))), ?_⟩), F.bindsN fun _ _ _ _ _ _ us hl => match us, hl with | [_, _], _ => rfl⟩
  · obtain ⟨a, b, rfl, _⟩ := h
    rfl
  · obtain ⟨a, b, rfl, ⟨evs, ⟨dx, t, as, fs, h1, h2, h3, h4⟩, ⟨dy, u, bs, gs, g1, g2, g3, g4⟩⟩, h⟩ := h
    refine ⟨_, rfl, _, _, _, _, true, rfl, ClsV.own _, .base (.ins g1 T.c_Order T.in_Order.ha T.in_Order.hn T.in_Order.htk T.in_Order.hm), kit_own, true, rfl, ?_⟩
    refine iteT ?_
    refine ⟨_, rfl, a, _, dx, fs, _, rfl, h1, T.c_Order, T.n_Order_events, h2, _, rfl, b, _, dy, gs, _, rfl, g1, T.c_Order, T.n_Order_events, g2, ?_, ?_⟩
    · refine ⟨t, u, _, _, rfl, rfl, h3, g3, by rw [List.length_map, List.length_map, h4.1, g4.1], fun i x y hx hy => ?_⟩
      rw [List.getElem?_map] at hx hy
      cases qa : as[i]? with
      | none => rw [qa] at hx; cases hx
      | some a1 =>
        cases qb : bs[i]? with
        | none => rw [qb] at hy; cases hy
        | some b1 =>
          rw [qa] at hx
          rw [qb] at hy
          cases Option.some.inj hx
          cases Option.some.inj hy
          have hi : i < evs.length := by rw [← h4.1]; exact (List.getElem?_eq_some_iff.mp qa).1
          have qe : evs[i]? = some evs[i] := List.getElem?_eq_getElem hi
          have e1 := h4.2 i a1 _ qa qe
          have e2 := g4.2 i b1 _ qb qe
          have e1' := e1
          have e2' := e2
          obtain ⟨d1, _, f1, k1, _⟩ := e1'
          obtain ⟨d2, _, f2, k2, _⟩ := e2'
          exact ⟨a1, b1, d1, d2, f1, f2, rfl, rfl, k1, k2, _, e1, e2⟩
    · exact h
theorem eqc_of {C f : Addr} (h : eqcB K C = true) (m : Meth K C "__eq__" f) : EqC K C f := by
  obtain ⟨h1, h2⟩ := Bool.and_eq_true_iff.mp h
  exact ⟨m.at_, m.fn, of_decide_eq_true h1, of_decide_eq_true h2⟩
theorem ok_iter (T : Tx w K mg) : IterC P w K mg base (He.ga K "Order") (He.ma K (He.ga K "Order") "__iter__") "events" := by
  obtain ⟨fd, F⟩ := T.f_Order_iter
  have b := FunD.bindsA (ps := ["self"]) F fun _ _ _ _ _ _ us hl => match us, hl with | [_], _ => rfl
  obtain ⟨oc, od, dV, kV, doc, pm, an, cdv, ct, osl, rfl, lk, hcd, hD, _⟩ := F.ex
  obtain ⟨i1, i2⟩ := Bool.and_eq_true_iff.mp T.it_Order
  refine ⟨T.c_Order, T.n_Order_events, of_decide_eq_true i1, i2, _, _, _, _, _, _, dV, kV, doc, pm, cdv, ct, oc, an, od, osl, rfl, lk, hcd, sc_Order_iter, fun s u => b s [u] rfl, fun A outer s H => ?_⟩
  exact PSs.nox (pss_one (ps_ret (pe_callB call_iterT rfl T.b_iter (by decide +kernel) (pa_cons (pe_fld (pv 0) rfl) pa_nil))))
/-! ### rows_of, words_of, read_figure -/
theorem lfS : ("\n" : Str) = ⟨#[10]⟩ := by decide
theorem spS : (" " : Str) = ⟨#[32]⟩ := by decide
/-- a new list of texts -/
def spWords : Sp := fun vs H Q _ => ∃ x : Str, vs = [.str x] ∧ x.length + 2 ≤ sizeLine ∧ ∀ l, H l = none → Q (.ref l) (upd H l (.lst ((Txt.split x " ").map V.str)))
theorem ok_words (T : Tx w K mg) : Dn P w K mg base CX0 1 "words_of" ["row"] spWords := by
  obtain ⟨fd, F⟩ := T.f_words_of
  refine ⟨_, fd, F.ok sc_words_of (fun vs H Q E h => ?_) (fun cdv A outer s H vs Q E hr h => ⟨_, PSs.nox (pss_one (ps_ret (pe_split (pv 0) pe_str))), ?_⟩), T.g_words_of, F.kp, F.bindsN fun _ _ _ _ _ _ us hl => match us, hl with | [_], _ => rfl⟩
  · obtain ⟨x, rfl, _⟩ := h
    rfl
  · obtain ⟨x, rfl, hl, h⟩ := h
    refine ⟨_, rfl, ⟨_, rfl⟩, x, _, rfl, rfl, rfl, hl, ?_⟩
    exact h
def ErrT (H : Hp) (d : Addr) (k : Int) : Prop := ∃ t, H d = some (.xd (fsText [.int k] t))
def spRows (K : PySem.W.Frag) : Sp := fun vs H Q E => ∃ v : V, vs = [v] ∧ ((∃ x : Str, v = .str x ∧ x.length + 2 ≤ sizeLine ∧ ∀ l, H l = none → Q (.ref l) (upd H l (.lst ((Txt.split x "\n").map V.str)))) ∨
  ∃ t : String, TyX K H v (.type t) ∧ kitB t "str" = some false ∧ ∀ (d : Addr) H', Ext H H' → ErrT H' d 0 → E (.ref (He.ga K "BadText")) (some d) H')
/-- raise BadText(k), k an int: what pmk_oex asks -/
theorem out_text {C : Addr} {H : Hp} {k : Int} {E : XK} (h : ∀ (d : Addr) H', Ext H H' → ErrT H' d k → E (.ref C) (some d) H') : ([V.int k] : List V).length ≤ 1000 ∧ ∀ a, H a = none → spErr K C 1 fsText (.ref a :: ([V.int k] ++ [])) (upd H a (exo a C none))
    (fun v H2 => v = .non ∧ ∃ (d : Addr) (fs : List (Str × V)), H2 a = some (exo a C (some d)) ∧ H2 d = some (exd d fs) ∧ H d = none ∧ E (.ref C) (some d) (upd (del H2 a) d (.xd fs))) (fun _ _ _ => False) := by
  refine ⟨by show 1 ≤ 1000; decide, fun a1 ha1 => ?_⟩
  refine ⟨a1, [.int k], rfl, rfl, upd_same, fun d tt H5 hd off h1' h2' h3' => ?_⟩
  have hd4 : H d = none := by
    by_cases c : d = a1
    · rw [c, upd_same] at hd
      cases hd
    · rw [upd_ne c] at hd
      exact hd
  refine ⟨rfl, d, _, h1', h2', hd4, h d _ ?_ ⟨tt, upd_same⟩⟩
  intro b o hb
  have hba : b ≠ a1 := ne_of_none hb ha1
  have hbd : b ≠ d := ne_of_none hb hd4
  rw [upd_ne hbd, del_ne hba]
  refine off b o hba ?_
  rw [upd_ne hba]
  exact hb
theorem ok_rows (T : Tx w K mg) : Dn P w K mg base (CX P w) 4 "rows_of" ["text"] (spRows K) := by
  obtain ⟨fd, F⟩ := T.f_rows_of
  obtain ⟨fdB, FB, bB⟩ := ok_BadText (P := P) (base := base) T
  refine ⟨_, fd, F.ok sc_rows_of (fun vs H Q E h => ?_) (fun cdv A outer s H vs Q E hr h => ⟨_, (pss_cons
    (ps_if (pt_not (pt_val (pe_callB call_isi rfl T.b_isinstance (by decide +kernel) (pa_cons (pv 0) (pa_cons (pe_bltn (v := .ty "str") (by rfl) T.b_str (by decide +kernel) rfl) pa_nil)))))
      (pss_one (ps_raise rfl (takes_of rfl rfl rfl rfl) (pmk_oex T.ox_BadText T.fi_BadText T.ft_BadText (FB.mono (by decide)) hr bB .nil pass0 rfl T.g_BadText (pa_cons pe_int pa_nil)))) pss_nil)
    (pss_one (ps_ret (pe_split (pv 0) pe_str)))), ?_⟩), T.g_rows_of, F.kp, F.bindsN fun _ _ _ _ _ _ us hl => match us, hl with | [_], _ => rfl⟩
  · obtain ⟨x, rfl, _⟩ := h
    rfl
  · obtain ⟨v, rfl, ⟨x, rfl, hl, h⟩ | ⟨t, ht, hk, h⟩⟩ := h
    · refine ⟨_, rfl, _, _, _, _, true, rfl, ClsV.ty "str", .base (.str x), kit_ty (by decide +kernel), true, rfl, ?_⟩
      refine iteF ?_
      exact ⟨_, rfl, ⟨_, rfl⟩, x, _, rfl, rfl, rfl, hl, h⟩
    · refine ⟨_, rfl, _, _, _, _, false, rfl, ClsV.ty "str", ht, kit_ty hk, false, rfl, ?_⟩
      refine iteTd rfl ?_
      exact out_text h
/-! ### read_figure -/
def fig (x : Str) : Option Int := match x.cps.toList with
  | [c] => if 48 ≤ c ∧ c ≤ 57 then some ((c : Int) - 48) else none
  | _ => none
def vInt : Option Int → V
  | none => .non
  | some i => .int i
theorem mem_fig (c : Nat) : c ∈ ("0123456789" : Str).cps.toList ↔ 48 ≤ c ∧ c ≤ 57 := by
  have e : ("0123456789" : Str).cps.toList = [48, 49, 50, 51, 52, 53, 54, 55, 56, 57] := by decide
  rw [e]
  simp only [List.mem_cons, List.not_mem_nil, or_false]
  omega
theorem int_fig {c : Nat} (h : 48 ≤ c ∧ c ≤ 57) : PySem.intText? ⟨#[c]⟩ = some ((c : Int) - 48) := by
  obtain ⟨h1, h2⟩ := h
  have : c = 48 ∨ c = 49 ∨ c = 50 ∨ c = 51 ∨ c = 52 ∨ c = 53 ∨ c = 54 ∨ c = 55 ∨ c = 56 ∨ c = 57 := by omega
  rcases this with q | q | q | q | q | q | q | q | q | q <;> subst q <;> kernel_rfl
def spFig : Sp := fun vs H Q _ => ∃ x : Str, vs = [.str x] ∧ x.length ≤ sizeLine ∧ Q (vInt (fig x)) H
theorem ok_fig (T : Tx w K mg) : Dn P w K mg base CX0 1 "read_figure" ["word"] spFig := by
  obtain ⟨fd, F⟩ := T.f_read_figure
  obtain ⟨t1, e1⟩ := T.s_FIGURES
  refine ⟨_, fd, F.ok sc_read_figure (fun vs H Q E h => ?_) (fun cdv A outer s H vs Q E hr h => ⟨_, PSs.nox (pss_cons
    (ps_if (PW.pt (pw_or (pt_cmpR op_ne (pe_callB call_len_str rfl T.b_len (by decide +kernel) (pa_cons (pv 0) pa_nil)) pe_int (nomark _))
      (pw_or1 (pt_cmpR op_notIn_sign (pv 0) (pe_glob (v := .str "0123456789") rfl e1 ⟨_, rfl⟩) (by rfl))))) (pss_one (ps_ret pe_non)) pss_nil)
    (pss_one (ps_ret (pe_callTy call_int_str rfl T.b_int (by decide +kernel) (pa_cons (pv 0) pa_nil))))), ?_⟩), T.g_read_figure, F.kp, F.bindsN fun _ _ _ _ _ _ us hl => match us, hl with | [_], _ => rfl⟩
  · obtain ⟨x, rfl, _⟩ := h
    rfl
  · obtain ⟨x, rfl, hl, h⟩ := h
    refine ⟨_, rfl, _, rfl, hl, rfl, _, rfl, ?_⟩
    by_cases c1 : x.length = 1
    · have hx : ∃ c, x = ⟨#[c]⟩ := by
        obtain ⟨⟨l⟩⟩ := x
        have hl1 : l.length = 1 := c1
        match l, hl1 with
        | [c], _ => exact ⟨c, rfl⟩
      obtain ⟨c, rfl⟩ := hx
      refine iteFd' (by rfl) ?_
      refine ⟨_, rfl, c, _, rfl, rfl, _, rfl, ?_⟩
      by_cases c2 : 48 ≤ c ∧ c ≤ 57
      · rw [decide_eq_true ((mem_fig c).mpr c2)]
        refine iteF ?_
        refine ⟨_, rfl, _, _, rfl, int_fig c2, by show 1 ≤ 640; decide, ?_⟩
        have e : fig ⟨#[c]⟩ = some ((c : Int) - 48) := if_pos c2
        rw [e] at h
        exact h
      · rw [decide_eq_false (fun z => c2 ((mem_fig c).mp z))]
        refine iteT ?_
        have e : fig ⟨#[c]⟩ = none := if_neg c2
        rw [e] at h
        exact h
    · refine iteTd (by simp only [Bool.not_eq_true', decide_eq_false_iff_not]; intro z; injection z with z; omega) ?_
      have e : fig x = none := by
        unfold fig
        split
        · rename_i c e
          exact absurd (show x.length = 1 from by
            have h2 : x.cps.size = 1 := by
              have := congrArg List.length e
              simpa using this
            exact h2) c1
        · rfl
      rw [e] at h
      exact h
end
end K00
set_option maxHeartbeats 1000000
namespace K00
open PySem PySem.Spec PyProof.Rows L2 Ax
/-- xs[k:] -/
theorem cut_from (xs : List V) (k : Nat) : cutV xs (some (k : Int)) none = xs.drop k := by
  unfold cutV
  rw [HT.sIx_nat, HT.sIx_none]
  by_cases h : k ≤ xs.length
  · rw [Nat.min_eq_left h, List.take_of_length_le (by rw [List.length_drop]; exact Nat.le_refl _)]
  · rw [Nat.min_eq_right (by omega), List.drop_length, List.take_nil, List.drop_eq_nil_of_le (by omega)]
/-- xs[:k] -/
theorem cut_to (xs : List V) (k : Nat) : cutV xs none (some (k : Int)) = xs.take k := by
  unfold cutV
  rw [HT.sIx_nat, HT.sIx_none, List.drop_zero, Nat.sub_zero]
  by_cases h : k ≤ xs.length
  · rw [Nat.min_eq_left h]
  · rw [Nat.min_eq_right (by omega), List.take_of_length_le (Nat.le_refl _), List.take_of_length_le (by omega)]
def rowOf : List Str → Option Ev
  | k :: n :: e :: r => match fig e with
    | some f => if (k = "query" ∨ k = "action") ∧ 1 ≤ f ∧ f ≤ 5 ∧ isNm n = true ∧ r.all isNm = true then some ⟨n, f, k, r⟩ else none
    | none => none
  | _ => none
theorem rowOf_short {ws : List Str} (h : ws.length < 3) : rowOf ws = none := by
  match ws, h with
  | [], _ => rfl
  | [_], _ => rfl
  | [_, _], _ => rfl
section
variable {P : Program} {w : World} {K : PySem.W.Frag} {mg : Str → Option Value} {base : Heap}
def spRead (K : PySem.W.Frag) : Sp := fun vs H Q _ => ∃ x : Str, vs = [.str x] ∧ x.length + 2 ≤ sizeLine ∧ (match rowOf (Txt.split x " ") with
  | none => ∀ H', Ext H H' → Q .non H'
  | some e => ∀ a H', Ext H H' → EvAt K H' a e → Q (.ref a) H')
theorem ok_read (T : Tx w K mg) : Dn P w K mg base CX0 3 "read_event" ["row"] (spRead K) := by
  obtain ⟨fd, F⟩ := T.f_read_event
  obtain ⟨t3, e3⟩ := T.i_LAST_END
  refine ⟨_, fd, F.ok sc_read_event (fun vs H Q E h => ?_) (fun cdv A outer s H vs Q E hr h => ⟨_, PSs.nox (pss_cons
    (ps_set (i := 1) sc_read_event.nd rfl (Or.inl rfl) (pe_dn ((ok_words T).mono (by decide)) hr rfl pass0 (pa_cons (pv 0) pa_nil))) (pss_cons
    (ps_if (PW.pt (pw_or (pt_cmpR op_lt (pe_callB call_len_seq rfl T.b_len (by decide +kernel) (pa_cons (pv 1) pa_nil)) pe_int (nomark _))
      (pw_or1 (pt_cmpR op_notIn_seq (pe_ix ix_list (pv 1) pe_int (fun _ _ => rfl)) (pe_glob (v := .ref (He.ga K "KINDS")) rfl T.g_KINDS rfl) (by rfl))))) (pss_one (ps_ret pe_non)) pss_nil) (pss_cons
    (ps_set (i := 2) sc_read_event.nd rfl (Or.inl rfl) (pe_dn ((ok_fig T).mono (by decide)) hr rfl pass0 (pa_cons (pe_ix ix_list (pv 1) pe_int (fun _ _ => rfl)) pa_nil))) (pss_cons
    (ps_if (PW.pt (pw_or (pt_not (pt_val (pe_dn (ok_between T) hr rfl pass0 (pa_cons (pv 2) (pa_cons pe_int (pa_cons (pe_glob (v := .int 5) rfl e3 ⟨_, rfl⟩) pa_nil))))))
      (pw_or1 (pt_not (pt_val (pe_callB (cr_all rfl) rfl T.b_all (by decide +kernel) (pa_cons
        (pe_lc (own := [("word", 3)]) (g := gName 3) (tt := tYes) (te := tCall spName [] E0 (tCons (tVar 3) tNil)) (by rfl) sc_read_event.nd (pi_list (pe_lst (pa_cons (pe_ix ix_list (pv 1) pe_int (fun _ _ => rfl)) (StX.pa_star (pe_slice sl_list (pv 1) (po_some pe_int) po_none) pa_nil))))
          (blkOk_by (own := [("word", 3)]) (N := n_read_event) (sc := defScope s_read_event) (by decide +kernel)) (fun _ _ _ _ _ => pg_name (i := 3) sc_read_event.nd rfl (Or.inl rfl)) (fun _ _ _ _ _ => pts_nil)
          (fun _ _ _ _ _ => pe_dn ((ok_name T).mono (by decide)) hr rfl pass0 (pa_cons (pv 3) pa_nil))) pa_nil))))))) (pss_one (ps_ret pe_non)) pss_nil)
    (pss_one (ps_ret (pe_dc (ok_EvI T) hr rfl pass0 (pa_cons (pe_ix ix_list (pv 1) pe_int (fun _ _ => rfl)) (pa_cons (pv 2) (pa_cons (pe_ix ix_list (pv 1) pe_int (fun _ _ => rfl)) (pa_cons (pe_slice sl_list (pv 1) (po_some pe_int) po_none) pa_nil))))))))))), ?_⟩), T.g_read_event, F.kp, F.bindsN fun _ _ _ _ _ _ us hl => match us, hl with | [_], _ => rfl⟩
  · obtain ⟨x, rfl, _⟩ := h
    rfl
  · obtain ⟨x, rfl, hl, h⟩ := h
    refine ⟨_, rfl, x, rfl, hl, fun l hl1 => ?_⟩
    have x1 : Ext H (upd H l (.lst ((Txt.split x " ").map V.str))) := Ext.upd hl1
    have hL : (upd H l (.lst ((Txt.split x " ").map V.str))) l = some (.lst ((Txt.split x " ").map V.str)) := upd_same
    have hsh : ∀ z ∈ Txt.split x " ", z.length ≤ sizeLine := fun z hz => by
      have := part_short hz
      omega
    have hwl : (Txt.split x " ").length ≤ sizeLine := by
      have := split_le x " "
      omega
    generalize (upd H l (.lst ((Txt.split x " ").map V.str))) = H1 at x1 hL ⊢
    generalize Txt.split x " " = ws at h hL hsh hwl
    refine ⟨_, rfl, l, _, rfl, .inl (SqL.of hL), _, _, rfl, rfl, _, rfl, ?_⟩
    rw [List.length_map]
    by_cases c0 : ws.length < 3
    · refine iteTd (decide_eq_true (by omega)) ?_
      refine iteT ?_
      rw [rowOf_short c0] at h
      exact h H1 x1
    refine iteFd (by omega) ?_
    obtain ⟨k, n, e, r, rfl⟩ : ∃ k n e r, ws = k :: n :: e :: r := by
      match ws, c0 with
      | k :: n :: e :: r, _ => exact ⟨k, n, e, r, rfl⟩
      | [_, _], c => exact absurd (show 2 < 3 by decide) c
      | [_], c => exact absurd (show 1 < 3 by decide) c
      | [], c => exact absurd (by decide) c
    refine ⟨_, rfl, l, _, _, _, rfl, rfl, SqL.of hL, atI_nat (j := 0) rfl, _, _, rfl, .inr (T.t_KINDS H1), rfl, rfl, _, rfl, ?_⟩
    have hk : inV (.str k) ((["query", "action"] : List Str).map V.str) = decide (k = "query" ∨ k = "action") := by
      rw [inV_strs]
      simp
    show if (!inV (.str k) ((["query", "action"] : List Str).map V.str)) = true then _ else _
    rw [hk]
    have hrow : rowOf (k :: n :: e :: r) = match fig e with
      | some f => if (k = "query" ∨ k = "action") ∧ 1 ≤ f ∧ f ≤ 5 ∧ isNm n = true ∧ r.all isNm = true then some ⟨n, f, k, r⟩ else none
      | none => none := rfl
    rw [hrow] at h
    by_cases c1 : k = "query" ∨ k = "action"
    · rw [decide_eq_true c1]
      refine iteF ?_
      refine ⟨_, rfl, l, _, _, _, rfl, rfl, SqL.of hL, atI_nat (j := 2) rfl, e, rfl, hsh e (by simp), ?_⟩
      refine ⟨_, rfl, _, _, _, rfl, ?_⟩
      cases qf : fig e with
      | none =>
        rw [qf] at h
        refine .inr ⟨rfl, false, rfl, ?_⟩
        refine iteT ?_
        exact h H1 x1
      | some f =>
        rw [qf] at h
        refine .inl ⟨f, rfl, _, rfl, ?_⟩
        by_cases c2 : 1 ≤ f ∧ f ≤ 5
        · rw [decide_eq_true c2]
          refine iteF ?_
          have hcut : cutV ((k :: n :: e :: r).map V.str) (some 3) none = r.map V.str := cut_from _ 3
          refine ⟨_, rfl, l, _, _, _, rfl, rfl, SqL.of hL, atI_nat (j := 1) rfl, _, rfl, _, rfl, l, _, rfl, SqL.of hL, fun p hp => ?_⟩
          have x2 : Ext H1 (upd H1 p (.lst (cutV ((k :: n :: e :: r).map V.str) (some 3) none))) := Ext.upd hp
          refine ⟨p, _, rfl, .inr (SqL.of upd_same), ?_, fun L hL2 => ?_⟩
          · rw [hcut]
            simp only [List.length_cons, List.length_append, List.length_map, List.length_nil] at hwl ⊢
            omega
          refine ⟨L, rfl, ⟨_, SqL.of upd_same⟩, fun D hD => ?_⟩
          have x3 := x2.trans (Ext.upd (o := .lst (V.str n :: (cutV ((k :: n :: e :: r).map V.str) (some 3) none ++ []))) hL2)
          have hL3 : (upd (upd H1 p (.lst (cutV ((k :: n :: e :: r).map V.str) (some 3) none))) L (.lst (V.str n :: (cutV ((k :: n :: e :: r).map V.str) (some 3) none ++ [])))) L = some (.lst ((n :: r).map V.str)) := by
            rw [upd_same, hcut, List.append_nil]
            rfl
          generalize (upd (upd H1 p (.lst (cutV ((k :: n :: e :: r).map V.str) (some 3) none))) L (.lst (V.str n :: (cutV ((k :: n :: e :: r).map V.str) (some 3) none ++ [])))) = H3 at hD x3 hL3 ⊢
          refine lc_acc (walk_list (K := K) (xs := V.str n :: (cutV ((k :: n :: e :: r).map V.str) (some 3) none ++ []))) hD (fun i acc B => Ext H3 B ∧ acc = ((n :: r).take i).map fun z => V.bl (isNm z)) ⟨Ext.rfl', rfl⟩ (fun i acc H4 _ _ q => ?_) ?_ ?_
          · rw [hcut, List.append_nil]
            exact SqL.of (ext_del _ _ (q.1 _ _ hL3))
          · rintro i y H4 H' acc hi hacc hl2 ⟨xB, ea⟩ ⟨eH, hy⟩
            subst eH
            rw [hcut, List.append_nil, show V.str n :: r.map V.str = (n :: r).map V.str from rfl] at hy
            rw [hcut, List.append_nil, show V.str n :: r.map V.str = (n :: r).map V.str from rfl, List.length_map] at hi
            rw [List.getElem?_map] at hy
            cases qz : (n :: r)[i]? with
            | none => rw [qz] at hy; cases hy
            | some z =>
              rw [qz] at hy
              cases Option.some.inj hy
              have hz : z ∈ k :: n :: e :: r := by
                have := List.mem_of_getElem? qz
                simp only [List.mem_cons] at this ⊢
                rcases this with q | q
                · exact .inr (.inl q)
                · exact .inr (.inr (.inr q))
              refine ⟨rfl, ?_⟩
              refine yes_go (iteT ?_)
              refine ⟨_, rfl, z, rfl, hsh z hz, fun H5 x5 => ?_⟩
              refine acc_add (x5 _ _ hacc) hl2 (by simp only [List.length_cons] at hi hwl; omega) ⟨fun b o hb => ext_delD x5 _ _ (xB b o hb), ?_⟩
              rw [ea, List.take_add_one, qz, List.map_append]
              rfl
          · rintro H4 acc hacc hl2 ⟨xB, ea⟩
            have ea2 : acc = ((n :: r).map isNm).map V.bl := by
              rw [ea, List.map_map, List.take_of_length_le (by rw [hcut, List.append_nil]; simp)]
              rfl
            rw [ea2] at hacc
            refine ⟨D, _, rfl, SqL.of hacc, _, rfl, ?_⟩
            have x4 : Ext H3 H4 := fun b o hb => ext_del _ _ (xB b o hb)
            have x14 : Ext H1 H4 := x3.trans x4
            have eall : ((n :: r).map isNm).all id = (isNm n && r.all isNm) := by
              rw [List.all_map]
              rfl
            rw [eall]
            dsimp only at h
            by_cases c3 : isNm n = true ∧ r.all isNm = true
            · rw [if_pos ⟨c1, c2.1, c2.2, c3.1, c3.2⟩] at h
              refine iteFd' (by rw [c3.1, c3.2]; rfl) ?_
              have hL4 := x14 _ _ hL
              refine ⟨_, rfl, l, _, _, _, rfl, rfl, SqL.of hL4, atI_nat (j := 1) rfl, _, rfl, _, rfl, l, _, _, _, rfl, rfl, SqL.of hL4, atI_nat (j := 0) rfl, _, rfl, _, rfl, l, _, rfl, SqL.of hL4, fun p2 hp2 => ?_⟩
              have x5 : Ext H4 (upd H4 p2 (.lst (cutV ((k :: n :: e :: r).map V.str) (some 3) none))) := Ext.upd hp2
              have hp3 : (upd H4 p2 (.lst (cutV ((k :: n :: e :: r).map V.str) (some 3) none))) p2 = some (.lst (r.map V.str)) := by rw [upd_same, hcut]
              intro y dy hy hdy hne
              refine ⟨y, dy, p2, ⟨n, f, k, r⟩, rfl, upd_same, ?_, fun H' off ev => ⟨rfl, h y H' ?_ ev⟩⟩
              · refine SqL.of ?_
                rw [upd_ne (ne_of_none hp3 hy), upd_ne (ne_of_none hp3 hdy)]
                exact hp3
              · refine (x1.trans (x14.trans x5)).trans ?_
                intro b o hb
                refine off b o (ne_of_none hb hy) ?_
                rw [upd_ne (ne_of_none hb hy), upd_ne (ne_of_none hb hdy)]
                exact hb
            · rw [if_neg (fun q => c3 ⟨q.2.2.2.1, q.2.2.2.2⟩)] at h
              refine iteTd ?_ ?_
              · cases q1 : isNm n with
                | false => rfl
                | true =>
                  cases q2 : r.all isNm with
                  | false => rfl
                  | true => exact absurd ⟨q1, q2⟩ c3
              · exact h H4 (x1.trans x14)
        · rw [decide_eq_false c2]
          refine iteT ?_
          have h' : (∀ H', Ext H H' → Q .non H') := by
            dsimp only at h
            rw [if_neg (fun z => c2 ⟨z.2.1, z.2.2.1⟩)] at h
            exact h
          exact h' H1 x1
    · rw [decide_eq_false c1]
      refine iteT ?_
      have h' : (∀ H', Ext H H' → Q .non H') := by
        cases qf : fig e with
        | none => rw [qf] at h; exact h
        | some f =>
          rw [qf] at h
          dsimp only at h
          rw [if_neg (fun z => c1 z.1)] at h
          exact h
      exact h' H1 x1
end
end K00
set_option maxHeartbeats 1000000
namespace K00
open PySem PySem.Spec PyProof.Rows L2 Ax
def pre (es : List Ev) : Sum Nat (List Ev) → Sum Nat (List Ev)
  | .inl j => .inl j
  | .inr fs => .inr (es ++ fs)
theorem pre_pre (es fs : List Ev) (x : Sum Nat (List Ev)) : pre es (pre fs x) = pre (es ++ fs) x := by
  cases x with
  | inl j => rfl
  | inr gs => show Sum.inr _ = Sum.inr _; rw [List.append_assoc]
theorem pre_nil (x : Sum Nat (List Ev)) : pre [] x = x := by cases x <;> rfl
def rdRows : List Str → Nat → Sum Nat (List Ev)
  | [], _ => .inr []
  | r :: rs, k => match rowOf (Txt.split r " ") with
    | none => .inl k
    | some e => pre [e] (rdRows rs (k + 1))
theorem rdRows_cons {r : Str} {rs : List Str} {k : Nat} : rdRows (r :: rs) k = (match rowOf (Txt.split r " ") with
    | none => .inl k
    | some e => pre [e] (rdRows rs (k + 1))) := rfl
theorem EvsAt.ne {K : PySem.W.Frag} {H H' : Hp} {x : Addr} {as : List Addr} {evs : List Ev} {ys : List V} (h : EvsAt K H as evs) (hx : H x = some (.lst ys)) (o : Off x H H') : EvsAt K H' as evs := ⟨h.1, fun i a e h1 h2 => (h.2 i a e h1 h2).ne hx o⟩
theorem EvsAt.snoc {K : PySem.W.Frag} {H : Hp} {as : List Addr} {evs : List Ev} {a : Addr} {e : Ev} (h : EvsAt K H as evs) (g : EvAt K H a e) : EvsAt K H (as ++ [a]) (evs ++ [e]) := by
  refine ⟨by simp [h.1], fun i b f h1 h2 => ?_⟩
  by_cases c : i < as.length
  · rw [List.getElem?_append_left c] at h1
    rw [List.getElem?_append_left (by rw [← h.1]; exact c)] at h2
    exact h.2 i b f h1 h2
  · have c2 : i = as.length := by
      have := (List.getElem?_eq_some_iff.mp h1).1
      simp at this
      omega
    subst c2
    rw [List.getElem?_append_right (Nat.le_refl _), Nat.sub_self] at h1
    rw [h.1, List.getElem?_append_right (Nat.le_refl _), Nat.sub_self] at h2
    cases Option.some.inj h1
    cases Option.some.inj h2
    exact g
theorem off_upd {H : Hp} {a : Addr} {o : HO} : Off a H (upd H a o) := (Ext.off Ext.rfl').upd
section
variable {P : Program} {w : World} {K : PySem.W.Frag} {mg : Str → Option Value} {base : Heap}
def spReads (K : PySem.W.Frag) : Sp := fun vs H Q E => ∃ (p : Addr) (rows : List Str), vs = [.ref p, .int 0] ∧ SqL K H p (rows.map V.str) ∧ (∀ r ∈ rows, r.length + 2 ≤ sizeLine) ∧ rows.length ≤ 1000 ∧ (match rdRows rows 0 with
  | .inl j => ∀ (d : Addr) H', Ext H H' → ErrT H' d j → E (.ref (He.ga K "BadText")) (some d) H'
  | .inr evs => ∀ l as H', Ext H H' → H' l = some (.lst (as.map V.ref)) → EvsAt K H' as evs → Q (.ref l) H')
theorem ok_reads (T : Tx w K mg) : Dn P w K mg base (CX P w) 4 "read_events" ["rows", "start"] (spReads K) := by
  obtain ⟨fd, F⟩ := T.f_read_events
  obtain ⟨fdB, FB, bB⟩ := ok_BadText (P := P) (base := base) T
  refine ⟨_, fd, F.ok sc_read_events (fun vs H Q E h => ?_) (fun cdv A outer s H vs Q E hr h => ⟨_, (pss_cons
    (ps_set (i := 2) sc_read_events.nd rfl (Or.inl rfl) (pe_lst pa_nil)) (pss_cons
    (ps_for (passes_of rfl) rfl (pi_range2 (by rfl) T.b_range (pa_cons (pv 1) (pa_cons (pe_callB call_len_seq rfl T.b_len (by decide +kernel) (pa_cons (pv 0) pa_nil)) pa_nil))) (pg_name (i := 3) sc_read_events.nd rfl (Or.inl rfl)) (pss_cons
      (ps_set (i := 4) sc_read_events.nd rfl (Or.inl rfl) (pe_dn (ok_read T) hr rfl pass0 (pa_cons (pe_ix ix_list (pv 0) (pv 3) (fun _ _ => rfl)) pa_nil))) (pss_cons
      (ps_if (pt_cmpR op_isN (pv 4) pe_non (nomark _)) (pss_one (ps_raise rfl (takes_of rfl rfl rfl rfl) (pmk_oex T.ox_BadText T.fi_BadText T.ft_BadText (FB.mono (by decide)) hr bB .nil pass0 rfl T.g_BadText (pa_cons (pv 3) pa_nil)))) pss_nil)
      (pss_one (ps_expr (pe_bm PySem.F.plainAttrs_list PySem.F.slot_list_append PySem.F.type_list_append mt_append (pv 2) (pa_cons (pv 4) pa_nil)))))))
    (pss_one (ps_ret (pv 2))))), ?_⟩), T.g_read_events, F.kp, F.bindsN fun _ _ _ _ _ _ us hl => match us, hl with | [_, _], _ => rfl⟩
  · obtain ⟨p, rows, rfl, _⟩ := h
    rfl
  · obtain ⟨p, rows, rfl, hp, hlen, hn, h⟩ := h
    refine ⟨by decide, fun D hD => ?_⟩
    have x1 : Ext H (upd H D (.lst [])) := Ext.upd hD
    refine ⟨_, rfl, _, rfl, p, _, rfl, .inl (hp.ext x1), 0, _, rfl, ⟨by decide, by decide, by omega, by rw [List.length_map]; omega⟩, ?_⟩
    refine for_range (lo := 0) (n := (((rows.map V.str).length : Int) - 0).toNat) (fun i σ H' => ∃ s3 s4 as evs, σ = [some (.ref p), some (.int 0), some (.ref D), s3, s4] ∧ H' D = some (.lst (as.map V.ref)) ∧ Ext H H' ∧ EvsAt K H' as evs ∧ as.length = i ∧ rdRows rows 0 = pre evs (rdRows (rows.drop i) i))
      ⟨none, none, [], [], rfl, upd_same, x1, ⟨rfl, fun i a e h1 _ => by cases h1⟩, rfl, (pre_nil _).symm⟩ ?_ ?_
    · rintro i σ H' hi ⟨s3, s4, as, evs, rfl, hDl, x2, hev, hal, hrd⟩
      have hi2 : i < rows.length := by simp at hi; exact hi
      have qe : rows[i]? = some rows[i] := List.getElem?_eq_getElem hi2
      have hdr : rows.drop i = rows[i] :: rows.drop (i + 1) := List.drop_eq_getElem_cons hi2
      have hrl := hlen _ (List.mem_of_getElem? qe)
      generalize rows[i] = r at qe hdr hrl
      rw [hdr, rdRows_cons] at hrd
      have hat : atI (rows.map V.str) (0 + (i : Int)) = some (.str r) := by
        rw [Int.zero_add]
        exact atI_nat (by rw [List.getElem?_map, qe]; rfl)
      refine ⟨_, rfl, _, rfl, p, _, _, _, rfl, rfl, hp.ext x2, hat, r, rfl, hrl, ?_⟩
      cases qr : rowOf (Txt.split r " ") with
      | none =>
        rw [qr] at hrd
        dsimp only at hrd ⊢
        rw [hrd] at h
        intro H4 x4
        refine ⟨_, rfl, rfl, _, rfl, ?_⟩
        refine iteT ?_
        refine ⟨_, rfl, ?_⟩
        have hz : (0 + (i : Int)) = (i : Int) := Int.zero_add _
        rw [hz]
        exact out_text fun d H' x5 he => h d H' ((x2.trans x4).trans x5) he
      | some e =>
        rw [qr] at hrd
        dsimp only at hrd ⊢
        intro a H4 x4 ha
        refine ⟨_, rfl, rfl, _, rfl, ?_⟩
        refine iteF ?_
        refine ⟨_, rfl, .inl ⟨rfl, _, SqL.of (x4 _ _ hDl)⟩, _, rfl, D, _, _, rfl, rfl, x4 _ _ hDl, ?_, ?_⟩
        · rw [List.length_map, hal]
          have : 1000 < sizeLine := by decide
          omega
        · refine ⟨_, _, as ++ [a], evs ++ [e], rfl, ?_, ?_, ?_, ?_, ?_⟩
          · rw [List.map_append]
            exact upd_same
          · exact ext_upd_of (x2.trans x4) hD
          · exact (EvsAt.snoc (hev.ext x4) ha).ne (x4 _ _ hDl) off_upd
          · rw [List.length_append, hal]
            rfl
          · rw [hrd, pre_pre]
    · rintro σ H' ⟨s3, s4, as, evs, rfl, hDl, x2, hev, hal, hrd⟩
      have hnn : (((rows.map V.str).length : Int) - 0).toNat = rows.length := by simp
      rw [hnn, List.drop_length] at hrd
      have e2 : rdRows rows 0 = .inr evs := by
        rw [hrd]
        show Sum.inr (evs ++ []) = _
        rw [List.append_nil]
      rw [e2] at h
      exact ⟨_, rfl, h D as H' x2 hDl hev⟩
end
end K00
set_option maxHeartbeats 1000000
namespace K00
open PySem PySem.Spec PyProof.Rows L2 Ax
inductive Res where
  | bad (k : Nat)
  | ord (wh nm : Str)
  | ok (evs : List Ev)
def rdText (x : Str) : Res := if x = "" then .ok [] else match rdRows (Txt.split x "\n") 0 with
  | .inl k => .bad k
  | .inr evs => match ordF [] evs with
    | some (a, b) => .ord a b
    | none => .ok evs
theorem rowOf_good {ws : List Str} {e : Ev} (h : rowOf ws = some e) : Good e := by
  match ws, h with
  | k :: n :: f :: r, h =>
    have h' : (match fig f with
      | some f => if (k = "query" ∨ k = "action") ∧ 1 ≤ f ∧ f ≤ 5 ∧ isNm n = true ∧ r.all isNm = true then some (⟨n, f, k, r⟩ : Ev) else none
      | none => none) = some e := h
    cases q : fig f with
    | none => rw [q] at h'; cases h'
    | some i =>
      rw [q] at h'
      dsimp only at h'
      by_cases c : (k = "query" ∨ k = "action") ∧ 1 ≤ i ∧ i ≤ 5 ∧ isNm n = true ∧ r.all isNm = true
      · rw [if_pos c] at h'
        cases Option.some.inj h'
        exact ⟨c.2.2.2.1, c.2.1, c.2.2.1, c.1⟩
      · rw [if_neg c] at h'
        cases h'
theorem rdRows_good : ∀ {rows : List Str} {k : Nat} {evs : List Ev}, rdRows rows k = .inr evs → (∀ e ∈ evs, Good e) ∧ evs.length = rows.length
  | [], k, evs, h => by
    cases h
    exact ⟨fun e he => by simp at he, rfl⟩
  | r :: rs, k, evs, h => by
    rw [rdRows_cons] at h
    cases q : rowOf (Txt.split r " ") with
    | none => rw [q] at h; cases h
    | some e =>
      rw [q] at h
      dsimp only at h
      cases q2 : rdRows rs (k + 1) with
      | inl j => rw [q2] at h; cases h
      | inr es =>
        rw [q2] at h
        cases h
        obtain ⟨h1, h2⟩ := rdRows_good q2
        refine ⟨fun f hf => ?_, by simp [h2]⟩
        simp only [List.cons_append, List.nil_append, List.mem_cons] at hf
        rcases hf with rfl | hf
        · exact rowOf_good q
        · exact h1 f hf
section
variable {P : Program} {w : World} {K : PySem.W.Frag} {mg : Str → Option Value} {base : Heap}
def spParse (K : PySem.W.Frag) : Sp := fun vs H Q E => ∃ v : V, vs = [v] ∧ ((∃ x : Str, v = .str x ∧ x.length + 2 ≤ sizeLine ∧ (Txt.split x "\n").length ≤ 12 ∧ (match rdText x with
  | .bad j => ∀ (d : Addr) H', Ext H H' → ErrT H' d j → E (.ref (He.ga K "BadText")) (some d) H'
  | .ord wh nm => ∀ (d : Addr) H', Ext H H' → ErrO H' d wh nm → E (.ref (He.ga K "BadOrder")) (some d) H'
  | .ok evs => ∀ a H', Ext H H' → OrdAt K H' a evs → Q (.ref a) H')) ∨
  ∃ (d : PyData) (t : String), Dp K H v d ∧ SeqAt.shaped d = true ∧ PyData.eqv d (.str "") = false ∧ TyX K H v (.type t) ∧ kitB t "str" = some false ∧ ∀ (d : Addr) H', Ext H H' → ErrT H' d 0 → E (.ref (He.ga K "BadText")) (some d) H')
/-- Order(p): what the making asks -/
theorem mk_order {H : Hp} {p : Addr} {as : List Addr} {evs : List Ev} {Q : VK} {E : XK} (hp : SqL K H p (as.map V.ref) ∨ SqT K H p (as.map V.ref)) (hev : EvsAt K H as evs) (hg : ∀ e ∈ evs, Good e) (hl : evs.length ≤ 12)
    (h : match ordF [] evs with
      | none => ∀ a H', Ext H H' → OrdAt K H' a evs → Q (.ref a) H'
      | some (wh, nm) => ∀ (d : Addr) H', Ext H H' → ErrO H' d wh nm → E (.ref (He.ga K "BadOrder")) (some d) H') :
    ∀ x dx, H x = none → H dx = none → dx ≠ x → spOrdI K (.ref x :: ([V.ref p] ++ [])) (upd (upd H dx (.own x)) x (.ins (He.ga K "Order") dx [])) (fun v H2 => v = .non ∧ Q (.ref x) H2) E := by
  intro x dx hx hdx hne
  have e1 : Ext H (upd (upd H dx (.own x)) x (.ins (He.ga K "Order") dx [])) := by
    intro b o hb
    rw [upd_ne (ne_of_none hb hx), upd_ne (ne_of_none hb hdx)]
    exact hb
  have e2 : ∀ H', Off x (upd (upd H dx (.own x)) x (.ins (He.ga K "Order") dx [])) H' → Ext H H' := fun H' off b o hb => off b o (ne_of_none hb hx) (e1 _ _ hb)
  refine ⟨x, dx, p, as, evs, rfl, upd_same, hp.elim (fun q => .inl (q.ext e1)) (fun q => .inr (q.ext e1)), hev.ext e1, hg, hl, ?_⟩
  cases q : ordF [] evs with
  | none =>
    rw [q] at h
    exact fun H' off ho => ⟨rfl, h x H' (e2 H' off) ho⟩
  | some ab =>
    obtain ⟨wh, nm⟩ := ab
    rw [q] at h
    exact fun d H' off he => h d H' (e2 H' off) he
theorem ok_parse (T : Tx w K mg) : Dn P w K mg base (CX P w) 6 "parse_order" ["text"] (spParse K) := by
  obtain ⟨fd, F⟩ := T.f_parse_order
  refine ⟨_, fd, F.ok sc_parse_order (fun vs H Q E h => ?_) (fun cdv A outer s H vs Q E hr h => ⟨_, (pss_cons
    (ps_if (pt_cmpR (OpR.or op_eq (op_eqD hr.units)) (pv 0) pe_str (nomark _)) (pss_one (ps_ret (pe_dc (E := E) (ok_OrdI T) hr rfl (passes_call (takes_of rfl rfl rfl rfl) (fun _ _ _ _ h => h)) (pa_cons (pe_tup pa_nil) pa_nil)))) pss_nil)
    (pss_one (ps_ret (pe_dc (E := E) (ok_OrdI T) hr rfl (passes_call (takes_of rfl rfl rfl rfl) (fun _ _ _ _ h => h)) (pa_cons
      (pe_dn (E := E) ((ok_reads T).mono (by decide)) hr rfl (passes_call (takes_of rfl rfl rfl rfl) (fun _ _ _ _ h => h)) (pa_cons
        (pe_dn (E := E) ((ok_rows T).mono (by decide)) hr rfl (passes_call (takes_of rfl rfl rfl rfl) (fun _ _ _ _ h => h)) (pa_cons (pv 0) pa_nil)) (pa_cons pe_int pa_nil))) pa_nil))))), ?_⟩), T.g_parse_order, F.kp, F.bindsN fun _ _ _ _ _ _ us hl => match us, hl with | [_], _ => rfl⟩
  · obtain ⟨v, rfl, _⟩ := h
    rfl
  · obtain ⟨v, rfl, ⟨x, rfl, hl, hn, h⟩ | ⟨d, t, hd, hs, hq, ht, hk, h⟩⟩ := h
    · refine ⟨_, rfl, .inl ⟨rfl, _, rfl, ?_⟩⟩
      unfold rdText at h
      by_cases c : x = ""
      · rw [if_pos c] at h
        refine iteTd (decide_eq_true (by rw [c])) ?_
        refine ⟨by decide, fun p hp => ?_⟩
        refine mk_order (as := []) (evs := []) (.inr (SqT.of upd_same)) ⟨rfl, fun i a e h1 _ => by cases h1⟩ (fun e he => by simp at he) (by decide) ?_
        exact fun a H' x1 ho => h a H' ((Ext.upd hp).trans x1) ho
      · rw [if_neg c] at h
        refine iteFd (fun z => c (V.str.inj z)) ?_
        refine ⟨_, rfl, _, rfl, .inl ⟨x, rfl, hl, fun l hl1 => ?_⟩⟩
        have x1 : Ext H (upd H l (.lst ((Txt.split x "\n").map V.str))) := Ext.upd hl1
        refine ⟨l, Txt.split x "\n", rfl, SqL.of upd_same, fun r hr => ?_, by omega, ?_⟩
        · have := part_short hr
          omega
        cases q : rdRows (Txt.split x "\n") 0 with
        | inl j =>
          rw [q] at h
          exact fun d H' x2 he => h d H' (x1.trans x2) he
        | inr evs =>
          rw [q] at h
          dsimp only at h ⊢
          intro l2 as H2 x2 hl2 hev
          obtain ⟨hg, hlen⟩ := rdRows_good q
          refine mk_order (.inl (SqL.of hl2)) hev hg (by omega) ?_
          cases q2 : ordF [] evs with
          | none =>
            rw [q2] at h
            exact fun a H' x3 ho => h a H' ((x1.trans x2).trans x3) ho
          | some ab =>
            obtain ⟨wh, nm⟩ := ab
            rw [q2] at h
            exact fun d H' x3 he => h d H' ((x1.trans x2).trans x3) he
    · refine ⟨_, rfl, .inr ⟨d, .str "", hd, .str _, hs, by decide +kernel, _, rfl, ?_⟩⟩
      refine iteFd' hq ?_
      exact ⟨_, rfl, _, rfl, .inr ⟨t, ht, hk, h⟩⟩
end
end K00
set_option maxHeartbeats 1000000
namespace K00
open PySem PySem.Spec PyProof.Rows L2 Ax
theorem passF {X : Cx} : Passes (L2.CX X.prog X.w) X (fun _ _ _ => False) := fun _ _ _ _ _ _ _ h => by
  obtain ⟨a, B, H', cls, d, _, _, _, _, _, _, _, h⟩ := h
  exact h.elim
theorem txt_join (y : Str) (parts : List Str) : Txt.join y parts = Str.join y parts := TL.join_eq y parts
structure Fine (e : Ev) : Prop where
  nm : e.name.length ≤ 8
  kd : e.kind.length ≤ 8
  lo : 1 ≤ e.fin
  hi : e.fin ≤ 5
  nn : e.needs.length ≤ 3
  nl : ∀ n ∈ e.needs, n.length ≤ 8
def numT (i : Int) : Str := Str.ofString (toString i)
def rowT (e : Ev) : Str := Txt.join " " (e.kind :: e.name :: numT e.fin :: e.needs)
def textT (evs : List Ev) : Str := Txt.join "\n" (evs.map rowT)
theorem five {i : Int} (h1 : 1 ≤ i) (h2 : i ≤ 5) : i = 1 ∨ i = 2 ∨ i = 3 ∨ i = 4 ∨ i = 5 := by omega
theorem numT_len {i : Int} (h1 : 1 ≤ i) (h2 : i ≤ 5) : (numT i).length = 1 := by
  rcases five h1 h2 with q | q | q | q | q <;> subst q <;> decide +kernel
theorem log_five {i : Int} (h1 : 1 ≤ i) (h2 : i ≤ 5) : i.natAbs.log2 < 1920 := by
  rcases five h1 h2 with q | q | q | q | q <;> subst q <;> decide +kernel
theorem sum_le (b : Nat) : ∀ ys : List Str, (∀ y ∈ ys, y.length ≤ b) → (ys.map (·.length)).sum ≤ ys.length * b
  | [], _ => by simp
  | y :: ys, h => by
    have h1 := sum_le b ys fun z hz => h z (List.mem_cons_of_mem _ hz)
    have h2 := h y List.mem_cons_self
    simp only [List.map_cons, List.sum_cons, List.length_cons, Nat.succ_mul]
    omega
theorem Fine.sum {e : Ev} (f : Fine e) : ((e.kind :: e.name :: numT e.fin :: e.needs).map (·.length)).sum + (e.kind :: e.name :: numT e.fin :: e.needs).length * (" " : Str).length ≤ 47 := by
  have h1 := sum_le 8 e.needs f.nl
  have h2 := f.nm
  have h3 := f.kd
  have h4 := numT_len f.lo f.hi
  have h5 := f.nn
  have h6 : (" " : Str).length = 1 := by decide
  have h7 : e.needs.length * 8 ≤ 24 := by omega
  simp only [List.map_cons, List.sum_cons, List.length_cons, h6]
  omega
theorem rowT_len {e : Ev} (f : Fine e) : (rowT e).length ≤ 47 := by
  have h := StrLaws.join_length_le (" " : Str) (e.kind :: e.name :: numT e.fin :: e.needs)
  have h2 := f.sum
  have h3 : rowT e = Str.join " " (e.kind :: e.name :: numT e.fin :: e.needs) := txt_join _ _
  rw [h3]
  omega
section
variable {P : Program} {w : World} {K : PySem.W.Frag} {mg : Str → Option Value} {base : Heap}
def spRow (K : PySem.W.Frag) : Sp := fun vs H Q _ => ∃ (a : Addr) (e : Ev), vs = [.ref a] ∧ EvAt K H a e ∧ Fine e ∧ ∀ H', Ext H H' → Q (.str (rowT e)) H'
theorem ok_row (T : Tx w K mg) : Dn P w K mg base CX0 1 "event_row" ["event"] (spRow K) := by
  obtain ⟨fd, F⟩ := T.f_event_row
  refine ⟨_, fd, F.ok sc_event_row (fun vs H Q E h => ?_) (fun cdv A outer s H vs Q E hr h => ⟨_, PSs.nox (pss_one (ps_ret (pe_join pe_str (pe_lst (pa_cons (pe_fld (pv 0) rfl) (pa_cons (pe_fld (pv 0) rfl) (pa_cons
    (pe_callTy call_str_int rfl T.b_str (by decide +kernel) (pa_cons (pe_fld (pv 0) rfl) pa_nil)) (StX.pa_star (pe_fld (pv 0) rfl) pa_nil)))))))), ?_⟩), T.g_event_row, F.kp, F.bindsN fun _ _ _ _ _ _ us hl => match us, hl with | [_], _ => rfl⟩
  · obtain ⟨a, e, rfl, _⟩ := h
    rfl
  · obtain ⟨a, e, rfl, ⟨dx, t, fs, h1, h2, h3, h4, h5, h6⟩, f, h⟩ := h
    have f1 := T.c_Event
    refine ⟨⟨_, rfl⟩, _, rfl, a, _, dx, fs, _, rfl, h1, f1, T.n_Event_kind, h4, _, rfl, a, _, dx, fs, _, rfl, h1, f1, T.n_Event_name, h2, _, rfl, a, _, dx, fs, _, rfl, h1, f1, T.n_Event_end, h3, _, rfl, log_five f.lo f.hi,
      _, rfl, a, _, dx, fs, _, rfl, h1, f1, T.n_Event_needs, h5, t, _, rfl, .inl h6.sq, ?_, fun l hl => ?_⟩
    · have := f.nn
      have : 10 ≤ sizeLine := by decide
      simp only [List.length_cons, List.length_append, List.length_map, List.length_nil]
      omega
    · have el : V.str e.kind :: V.str e.name :: V.str (toString e.fin) :: (e.needs.map V.str ++ []) = (e.kind :: e.name :: numT e.fin :: e.needs).map V.str := by
        rw [List.append_nil]
        rfl
      refine ⟨_, l, e.kind :: e.name :: numT e.fin :: e.needs, rfl, rfl, .inl (SqL.of (by rw [← el]; exact upd_same)), ?_, ?_⟩
      · have := f.sum
        omega
      · exact h _ (Ext.upd hl)
def spText (K : PySem.W.Frag) : Sp := fun vs H Q _ => ∃ (a : Addr) (evs : List Ev), vs = [.ref a] ∧ OrdAt K H a evs ∧ (∀ e ∈ evs, Fine e) ∧ evs.length ≤ 12 ∧ ∀ H', Ext H H' → Q (.str (textT evs)) H'
theorem ok_text (T : Tx w K mg) : Dn P w K mg base CX0 2 "order_text" ["order"] (spText K) := by
  obtain ⟨fd, F⟩ := T.f_order_text
  refine ⟨_, fd, F.ok sc_order_text (fun vs H Q E h => ?_) (fun cdv A outer s H vs Q E hr h => ⟨_, PSs.nox (pss_one (ps_ret (pe_join pe_str
    (pe_lc (own := [("event", 1)]) (g := gName 1) (tt := tYes) (te := tCall (spRow K) [] E0 (tCons (tVar 1) tNil)) (by rfl) sc_order_text.nd (pi_own (pv 0) (ok_iter T) hr)
      (blkOk_by (own := [("event", 1)]) (N := n_order_text) (sc := defScope s_order_text) (by decide +kernel)) (fun _ _ _ _ _ => pg_name (i := 1) sc_order_text.nd rfl (Or.inl rfl)) (fun _ _ _ _ _ => pts_nil)
      (fun _ _ _ _ _ => pe_dn (ok_row T) hr rfl pass0 (pa_cons (pv 1) pa_nil)))))), ?_⟩), T.g_order_text, F.kp, F.bindsN fun _ _ _ _ _ _ us hl => match us, hl with | [_], _ => rfl⟩
  · obtain ⟨a, evs, rfl, _⟩ := h
    rfl
  · obtain ⟨a, evs, rfl, ⟨dx, t, as, fs, h1, h2, h3, h4⟩, hf, hl, h⟩ := h
    refine ⟨⟨_, rfl⟩, _, rfl, a, dx, t, fs, rfl, h1, h2, ⟨_, h3⟩, fun D hD => ?_⟩
    refine lc_acc (walk_tup (K := K) (xs := as.map V.ref)) hD (fun i acc B => Ext H B ∧ acc = (evs.take i).map fun e => V.str (rowT e)) ⟨Ext.rfl', rfl⟩ (fun i acc H4 _ _ q => h3.ext fun b o hb => ext_del _ _ (q.1 b o hb)) ?_ ?_
    · rintro i y H4 H' acc hi hacc hl2 ⟨xB, ea⟩ ⟨eH, hy⟩
      subst eH
      rw [List.getElem?_map] at hy
      rw [List.length_map] at hi
      cases qa : as[i]? with
      | none => rw [qa] at hy; cases hy
      | some a1 =>
        rw [qa] at hy
        cases Option.some.inj hy
        have hi2 : i < evs.length := by rw [← h4.1]; exact hi
        have qe : evs[i]? = some evs[i] := List.getElem?_eq_getElem hi2
        have x4 : Ext H H' := fun b o hb => ext_del _ _ (xB b o hb)
        refine ⟨rfl, ?_⟩
        refine yes_go (iteT ?_)
        refine ⟨_, rfl, a1, evs[i], rfl, (h4.2 i a1 _ qa qe).ext x4, hf _ (List.mem_of_getElem? qe), fun H5 x5 => ?_⟩
        refine acc_add (x5 _ _ hacc) hl2 (by have : 12 < sizeLine := by decide
                                             omega) ⟨fun b o hb => ext_delD x5 _ _ (xB b o hb), ?_⟩
        rw [ea, List.take_add_one, qe, List.map_append]
        rfl
    · rintro H4 acc hacc hl2 ⟨xB, ea⟩
      have ea2 : acc = (evs.map rowT).map V.str := by
        rw [ea, List.map_map, List.length_map, h4.1, List.take_of_length_le (Nat.le_refl _)]
        rfl
      rw [ea2] at hacc
      refine ⟨_, D, evs.map rowT, rfl, rfl, .inl (SqL.of hacc), ?_, ?_⟩
      · have h7 := sum_le 47 (evs.map rowT) (fun y hy => by
          obtain ⟨e, he, rfl⟩ := List.mem_map.mp hy
          exact rowT_len (hf e he))
        have h8 : ("\n" : Str).length = 1 := by decide
        rw [List.length_map] at h7 ⊢
        rw [h8]
        omega
      · exact h _ fun b o hb => ext_del _ _ (xB b o hb)
end
end K00
set_option maxHeartbeats 1000000
namespace K00
open PySem PySem.Spec PyProof.Rows L2 Ax
def BagAt (H : Hp) (b c : Addr) (ms : List Int) (n : Nat) : Prop := ∃ t r : Int, H b = some (.lst [.ref c, .int t, .int r]) ∧ H c = some (.lst (ms.map V.int)) ∧ b ≠ c ∧ 0 ≤ t ∧ t ≤ n ∧ 0 ≤ r ∧ ms ≠ [] ∧ ms.length ≤ 63 ∧ ∀ m ∈ ms, 0 ≤ m
theorem BagAt.ext {H H' : Hp} {b c : Addr} {ms : List Int} {n : Nat} (h : BagAt H b c ms n) (x : Ext H H') : BagAt H' b c ms n := by
  obtain ⟨t, r, h1, h2, h3⟩ := h
  exact ⟨t, r, x _ _ h1, x _ _ h2, h3⟩
theorem BagAt.mono {H : Hp} {b c : Addr} {ms : List Int} {n m : Nat} (h : BagAt H b c ms n) (x : n ≤ m) : BagAt H b c ms m := by
  obtain ⟨t, r, h1, h2, h3, h4, h5, h6⟩ := h
  exact ⟨t, r, h1, h2, h3, h4, by omega, h6⟩
theorem BagAt.ne {H H' : Hp} {b c x : Addr} {ms : List Int} {n : Nat} (h : BagAt H b c ms n) (hb : x ≠ b) (hc : x ≠ c) (o : Off x H H') : BagAt H' b c ms n := by
  obtain ⟨t, r, h1, h2, h3⟩ := h
  exact ⟨t, r, o _ _ (Ne.symm hb) h1, o _ _ (Ne.symm hc) h2, h3⟩
section
variable {P : Program} {w : World} {K : PySem.W.Frag} {mg : Str → Option Value} {base : Heap}
def spBag (K : PySem.W.Frag) : Sp := fun vs H Q _ => ∃ (a : Addr) (ns : List Int), vs = [.ref a] ∧ SqL K H a (ns.map V.int) ∧ ns.length ≤ 63 ∧ ∀ b c ms H', Ext H H' → H b = none → BagAt H' b c ms 0 → Q (.ref b) H'
theorem ok_bag (T : Tx w K mg) : Dn P w K mg base CX0 1 "_law_bag" ["script"] (spBag K) := by
  obtain ⟨fd, F⟩ := T.f_law_bag
  refine ⟨_, fd, F.ok sc_law_bag (fun vs H Q E h => ?_) (fun cdv A outer s H vs Q E hr h => ⟨_, PSs.nox (pss_cons
    (ps_setLc (i := 1) (own := [("cell", 2)]) (g := gName 2) (tt := tYes) (te := tCB (fun xs H Q => ∃ i, xs = [.int i] ∧ Q (.int (if i < 0 then -i else i)) H) (tCons (tVar 2) tNil)) (by rfl) sc_law_bag.nd rfl rfl (sw_true rfl rfl rfl (by decide +kernel)) (pi_list (pe_slice sl_list (pv 0) po_none (po_some pe_int)))
      (blkOk_by (own := [("cell", 2)]) (N := n_law_bag) (sc := defScope s_law_bag) (by decide +kernel)) (fun _ _ _ _ _ => pg_name (i := 2) sc_law_bag.nd rfl (Or.inl rfl)) (fun _ _ _ _ _ => pts_nil)
      (fun _ _ _ _ _ => pe_callB call_abs rfl T.b_abs (by decide +kernel) (pa_cons (pv 2) pa_nil))) (pss_cons
    (ps_if (pt_cmpR op_eq (pe_callB call_len_seq rfl T.b_len (by decide +kernel) (pa_cons (pv 1) pa_nil)) pe_int (nomark _)) (pss_one (ps_set (i := 1) sc_law_bag.nd rfl (Or.inl rfl) (pe_lst (pa_cons pe_int pa_nil)))) pss_nil)
    (pss_one (ps_ret (pe_lst (pa_cons (pv 1) (pa_cons pe_int (pa_cons pe_int pa_nil)))))))), ?_⟩), T.g_law_bag, F.kp, F.bindsN fun _ _ _ _ _ _ us hl => match us, hl with | [_], _ => rfl⟩
  · obtain ⟨a, ns, rfl, _⟩ := h
    rfl
  · obtain ⟨a, ns, rfl, ha, hl, h⟩ := h
    have hcut : cutV (ns.map V.int) none (some 63) = ns.map V.int := by
      have e := cut_to (ns.map V.int) 63
      rw [List.take_of_length_le (by rw [List.length_map]; exact hl)] at e
      exact e
    refine ⟨_, rfl, _, rfl, a, _, rfl, ha, fun p hp => ?_⟩
    have x1 : Ext H (upd H p (.lst (cutV (ns.map V.int) none (some 63)))) := Ext.upd hp
    have hp1 : (upd H p (.lst (cutV (ns.map V.int) none (some 63)))) p = some (.lst (ns.map V.int)) := by rw [upd_same, hcut]
    generalize (upd H p (.lst (cutV (ns.map V.int) none (some 63)))) = H1 at x1 hp1 ⊢
    refine ⟨p, rfl, ⟨_, SqL.of hp1⟩, fun D hD => ?_⟩
    refine lc_acc (walk_list (K := K) (xs := ns.map V.int)) hD (fun i acc B => Ext H1 B ∧ acc = (ns.take i).map fun m => V.int (if m < 0 then -m else m)) ⟨Ext.rfl', rfl⟩ (fun i acc H4 _ _ q => SqL.of (ext_del _ _ (q.1 _ _ hp1))) ?_ ?_
    · rintro i y H4 H' acc hi hacc hl2 ⟨xB, ea⟩ ⟨eH, hy⟩
      subst eH
      rw [List.getElem?_map] at hy
      rw [List.length_map] at hi
      cases qz : ns[i]? with
      | none => rw [qz] at hy; cases hy
      | some z =>
        rw [qz] at hy
        cases Option.some.inj hy
        refine ⟨rfl, ?_⟩
        refine yes_go (iteT ?_)
        refine ⟨_, rfl, z, rfl, ?_⟩
        refine acc_add hacc hl2 (by have : 63 < sizeLine := by decide
                                    omega) ⟨xB, ?_⟩
        rw [ea, List.take_add_one, qz, List.map_append]
        rfl
    · rintro H4 acc hacc hl2 ⟨xB, ea⟩
      have ea2 : acc = (ns.map fun m => if m < 0 then -m else m).map V.int := by
        rw [ea, List.map_map, List.length_map, List.take_of_length_le (Nat.le_refl _)]
        rfl
      rw [ea2] at hacc
      have x4 : Ext H H4 := x1.trans fun b o hb => ext_del _ _ (xB b o hb)
      have hD0 : H D = none := by
        cases q : H D with
        | none => rfl
        | some o => rw [x1 _ _ q] at hD; cases hD
      have fin : ∀ (c : Addr) (ms : List Int) (H5 : Hp), Ext H H5 → H5 c = some (.lst (ms.map V.int)) → ms ≠ [] → ms.length ≤ 63 → (∀ m ∈ ms, 0 ≤ m) → ∀ b, H5 b = none → Q (.ref b) (upd H5 b (.lst [.ref c, .int 0, .int 0])) := by
        intro c ms H5 x5 hc hne hln hpos b hb
        have hcb : c ≠ b := ne_of_none hc hb
        have hb0 : H b = none := by
          cases q : H b with
          | none => rfl
          | some o => rw [x5 _ _ q] at hb; cases hb
        exact h b c ms _ (ext_upd_of x5 hb0) hb0 ⟨0, 0, upd_same, (upd_ne hcb).trans hc, Ne.symm hcb, by decide, by decide, by decide, hne, hln, hpos⟩
      refine ⟨_, rfl, D, _, rfl, .inl (SqL.of hacc), rfl, _, rfl, ?_⟩
      by_cases c : ns = []
      · subst c
        refine iteTd (by rfl) ?_
        refine ⟨by decide, fun l hl3 => ?_⟩
        refine ⟨_, rfl, ?_, fun b hb => ?_⟩
        · show 3 ≤ sizeLine
          decide
        · exact fin l [5] _ (x4.trans (Ext.upd hl3)) upd_same (by decide) (by decide) (by decide) b hb
      · refine iteFd' ?_ ?_
        · have : ns.length ≠ 0 := fun z => c (List.length_eq_zero_iff.mp z)
          simp only [List.length_map, decide_eq_false_iff_not]
          intro z
          injection z with z
          omega
        · refine ⟨_, rfl, ?_, fun b hb => ?_⟩
          · show 3 ≤ sizeLine
            decide
          · refine fin D _ H4 x4 hacc ?_ ?_ ?_ b hb
            · intro z
              exact c (List.map_eq_nil_iff.mp z)
            · rw [List.length_map]
              exact hl
            · intro m hm
              obtain ⟨z, _, rfl⟩ := List.mem_map.mp hm
              split <;> omega
/-! ### draw -/
def spDraw : Sp := fun vs H Q _ => ∃ (b c : Addr) (ms : List Int) (n : Nat) (lim : Int), vs = [.ref b, .int lim] ∧ BagAt H b c ms n ∧ n < 1000000 ∧ 1 ≤ lim ∧ lim < 1000000 ∧ ∀ d H', 0 ≤ d → d < lim → Off b H H' → BagAt H' b c ms (n + 1) → Q (.int d) H'
theorem mod_lt {a l : Int} (h : 1 ≤ l) : 0 ≤ a % l ∧ a % l < l := ⟨Int.emod_nonneg _ (by omega), Int.emod_lt_of_pos _ (by omega)⟩
theorem ok_draw (T : Tx w K mg) : Dn P w K mg base CX0 1 "_law_draw" ["bag", "limit"] spDraw := by
  obtain ⟨fd, F⟩ := T.f_law_draw
  refine ⟨_, fd, F.ok sc_law_draw (fun vs H Q E h => ?_) (fun cdv A outer s H vs Q E hr h => ⟨_, PSs.nox (pss_cons
    (ps_if (pt_cmpR op_gt (pe_ix ix_list (pv 0) pe_int (fun _ _ => rfl)) pe_int (nomark _)) (pss_cons
      (ps_set (i := 2) sc_law_draw.nd rfl (Or.inl rfl) (pe_op op_mod (pe_callTy call_int1 rfl T.b_int (by decide +kernel) (pa_cons (pe_ix ix_list (pv 0) pe_int (fun _ _ => rfl)) pa_nil)) (pv 1))) (pss_cons
      (ps_asg (pe_op op_fdiv (pe_ix ix_list (pv 0) pe_int (fun _ _ => rfl)) (pv 1)) (pg_sub (pv 0) pe_int set_list))
      (pss_one (ps_ret (pv 2))))) pss_nil) (pss_cons
    (ps_set (i := 3) sc_law_draw.nd rfl (Or.inl rfl) (pe_ix ix_list (pv 0) pe_int (fun _ _ => rfl))) (pss_cons
    (ps_asg (pe_op op_add (pv 3) pe_int) (pg_sub (pv 0) pe_int set_list)) (pss_cons
    (ps_set (i := 4) sc_law_draw.nd rfl (Or.inl rfl) (pe_ix ix_list (pv 0) pe_int (fun _ _ => rfl))) (pss_cons
    (ps_set (i := 5) sc_law_draw.nd rfl (Or.inl rfl) (pe_ix ix_list (pv 4) (pe_op op_mod (pe_callTy call_int1 rfl T.b_int (by decide +kernel) (pa_cons (pv 3) pa_nil)) (pe_callB call_len_seq rfl T.b_len (by decide +kernel) (pa_cons (pv 4) pa_nil))) (fun _ _ => rfl))) (pss_cons
    (ps_if (PW.pt (pw_and (pt_cmpR op_lt (pv 3) (pe_callB call_len_seq rfl T.b_len (by decide +kernel) (pa_cons (pv 4) pa_nil)) (nomark _)) (pw_and1 (pt_cmpR op_ge (pv 5) (pe_op op_pow pe_int pe_int) (nomark _))))) (pss_cons
      (ps_asg (pe_op op_fdiv (pv 5) (pv 1)) (pg_sub (pv 0) pe_int set_list))
      (pss_one (ps_ret (pe_op op_mod (pe_callTy call_int1 rfl T.b_int (by decide +kernel) (pa_cons (pv 5) pa_nil)) (pv 1))))) pss_nil) (pss_cons
    (ps_set (i := 6) sc_law_draw.nd rfl (Or.inl rfl) (pe_op op_mod (pe_callTy call_int1 rfl T.b_int (by decide +kernel) (pa_cons
      (pe_op op_add (pe_op op_add (pe_op op_mul (pe_op op_add (pv 5) pe_int) pe_int) (pe_op op_mul (pe_op op_mul (pv 3) (pv 3)) pe_int)) (pe_op op_mul (pv 3) pe_int)) pa_nil)) pe_int)) (pss_cons
    (ps_set (i := 6) sc_law_draw.nd rfl (Or.inl rfl) (pe_op op_mod (pe_callTy call_int1 rfl T.b_int (by decide +kernel) (pa_cons
      (pe_op op_add (pe_op op_mul (pv 6) pe_int) (pe_op op_mul (pe_op op_add (pv 3) pe_int) pe_int)) pa_nil)) pe_int))
    (pss_one (ps_ret (pe_op op_mod (pe_callTy call_int1 rfl T.b_int (by decide +kernel) (pa_cons (pe_op op_fdiv (pv 6) pe_int) pa_nil)) (pv 1)))))))))))), ?_⟩), T.g_law_draw, F.kp, F.bindsN fun _ _ _ _ _ _ us hl => match us, hl with | [_, _], _ => rfl⟩
  · obtain ⟨b, c, ms, n, lim, rfl, _⟩ := h
    rfl
  · obtain ⟨b, c, ms, n, lim, rfl, ⟨t, r, hb, hc, hbc, ht0, htn, hr0, hne, hln, hpos⟩, hn, hl1, hl2, h⟩ := h
    refine ⟨_, rfl, b, _, _, _, rfl, rfl, SqL.of hb, atI_nat (j := 2) rfl, _, _, rfl, rfl, _, rfl, ?_⟩
    by_cases c0 : 0 < r
    · refine iteTd (decide_eq_true c0) ?_
      refine ⟨_, rfl, b, _, _, _, rfl, rfl, SqL.of hb, atI_nat (j := 2) rfl, .inl ⟨r, rfl, ?_⟩⟩
      refine ⟨_, rfl, _, _, rfl, rfl, by omega, ?_⟩
      refine ⟨_, rfl, b, _, _, _, rfl, rfl, SqL.of hb, atI_nat (j := 2) rfl, _, rfl, _, _, rfl, rfl, ⟨by omega, by omega⟩, ?_⟩
      refine ⟨_, rfl, b, _, _, 2, rfl, rfl, hb, rfl, ?_⟩
      refine ⟨_, rfl, ?_⟩
      refine h _ _ (mod_lt hl1).1 (mod_lt hl1).2 off_upd ⟨t, r / lim, upd_same, (upd_ne hbc.symm).trans hc, hbc, ht0, by omega, Int.ediv_nonneg hr0 (by omega), hne, hln, hpos⟩
    refine iteFd c0 ?_
    refine ⟨_, rfl, b, _, _, _, rfl, rfl, SqL.of hb, atI_nat (j := 1) rfl, ?_⟩
    refine ⟨_, rfl, _, _, rfl, rfl, _, rfl, b, _, _, 1, rfl, rfl, hb, rfl, ?_⟩
    have hb2 : (upd H b (.lst ([V.ref c, V.int t, V.int r].set 1 (V.int (t + 1))))) b = some (.lst [.ref c, .int (t + 1), .int r]) := upd_same
    have hc2 : (upd H b (.lst ([V.ref c, V.int t, V.int r].set 1 (V.int (t + 1))))) c = some (.lst (ms.map V.int)) := (upd_ne hbc.symm).trans hc
    have o2 : Off b H (upd H b (.lst ([V.ref c, V.int t, V.int r].set 1 (V.int (t + 1))))) := off_upd
    generalize (upd H b (.lst ([V.ref c, V.int t, V.int r].set 1 (V.int (t + 1))))) = H2 at hb2 hc2 o2 ⊢
    refine ⟨_, rfl, b, _, _, _, rfl, rfl, SqL.of hb2, atI_nat (j := 0) rfl, ?_⟩
    have hml : 0 < ms.length := by
      cases ms with
      | nil => exact absurd rfl hne
      | cons m r => exact Nat.zero_lt_succ _
    obtain ⟨j, hj⟩ : ∃ j : Nat, t % (ms.length : Int) = (j : Int) := ⟨(t % (ms.length : Int)).toNat, by
      have := Int.emod_nonneg t (show (ms.length : Int) ≠ 0 by omega)
      omega⟩
    have hjl : j < ms.length := by
      have := Int.emod_lt_of_pos t (show 0 < (ms.length : Int) by omega)
      omega
    have qm : ms[j]? = some ms[j] := List.getElem?_eq_getElem hjl
    have hm0 : 0 ≤ ms[j] := hpos _ (List.getElem_mem hjl)
    generalize ms[j] = m at qm hm0
    have hat : atI (ms.map V.int) (t % (ms.length : Int)) = some (.int m) := by
      rw [hj]
      exact atI_nat (by rw [List.getElem?_map, qm]; rfl)
    refine ⟨_, rfl, _, rfl, .inl ⟨t, rfl, ?_⟩⟩
    refine ⟨_, rfl, c, _, rfl, .inl (SqL.of hc2), ?_⟩
    refine ⟨_, _, rfl, rfl, by rw [List.length_map]; omega, ?_⟩
    refine ⟨c, _, _, _, rfl, rfl, SqL.of hc2, by rw [List.length_map]; exact hat, ?_⟩
    refine ⟨_, rfl, _, rfl, c, _, rfl, .inl (SqL.of hc2), _, _, rfl, rfl, _, rfl, ?_⟩
    by_cases c1 : t < ((ms.map V.int).length : Int)
    · refine iteTd (decide_eq_true c1) ?_
      refine ⟨_, rfl, _, _, rfl, rfl, ⟨by decide, by decide, by decide⟩, _, _, rfl, rfl, _, rfl, ?_⟩
      by_cases c2 : (10 : Int) ^ (18 : Int).toNat ≤ m
      · rw [decide_eq_true c2]
        refine iteT ?_
        refine ⟨_, rfl, _, rfl, _, _, rfl, rfl, ⟨by omega, by omega⟩, _, rfl, b, _, _, 2, rfl, rfl, hb2, rfl, ?_⟩
        refine ⟨_, rfl, .inl ⟨_, rfl, _, rfl, _, _, rfl, rfl, by omega, ?_⟩⟩
        refine h _ _ (mod_lt hl1).1 (mod_lt hl1).2 (o2.trans off_upd) ⟨t + 1, m / lim, upd_same, (upd_ne hbc.symm).trans hc2, hbc, by omega, by omega, Int.ediv_nonneg hm0 (by omega), hne, hln, hpos⟩
      · rw [decide_eq_false c2]
        refine iteF ?_
        refine ⟨_, rfl, _, _, rfl, rfl, _, _, rfl, rfl, .inr ⟨by decide, by decide⟩, _, rfl, _, rfl, _, _, rfl, rfl, .inl ⟨by omega, by omega⟩, _, _, rfl, rfl, .inr ⟨by decide, by decide⟩, _, _, rfl, rfl, _, rfl, _, _, rfl, rfl, .inr ⟨by decide, by decide⟩, _, _, rfl, rfl, .inl ⟨_, rfl, _, _, rfl, rfl, by show (0 : Int) < _; decide, ?_⟩⟩
        refine ⟨_, rfl, _, _, rfl, rfl, .inr ⟨by decide, by decide⟩, _, rfl, _, _, rfl, rfl, _, _, rfl, rfl, .inr ⟨by decide, by decide⟩, _, _, rfl, rfl, .inl ⟨_, rfl, _, _, rfl, rfl, by show (0 : Int) < _; decide, ?_⟩⟩
        refine ⟨_, rfl, _, _, rfl, rfl, ⟨by decide, by decide⟩, .inl ⟨_, rfl, _, rfl, _, _, rfl, rfl, by omega, ?_⟩⟩
        refine h _ _ (mod_lt hl1).1 (mod_lt hl1).2 o2 ⟨t + 1, r, hb2, hc2, hbc, by omega, by omega, hr0, hne, hln, hpos⟩
    · refine iteFd c1 ?_
      refine iteF ?_
      refine ⟨_, rfl, _, _, rfl, rfl, _, _, rfl, rfl, .inr ⟨by decide, by decide⟩, _, rfl, _, rfl, _, _, rfl, rfl, .inl ⟨by omega, by omega⟩, _, _, rfl, rfl, .inr ⟨by decide, by decide⟩, _, _, rfl, rfl, _, rfl, _, _, rfl, rfl, .inr ⟨by decide, by decide⟩, _, _, rfl, rfl, .inl ⟨_, rfl, _, _, rfl, rfl, by show (0 : Int) < _; decide, ?_⟩⟩
      refine ⟨_, rfl, _, _, rfl, rfl, .inr ⟨by decide, by decide⟩, _, rfl, _, _, rfl, rfl, _, _, rfl, rfl, .inr ⟨by decide, by decide⟩, _, _, rfl, rfl, .inl ⟨_, rfl, _, _, rfl, rfl, by show (0 : Int) < _; decide, ?_⟩⟩
      refine ⟨_, rfl, _, _, rfl, rfl, ⟨by decide, by decide⟩, .inl ⟨_, rfl, _, rfl, _, _, rfl, rfl, by omega, ?_⟩⟩
      refine h _ _ (mod_lt hl1).1 (mod_lt hl1).2 o2 ⟨t + 1, r, hb2, hc2, hbc, by omega, by omega, hr0, hne, hln, hpos⟩
end
end K00
set_option maxHeartbeats 1000000
namespace K00
open PySem PySem.Spec PyProof.Rows L2 Ax
structure Nms (ns : List Str) : Prop where
  nd : ns.Nodup
  nm : ∀ x ∈ ns, isNm x = true
def poolL : List Str := ["m", "b2", "z", "a", "k0", "c", "zz9", "abcdefgh", "d", "w1w1w1w1"]
theorem pool_ok : Nms poolL := ⟨by decide +kernel, by decide +kernel⟩
theorem Nms.perm {as bs : List Str} (h : Nms as) (p : bs.Perm as) : Nms bs := ⟨p.nodup_iff.mpr h.nd, fun x hx => h.nm x (p.mem_iff.mp hx)⟩
theorem erase_perm : ∀ (l : List Str) (i : Nat) (h : i < l.length), (l[i] :: l.eraseIdx i).Perm l
  | [], i, h => by cases h
  | x :: l, 0, _ => List.Perm.refl _
  | x :: l, i + 1, h => by
    have q := erase_perm l i (Nat.lt_of_succ_lt_succ h)
    exact (List.Perm.swap x _ _).trans (q.cons x)
theorem map_erase (f : Str → V) : ∀ (l : List Str) (i : Nat), (l.map f).eraseIdx i = (l.eraseIdx i).map f
  | [], _ => rfl
  | x :: l, 0 => rfl
  | x :: l, i + 1 => by
    show f x :: (l.map f).eraseIdx i = f x :: (l.eraseIdx i).map f
    rw [map_erase f l i]
theorem seq_nat {j n : Nat} (h : j < n) : seqIndex? (j : Int) n = some j := by
  unfold seqIndex?
  have h1 : ¬ ((j : Int) < 0) := by omega
  simp only [h1, if_false]
  rw [if_pos (by simp; omega)]
  simp
theorem take_out {fo pl : List Str} {d : Nat} (hd : d < pl.length) : (fo ++ [pl[d]] ++ pl.eraseIdx d).Perm (fo ++ pl) := by
  rw [List.append_assoc]
  exact (erase_perm pl d hd).append_left fo
section
variable {P : Program} {w : World} {K : PySem.W.Frag} {mg : Str → Option Value} {base : Heap}
def spNames : Sp := fun vs H Q _ => ∃ (b c : Addr) (ms : List Int) (n k : Nat), vs = [.ref b, .int k] ∧ BagAt H b c ms n ∧ n < 900000 ∧ k ≤ 8 ∧ ∀ l ns H', l ≠ b → l ≠ c → H l = none → Off b H H' → H' l = some (.lst (ns.map V.str)) → BagAt H' b c ms (n + k) → ns.length = k → Nms ns → Q (.ref l) H'
theorem ok_names (T : Tx w K mg) : Dn P w K mg base CX0 2 "_law_names" ["bag", "many"] spNames := by
  obtain ⟨fd, F⟩ := T.f_law_names
  refine ⟨_, fd, F.ok sc_law_names (fun vs H Q E h => ?_) (fun cdv A outer s H vs Q E hr h => ⟨_, PSs.nox (pss_cons
    (ps_set (i := 2) sc_law_names.nd rfl (Or.inl rfl) (pe_lst (pa_cons pe_str (pa_cons pe_str (pa_cons pe_str (pa_cons pe_str (pa_cons pe_str (pa_cons pe_str (pa_cons pe_str (pa_cons pe_str (pa_cons pe_str (pa_cons pe_str pa_nil)))))))))))) (pss_cons
    (ps_set (i := 3) sc_law_names.nd rfl (Or.inl rfl) (pe_lst pa_nil)) (pss_cons
    (ps_for PassesOwn.never rfl (pi_range1 rfl T.b_range (pa_cons (pv 1) pa_nil)) (pg_name (i := 4) sc_law_names.nd rfl (Or.inl rfl)) (pss_one
      (ps_expr (pe_bm PySem.F.plainAttrs_list PySem.F.slot_list_append PySem.F.type_list_append mt_append (pv 3) (pa_cons
        (pe_bm PySem.F.plainAttrs_list PySem.F.slot_list_pop PySem.F.type_list_pop mt_popAt (pv 2) (pa_cons (pe_dn (ok_draw T) hr rfl pass0 (pa_cons (pv 0) (pa_cons (pe_callB call_len_seq rfl T.b_len (by decide +kernel) (pa_cons (pv 2) pa_nil)) pa_nil))) pa_nil)) pa_nil)))))
    (pss_one (ps_ret (pv 3)))))), ?_⟩), T.g_law_names, F.kp, F.bindsN fun _ _ _ _ _ _ us hl => match us, hl with | [_, _], _ => rfl⟩
  · obtain ⟨b, c, ms, n, k, rfl, _⟩ := h
    rfl
  · obtain ⟨b, c, ms, n, k, rfl, hB, hn, hk, h⟩ := h
    refine ⟨?_, fun p hp => ?_⟩
    · show 10 ≤ sizeLine
      decide
    have x1 : Ext H (upd H p (.lst (poolL.map V.str))) := Ext.upd hp
    refine ⟨by decide, fun f hf => ?_⟩
    have hpf : p ≠ f := ne_of_none upd_same hf
    have x2 : Ext (upd H p (.lst (poolL.map V.str))) (upd (upd H p (.lst (poolL.map V.str))) f (.lst [])) := Ext.upd hf
    have hp2 : (upd (upd H p (.lst (poolL.map V.str))) f (.lst [])) p = some (.lst (poolL.map V.str)) := x2 _ _ upd_same
    have hf2 : (upd (upd H p (.lst (poolL.map V.str))) f (.lst [])) f = some (.lst (([] : List Str).map V.str)) := upd_same
    have hf0 : H f = none := by
      rw [upd_ne hpf.symm] at hf
      exact hf
    obtain ⟨t0, r0, hb0, hc0, _⟩ := id hB
    have hpb : p ≠ b := (ne_of_none hb0 hp).symm
    have hpc : p ≠ c := (ne_of_none hc0 hp).symm
    have hfb : f ≠ b := (ne_of_none hb0 hf0).symm
    have hfc : f ≠ c := (ne_of_none hc0 hf0).symm
    have x12 := x1.trans x2
    refine ⟨_, rfl, (k : Int), rfl, by omega, by omega, ?_⟩
    refine for_range (lo := 0) (n := (k : Int).toNat) (fun i σ H' => ∃ (s4 : Option V) (pl fo : List Str), σ = [some (.ref b), some (.int (k : Int)), some (.ref p), some (.ref f), s4] ∧ H' p = some (.lst (pl.map V.str)) ∧ H' f = some (.lst (fo.map V.str)) ∧ BagAt H' b c ms (n + i) ∧ Off b H H' ∧ Nms (fo ++ pl) ∧ fo.length = i ∧ pl.length + i = 10)
      ⟨none, poolL, [], rfl, hp2, hf2, hB.ext x12, Ext.off x12, pool_ok, rfl, rfl⟩ ?_ ?_
    · rintro i σ H' hi ⟨s4, pl, fo, rfl, hp3, hf3, hB3, o3, hns, hfl, hpl⟩
      refine ⟨_, rfl, .inl ⟨rfl, _, SqL.of hf3⟩, _, rfl, .inl ⟨rfl, _, SqL.of hp3⟩, _, rfl, _, rfl, p, _, rfl, .inl (SqL.of hp3), ?_⟩
      refine ⟨b, c, ms, n + i, _, rfl, hB3, by omega, by rw [List.length_map]; omega, by rw [List.length_map]; omega, fun d H4 hd0 hd1 o4 hB4 => ?_⟩
      rw [List.length_map] at hd1
      obtain ⟨j, rfl⟩ : ∃ j : Nat, d = (j : Int) := ⟨d.toNat, by omega⟩
      have hj : j < pl.length := by omega
      have hp4 := o4 _ _ hpb hp3
      have hf4 := o4 _ _ hfb hf3
      refine ⟨p, _, _, j, .str pl[j], rfl, rfl, hp4, by omega, by omega, ?_, ?_, ?_⟩
      · rw [List.length_map]
        exact seq_nat hj
      · rw [List.getElem?_map, List.getElem?_eq_getElem hj]
        rfl
      · refine ⟨f, _, _, rfl, rfl, (upd_ne hpf.symm).trans hf4, ?_, ?_⟩
        · rw [List.length_map]
          have : 100 < sizeLine := by decide
          omega
        · refine ⟨_, pl.eraseIdx j, fo ++ [pl[j]], rfl, ?_, ?_, ?_, ?_, hns.perm (take_out hj), ?_, ?_⟩
          · rw [upd_ne hpf, upd_same, map_erase]
          · rw [upd_same, List.map_append]
            rfl
          · exact (hB4.ne hpb hpc off_upd).ne hfb hfc off_upd
          · intro a o hab ho
            rw [upd_ne (ne_of_none ho hf0), upd_ne (ne_of_none ho hp)]
            exact (o3.trans o4) a o hab ho
          · rw [List.length_append, hfl]
            rfl
          · rw [List.length_eraseIdx_of_lt hj]
            omega
    · rintro σ H' ⟨s4, pl, fo, rfl, hp3, hf3, hB3, o3, hns, hfl, hpl⟩
      refine ⟨_, rfl, ?_⟩
      have hk2 : (k : Int).toNat = k := Int.toNat_natCast k
      rw [hk2] at hB3 hfl
      exact h f fo H' hfb hfc hf0 o3 hf3 hB3 hfl ⟨(List.nodup_append.mp hns.nd).1, fun x hx => hns.nm x (List.mem_append_left _ hx)⟩
end
end K00
set_option maxHeartbeats 1000000
namespace K00
open PySem PySem.Spec PyProof.Rows L2 Ax
def EvD (K : PySem.W.Frag) (H : Hp) (t : Addr) (e : Ev) : Prop := ∃ q, SqT K H t [.str e.name, .int e.fin, .str e.kind, .ref q] ∧ SqL K H q (e.needs.map V.str)
theorem EvD.ext {K : PySem.W.Frag} {H H' : Hp} {t : Addr} {e : Ev} (h : EvD K H t e) (x : Ext H H') : EvD K H' t e := let ⟨q, h1, h2⟩ := h; ⟨q, h1.ext x, h2.ext x⟩
def TsD (K : PySem.W.Frag) (H : Hp) (ts : List Addr) (evs : List Ev) : Prop := ts.length = evs.length ∧ ∀ (i : Nat) (t : Addr) (e : Ev), ts[i]? = some t → evs[i]? = some e → EvD K H t e
theorem TsD.ext {K : PySem.W.Frag} {H H' : Hp} {ts : List Addr} {evs : List Ev} (h : TsD K H ts evs) (x : Ext H H') : TsD K H' ts evs := ⟨h.1, fun i a e h1 h2 => (h.2 i a e h1 h2).ext x⟩
theorem TsD.nil {K : PySem.W.Frag} {H : Hp} : TsD K H [] [] := ⟨rfl, fun i t e h _ => by cases h⟩
theorem TsD.snoc {K : PySem.W.Frag} {H : Hp} {as : List Addr} {evs : List Ev} {a : Addr} {e : Ev} (h : TsD K H as evs) (g : EvD K H a e) : TsD K H (as ++ [a]) (evs ++ [e]) := by
  refine ⟨by simp [h.1], fun i b f h1 h2 => ?_⟩
  by_cases c : i < as.length
  · rw [List.getElem?_append_left c] at h1
    rw [List.getElem?_append_left (by rw [← h.1]; exact c)] at h2
    exact h.2 i b f h1 h2
  · have c2 : i = as.length := by
      have := (List.getElem?_eq_some_iff.mp h1).1
      simp at this
      omega
    subst c2
    rw [List.getElem?_append_right (Nat.le_refl _), Nat.sub_self] at h1
    rw [h.1, List.getElem?_append_right (Nat.le_refl _), Nat.sub_self] at h2
    cases Option.some.inj h1
    cases Option.some.inj h2
    exact g
theorem off_dd {H H' : Hp} {b D : Addr} (o : Off b H H') : Ext (del (del H b) D) (del (del H' b) D) := fun a u h => by
  by_cases c : a = D
  · rw [c, del_same] at h
    cases h
  · rw [del_ne c] at h ⊢
    by_cases c2 : a = b
    · rw [c2, del_same] at h
      cases h
    · rw [del_ne c2] at h ⊢
      exact o a u c2 h
theorem dd_upd {H : Hp} {b D : Addr} {o : HO} (h : D ≠ b) : del (del (upd H D o) b) D = del (del H b) D := funext fun a => by
  by_cases c : a = D
  · rw [c, del_same, del_same]
  · rw [del_ne c, del_ne c]
    by_cases c2 : a = b
    · rw [c2, del_same, del_same]
    · rw [del_ne c2, del_ne c2, upd_ne c]
theorem dd_at {H : Hp} {a b D : Addr} {o : HO} (h : H a = some o) (h1 : a ≠ b) (h2 : a ≠ D) : del (del H b) D a = some o := by
  rw [del_ne h2, del_ne h1]
  exact h
structure Right (evs : List Ev) : Prop where
  len : evs.length ≤ 8
  ord : ordF [] evs = none
  gd : ∀ e ∈ evs, Good e
  fn : ∀ e ∈ evs, Fine e
  nm : ∀ e ∈ evs, ∀ x ∈ e.needs, isNm x = true
theorem small {n : Nat} (h : n < 100) : n < sizeLine := Nat.lt_trans h (by decide)
theorem ordF_snoc : ∀ (el : List Str) (evs : List Ev) (e : Ev), ordF el evs = none → ordF el (evs ++ [e]) = (match evF e (el ++ evs.map Ev.name) with | some x => some (x, e.name) | none => none)
  | el, [], e, _ => by
    show ordF el [e] = _
    rw [ordF_cons, List.map_nil, List.append_nil]
    cases evF e el <;> rfl
  | el, f :: evs, e, h => by
    rw [ordF_cons] at h
    show ordF el (f :: (evs ++ [e])) = _
    rw [ordF_cons]
    cases q : evF f el with
    | some x => rw [q] at h; cases h
    | none =>
      rw [q] at h
      dsimp only at h ⊢
      rw [ordF_snoc _ evs e h, List.map_cons, List.append_assoc]
      rfl
theorem areN_ok {ns el : List Str} (h1 : ns.length ≤ 3) (h2 : ns.Nodup) (h3 : ∀ x ∈ ns, x ∈ el) : areN ns el = true := by
  unfold areN
  rw [decide_eq_true h1, Bool.true_and, List.all_eq_true]
  intro x hx
  have c1 : ns.count x ≤ 1 := List.nodup_iff_count.mp h2 x
  have c2 : 0 < ns.count x := List.count_pos_iff.mpr hx
  rw [decide_eq_true (h3 x hx), decide_eq_true (by omega)]
  rfl
section
variable {P : Program} {w : World} {K : PySem.W.Frag} {mg : Str → Option Value} {base : Heap}
def spEvs (K : PySem.W.Frag) : Sp := fun vs H Q _ => ∃ (b c : Addr) (ms : List Int) (n : Nat), vs = [.ref b] ∧ BagAt H b c ms n ∧ n < 800000 ∧ ∀ l ts evs H', l ≠ b → l ≠ c → Off b H H' → H' l = some (.lst (ts.map V.ref)) → TsD K (del (del H' b) l) ts evs → Right evs → BagAt H' b c ms (n + 60) → Q (.ref l) H'
theorem ok_evs (T : Tx w K mg) : Dn P w K mg base CX0 3 "_law_drawn_events" ["bag"] (spEvs K) := by
  obtain ⟨fd, F⟩ := T.f_law_drawn_events
  refine ⟨_, fd, F.ok sc_law_drawn_events (fun vs H Q E h => ?_) (fun cdv A outer s H vs Q E hr h => ⟨_, PSs.nox (pss_cons
    (ps_set (i := 1) sc_law_drawn_events.nd rfl (Or.inl rfl) (pe_dn (ok_names T) hr rfl pass0 (pa_cons (pv 0) (pa_cons (pe_dn ((ok_draw T).mono (by decide)) hr rfl pass0 (pa_cons (pv 0) (pa_cons pe_int pa_nil))) pa_nil)))) (pss_cons
    (ps_set (i := 2) sc_law_drawn_events.nd rfl (Or.inl rfl) (pe_lst pa_nil)) (pss_cons
    (ps_for PassesOwn.never rfl (pi_range1 rfl T.b_range (pa_cons (pe_callB call_len_seq rfl T.b_len (by decide +kernel) (pa_cons (pv 1) pa_nil)) pa_nil)) (pg_name (i := 3) sc_law_drawn_events.nd rfl (Or.inl rfl)) (pss_cons
      (ps_set (i := 4) sc_law_drawn_events.nd rfl (Or.inl rfl) (pe_callTy call_list_of rfl T.b_list (by decide +kernel) (pa_cons (pe_slice sl_list (pv 1) po_none (po_some (pv 3))) pa_nil))) (pss_cons
      (ps_set (i := 5) sc_law_drawn_events.nd rfl (Or.inl rfl) (pe_lst pa_nil)) (pss_cons
      (ps_for PassesOwn.never rfl (pi_range1 rfl T.b_range (pa_cons (pe_dn ((ok_draw T).mono (by decide)) hr rfl pass0 (pa_cons (pv 0) (pa_cons pe_int pa_nil))) pa_nil)) (pg_name (i := 6) sc_law_drawn_events.nd rfl (Or.inl rfl)) (pss_one
        (ps_if (pt_cmpR op_gt (pe_callB call_len_seq rfl T.b_len (by decide +kernel) (pa_cons (pv 4) pa_nil)) pe_int (nomark _)) (pss_one
          (ps_expr (pe_bm PySem.F.plainAttrs_list PySem.F.slot_list_append PySem.F.type_list_append mt_append (pv 5) (pa_cons
            (pe_bm PySem.F.plainAttrs_list PySem.F.slot_list_pop PySem.F.type_list_pop mt_popAt (pv 4) (pa_cons (pe_dn ((ok_draw T).mono (by decide)) hr rfl pass0 (pa_cons (pv 0) (pa_cons (pe_callB call_len_seq rfl T.b_len (by decide +kernel) (pa_cons (pv 4) pa_nil)) pa_nil))) pa_nil)) pa_nil)))) pss_nil)))
      (pss_one (ps_expr (pe_bm PySem.F.plainAttrs_list PySem.F.slot_list_append PySem.F.type_list_append mt_append (pv 2) (pa_cons (pe_tup (pa_cons (pe_ix ix_list (pv 1) (pv 3) (fun _ _ => rfl)) (pa_cons
        (pe_op op_add pe_int (pe_dn ((ok_draw T).mono (by decide)) hr rfl pass0 (pa_cons (pv 0) (pa_cons pe_int pa_nil)))) (pa_cons
        (pe_ix ix_list (pe_lst (pa_cons pe_str (pa_cons pe_str pa_nil))) (pe_dn ((ok_draw T).mono (by decide)) hr rfl pass0 (pa_cons (pv 0) (pa_cons pe_int pa_nil))) (fun _ _ => rfl)) (pa_cons (pv 5) pa_nil))))) pa_nil))))))))
    (pss_one (ps_ret (pv 2)))))), ?_⟩), T.g_law_drawn_events, F.kp, F.bindsN fun _ _ _ _ _ _ us hl => match us, hl with | [_], _ => rfl⟩
  · obtain ⟨b, c, ms, n, rfl, _⟩ := h
    rfl
  · obtain ⟨b, c, ms, n, rfl, hB, hn, h⟩ := h
    refine ⟨_, rfl, _, rfl, b, c, ms, n, 9, rfl, hB, by omega, by decide, by decide, fun k H1 hk0 hk1 o1 hB1 => ?_⟩
    obtain ⟨k, rfl⟩ : ∃ j : Nat, k = (j : Int) := ⟨k.toNat, by omega⟩
    refine ⟨b, c, ms, n + 1, k, rfl, hB1, by omega, by omega, fun l ns H2 hlb hlc hl0 o2 hl2 hB2 hnk hns => ?_⟩
    refine ⟨by decide, fun D hD => ?_⟩
    obtain ⟨_, _, hb2, hc2, _⟩ := id hB2
    have hDb : D ≠ b := (ne_of_none hb2 hD).symm
    have hDc : D ≠ c := (ne_of_none hc2 hD).symm
    have hDl : D ≠ l := (ne_of_none hl2 hD).symm
    have x3 : Ext H2 (upd H2 D (.lst [])) := Ext.upd hD
    refine ⟨_, rfl, l, _, rfl, .inl (SqL.of (x3 _ _ hl2)), _, rfl, ?_, ?_, ?_⟩
    · omega
    · rw [List.length_map]; omega
    refine for_range (lo := 0) (n := ((ns.map V.str).length : Int).toNat) (fun i σ H' => ∃ (s3 s4 s5 s6 : Option V) (ts : List Addr) (evs : List Ev), σ = [some (.ref b), some (.ref l), some (.ref D), s3, s4, s5, s6] ∧ H' D = some (.lst (ts.map V.ref)) ∧ TsD K (del (del H' b) D) ts evs ∧ evs.length = i ∧
        evs.map Ev.name = ns.take i ∧ ordF [] evs = none ∧ (∀ e ∈ evs, Good e) ∧ (∀ e ∈ evs, Fine e) ∧ (∀ e ∈ evs, ∀ x ∈ e.needs, isNm x = true) ∧ (∀ a o, a ≠ b → H2 a = some o → H' a = some o) ∧ BagAt H' b c ms (n + 9 + 6 * i))
      ⟨none, none, none, none, [], [], rfl, upd_same, TsD.nil, rfl, rfl, rfl, fun _ h => by simp at h, fun _ h => by simp at h, fun _ h => by simp at h, fun a o _ ho => x3 a o ho, (hB2.ext x3).mono (by omega)⟩ ?_ ?_
    · rintro i σ H3 hi ⟨s3, s4, s5, s6, ts, evs, rfl, hD3, hT3, hel, hen, hor, hgd, hfn, hnm, o3, hB3⟩
      have hi2 : i < ns.length := by simp at hi; exact hi
      have hl3 := o3 l _ hlb hl2
      refine ⟨_, rfl, _, rfl, _, rfl, l, _, rfl, SqL.of hl3, fun p1 hp1 => ?_⟩
      have hcut : cutV (ns.map V.str) none (some (0 + (i : Int))) = (ns.take i).map V.str := by
        rw [Int.zero_add, cut_to, List.map_take]
      rw [hcut]
      have y1 : Ext H3 (upd H3 p1 (.lst ((ns.take i).map V.str))) := Ext.upd hp1
      refine ⟨p1, _, rfl, .inl (SqL.of upd_same), fun p hp => ?_⟩
      have y2 := y1.trans (Ext.upd (o := .lst ((ns.take i).map V.str)) hp)
      have hp2 : (upd (upd H3 p1 (.lst ((ns.take i).map V.str))) p (.lst ((ns.take i).map V.str))) p = some (.lst ((ns.take i).map V.str)) := upd_same
      have hp0 : H3 p = none := by
        cases q : H3 p with
        | none => rfl
        | some o => rw [y1 _ _ q] at hp; cases hp
      generalize (upd (upd H3 p1 (.lst ((ns.take i).map V.str))) p (.lst ((ns.take i).map V.str))) = H4 at y2 hp2 ⊢
      refine ⟨by decide, fun q hq => ?_⟩
      have y3 := y2.trans (Ext.upd (o := .lst []) hq)
      have hq0 : H3 q = none := by
        cases q1 : H3 q with
        | none => rfl
        | some o => rw [y2 _ _ q1] at hq; cases hq
      have hpq : p ≠ q := ne_of_none hp2 hq
      have hp3 : (upd H4 q (.lst [])) p = some (.lst ((ns.take i).map V.str)) := (upd_ne hpq).trans hp2
      have hq3 : (upd H4 q (.lst [])) q = some (.lst (([] : List Str).map V.str)) := upd_same
      generalize (upd H4 q (.lst [])) = H5 at y3 hp3 hq3 ⊢
      obtain ⟨_, _, hb3, hc3, _⟩ := id hB3
      have hpb : p ≠ b := (ne_of_none hb3 hp0).symm
      have hpc : p ≠ c := (ne_of_none hc3 hp0).symm
      have hqb : q ≠ b := (ne_of_none hb3 hq0).symm
      have hqc : q ≠ c := (ne_of_none hc3 hq0).symm
      have hqD : q ≠ D := (ne_of_none hD3 hq0).symm
      refine ⟨_, rfl, b, c, ms, n + 9 + 6 * i, 4, rfl, hB3.ext y3, by omega, by decide, by decide, fun m H6 hm0 hm1 o6 hB6 => ?_⟩
      obtain ⟨m, rfl⟩ : ∃ j : Nat, m = (j : Int) := ⟨m.toNat, by omega⟩
      refine ⟨(m : Int), rfl, by omega, by omega, ?_⟩
      refine for_range (lo := 0) (n := (m : Int).toNat) (fun j σ H' => ∃ (s6 : Option V) (lf nd : List Str), σ = [some (.ref b), some (.ref l), some (.ref D), some (.int (0 + (i : Int))), some (.ref p), some (.ref q), s6] ∧ H' p = some (.lst (lf.map V.str)) ∧ H' q = some (.lst (nd.map V.str)) ∧
          (nd ++ lf).Nodup ∧ (∀ x ∈ nd ++ lf, x ∈ ns.take i) ∧ nd.length ≤ j ∧ Off b H3 H' ∧ BagAt H' b c ms (n + 9 + 6 * i + 1 + j))
        ⟨s6, ns.take i, [], rfl, o6 _ _ hpb hp3, o6 _ _ hqb hq3, hns.nd.sublist (List.take_sublist _ _), fun x hx => hx, Nat.zero_le _, (Ext.off y3).trans o6, hB6⟩ ?_ ?_
      · rintro j σ H7 hj ⟨s6', lf, nd, rfl, hp7, hq7, hnd, hsub, hlen, o7, hB7⟩
        refine ⟨_, rfl, p, _, rfl, .inl (SqL.of hp7), _, _, rfl, rfl, _, rfl, ?_⟩
        rw [List.length_map]
        by_cases c0 : (0 : Int) < (lf.length : Int)
        · refine iteTd (decide_eq_true c0) ?_
          have hlf : lf.length ≤ 8 := by
            have e1 := List.Nodup.length_le_of_subset (List.nodup_append.mp hnd).2.1 (fun x hx => hsub x (List.mem_append_right _ hx))
            simp at e1
            omega
          refine ⟨_, rfl, .inl ⟨rfl, _, SqL.of hq7⟩, _, rfl, .inl ⟨rfl, _, SqL.of hp7⟩, _, rfl, _, rfl, p, _, rfl, .inl (SqL.of hp7), ?_⟩
          refine ⟨b, c, ms, _, _, rfl, hB7, by omega, by rw [List.length_map]; omega, by rw [List.length_map]; omega, fun d H8 hd0 hd1 o8 hB8 => ?_⟩
          rw [List.length_map] at hd1
          obtain ⟨d, rfl⟩ : ∃ j : Nat, d = (j : Int) := ⟨d.toNat, by omega⟩
          have hd : d < lf.length := by omega
          have hp8 := o8 _ _ hpb hp7
          have hq8 := o8 _ _ hqb hq7
          refine ⟨p, _, _, d, .str lf[d], rfl, rfl, hp8, by omega, by omega, by rw [List.length_map]; exact seq_nat hd, by rw [List.getElem?_map, List.getElem?_eq_getElem hd]; rfl, ?_⟩
          refine ⟨q, _, _, rfl, rfl, (upd_ne hpq.symm).trans hq8, by rw [List.length_map]; exact small (by omega), ?_⟩
          refine ⟨_, lf.eraseIdx d, nd ++ [lf[d]], rfl, ?_, ?_, (take_out hd).nodup_iff.mpr hnd, fun x hx => hsub x ((take_out hd).mem_iff.mp hx), ?_, ?_, ?_⟩
          · rw [upd_ne hpq, upd_same, map_erase]
          · rw [upd_same, List.map_append]
            rfl
          · rw [List.length_append]
            simp
            omega
          · intro a o hab ho
            rw [upd_ne (ne_of_none ho hq0), upd_ne (ne_of_none ho hp0)]
            exact (o7.trans o8) a o hab ho
          · exact ((hB8.mono (by omega)).ne hpb hpc off_upd).ne hqb hqc off_upd
        · refine iteFd c0 ?_
          exact ⟨_, lf, nd, rfl, hp7, hq7, hnd, hsub, by omega, o7, hB7.mono (by omega)⟩
      · rintro σ H7 ⟨s6', lf, nd, rfl, hp7, hq7, hnd, hsub, hlen, o7, hB7⟩
        have hm3 : (m : Int).toNat = m := Int.toNat_natCast m
        rw [hm3] at hlen hB7
        have hD7 := o7 _ _ hDb hD3
        have hl7 := o7 _ _ hlb hl3
        have qn : ns[i]? = some ns[i] := List.getElem?_eq_getElem hi2
        have hnm1 := hns.nm _ (List.getElem_mem hi2)
        have htk : ns.take (i + 1) = ns.take i ++ [ns[i]] := by rw [List.take_add_one, qn]; rfl
        have hnin : ns[i] ∉ ns.take i := by
          have e1 : (ns.take (i + 1)).Nodup := hns.nd.sublist (List.take_sublist _ _)
          rw [htk] at e1
          intro hx
          exact (List.nodup_append.mp e1).2.2 _ hx _ (List.mem_singleton.mpr rfl) rfl
        generalize ns[i] = nm at qn hnm1 htk hnin
        have hat : atI (ns.map V.str) (0 + (i : Int)) = some (.str nm) := by
          rw [Int.zero_add]
          exact atI_nat (by rw [List.getElem?_map, qn]; rfl)
        refine ⟨_, rfl, .inl ⟨rfl, _, SqL.of hD7⟩, _, rfl, _, rfl, l, _, _, _, rfl, rfl, SqL.of hl7, hat, _, rfl, ?_⟩
        refine ⟨b, c, ms, _, 5, rfl, hB7, by omega, by decide, by decide, fun d5 H8 hd50 hd51 o8 hB8 => ?_⟩
        refine ⟨_, _, rfl, rfl, ?_, fun L hL => ?_⟩
        · show 2 ≤ sizeLine
          decide
        have z1 : Ext H8 (upd H8 L (.lst (([("query" : Str), "action"] : List Str).map V.str))) := Ext.upd hL
        have hL1 : (upd H8 L (.lst (([("query" : Str), "action"] : List Str).map V.str))) L = some (.lst (([("query" : Str), "action"] : List Str).map V.str)) := upd_same
        refine ⟨_, rfl, b, c, ms, _, 2, rfl, hB8.ext z1, by omega, by decide, by decide, fun d2 H9 hd20 hd21 o9 hB9 => ?_⟩
        obtain ⟨_, _, hb8, hc8, _⟩ := id hB8
        have hLb : L ≠ b := (ne_of_none hb8 hL).symm
        obtain ⟨kd, hkd, hat2⟩ : ∃ kd : Str, (kd = "query" ∨ kd = "action") ∧ atI (([("query" : Str), "action"] : List Str).map V.str) d2 = some (.str kd) := by
          have : d2 = 0 ∨ d2 = 1 := by omega
          rcases this with z | z
          · subst z
            exact ⟨"query", .inl rfl, rfl⟩
          · subst z
            exact ⟨"action", .inr rfl, rfl⟩
        have hq9 : H9 q = some (.lst (nd.map V.str)) := o9 _ _ hqb (z1 _ _ (o8 _ _ hqb hq7))
        have hD9 : H9 D = some (.lst (ts.map V.ref)) := o9 _ _ hDb (z1 _ _ (o8 _ _ hDb hD7))
        refine ⟨L, _, _, .str kd, rfl, rfl, SqL.of (o9 _ _ hLb hL1), hat2, _, rfl, ?_, fun t ht => ?_⟩
        · show 4 ≤ sizeLine
          decide
        have htD : D ≠ t := ne_of_none hD9 ht
        have htq : q ≠ t := ne_of_none hq9 ht
        obtain ⟨_, _, hb9, hc9, _⟩ := id hB9
        have htb : t ≠ b := (ne_of_none hb9 ht).symm
        have o39 : Off b H3 H9 := (o7.trans o8).trans ((Ext.off z1).trans o9)
        refine ⟨D, _, _, rfl, rfl, (upd_ne htD).trans hD9, by rw [List.length_map, hT3.1, hel]; exact small (by omega), ?_⟩
        have hnd3 : nd.length ≤ 3 := by omega
        have hndn : nd.Nodup := (List.nodup_append.mp hnd).1
        have hnds : ∀ x ∈ nd, x ∈ ns.take i := fun x hx => hsub x (List.mem_append_left _ hx)
        have hndm : ∀ x ∈ nd, isNm x = true := fun x hx => hns.nm x (List.mem_of_mem_take (hnds x hx))
        refine ⟨_, _, _, _, ts ++ [t], evs ++ [⟨nm, 1 + d5, kd, nd⟩], rfl, ?_, ?_, ?_, ?_, ?_, ?_, ?_, ?_, ?_, ?_⟩
        · rw [upd_same, List.map_append]
          rfl
        · rw [dd_upd hDb]
          have e9 : Ext (del (del H3 b) D) (del (del (upd H9 t (.tup [.str nm, .int (1 + d5), .str kd, .ref q])) b) D) := off_dd (o39.trans (Ext.off (Ext.upd ht)))
          exact (hT3.ext e9).snoc ⟨q, SqT.of (dd_at upd_same htb htD.symm), SqL.of (dd_at ((upd_ne htq).trans hq9) hqb hqD)⟩
        · rw [List.length_append, hel]
          rfl
        · rw [List.map_append, hen, htk]
          rfl
        · rw [ordF_snoc [] evs _ hor, List.nil_append, hen]
          have e1 : evF ⟨nm, 1 + d5, kd, nd⟩ (ns.take i) = none := by
            unfold evF
            rw [if_neg hnin, if_pos (areN_ok hnd3 hndn hnds)]
          rw [e1]
        · intro e he
          rcases List.mem_append.mp he with he | he
          · exact hgd e he
          · rw [List.mem_singleton.mp he]
            exact ⟨hnm1, by show (1 : Int) ≤ 1 + d5; omega, by show 1 + d5 ≤ (5 : Int); omega, hkd⟩
        · intro e he
          rcases List.mem_append.mp he with he | he
          · exact hfn e he
          · rw [List.mem_singleton.mp he]
            refine ⟨isNm_len hnm1, ?_, by show (1 : Int) ≤ 1 + d5; omega, by show 1 + d5 ≤ (5 : Int); omega, hnd3, fun x hx => isNm_len (hndm x hx)⟩
            show kd.length ≤ 8
            rcases hkd with z | z <;> rw [z] <;> decide
        · intro e he
          rcases List.mem_append.mp he with he | he
          · exact hnm e he
          · rw [List.mem_singleton.mp he]
            exact hndm
        · intro a o hab ho
          have hne1 : a ≠ D := by
            intro z
            rw [z] at ho
            rw [ho] at hD
            cases hD
          rw [upd_ne hne1]
          have h3 := o3 a o hab ho
          rw [upd_ne (ne_of_none (o39 a o hab h3) ht)]
          exact o39 a o hab h3
        · refine ((hB9.ext (Ext.upd ht)).ne hDb hDc off_upd).mono (by omega)
    · rintro σ H3 ⟨s3, s4, s5, s6, ts, evs, rfl, hD3, hT3, hel, hen, hor, hgd, hfn, hnm, o3, hB3⟩
      have hk3 : ((ns.map V.str).length : Int).toNat = k := by rw [Int.toNat_natCast, List.length_map, hnk]
      rw [hk3] at hel hB3
      refine ⟨_, rfl, h D ts evs H3 hDb hDc ?_ hD3 hT3 ⟨by omega, hor, hgd, hfn, hnm⟩ (hB3.mono (by omega))⟩
      intro a o hab ho
      exact o3 a o hab (o2 a o hab (o1 a o hab ho))
end
end K00
set_option maxHeartbeats 1000000
namespace K00
open PySem PySem.Spec PyProof.Rows L2 Ax
section
variable {P : Program} {w : World} {K : PySem.W.Frag} {mg : Str → Option Value} {base : Heap}
def spMade (K : PySem.W.Frag) : Sp := fun vs H Q _ => ∃ (l : Addr) (ts : List Addr) (evs : List Ev), vs = [.ref l] ∧ SqL K H l (ts.map V.ref) ∧ TsD K H ts evs ∧ (∀ e ∈ evs, Good e) ∧ evs.length ≤ 12 ∧ ordF [] evs = none ∧ ∀ a H', Ext H H' → OrdAt K H' a evs → Q (.ref a) H'
theorem ok_made (T : Tx w K mg) : Dn P w K mg base CX0 6 "_law_made" ["events"] (spMade K) := by
  obtain ⟨fd, F⟩ := T.f_law_made
  refine ⟨_, fd, F.ok sc_law_made (fun vs H Q E h => ?_) (fun cdv A outer s H vs Q E hr h => ⟨_, PSs.nox (pss_one (ps_ret (pe_dc (E := fun _ _ _ => False) (ok_OrdI T) hr rfl passF (pa_cons
    (pe_lc (own := [("name", 1), ("end", 2), ("kind", 3), ("needs", 4)]) (g := gTup K 4 (gCons (gName 1) (gCons (gName 2) (gCons (gName 3) (gCons (gName 4) gNil))))) (tt := tYes) (te := tMake (He.ga K "Event") (spEvI K) [] E0 (tCons (tVar 1) (tCons (tVar 2) (tCons (tVar 3) (tCons (tVar 4) tNil))))) (by rfl) sc_law_made.nd (pi_list (pv 0))
      (blkOk_by (own := [("name", 1), ("end", 2), ("kind", 3), ("needs", 4)]) (N := n_law_made) (sc := defScope s_law_made) (by decide +kernel))
      (fun _ _ _ _ _ => pg_tup (by rfl) (pgs_cons (pg_name (i := 1) sc_law_made.nd rfl (Or.inl rfl)) (pgs_cons (pg_name (i := 2) sc_law_made.nd rfl (Or.inl rfl)) (pgs_cons (pg_name (i := 3) sc_law_made.nd rfl (Or.inl rfl)) (pgs_cons (pg_name (i := 4) sc_law_made.nd rfl (Or.inl rfl)) pgs_nil))))) (fun _ _ _ _ _ => pts_nil)
      (fun _ _ _ _ _ => pe_dc ((ok_EvI T).mono (by decide : 1 ≤ 4)) hr rfl pass0 (pa_cons (pv 1) (pa_cons (pv 2) (pa_cons (pv 3) (pa_cons (pv 4) pa_nil)))))) pa_nil)))), ?_⟩), T.g_law_made, F.kp, F.bindsN fun _ _ _ _ _ _ us hl => match us, hl with | [_], _ => rfl⟩
  · obtain ⟨l, ts, evs, rfl, _⟩ := h
    rfl
  · obtain ⟨l, ts, evs, rfl, hl, hT, hg, hn, hor, h⟩ := h
    refine ⟨_, rfl, l, rfl, ⟨_, hl⟩, fun D hD => ?_⟩
    refine lc_acc (walk_list (K := K) (xs := ts.map V.ref)) hD (fun i acc B => Ext H B ∧ ∃ as, acc = as.map V.ref ∧ EvsAt K B as (evs.take i)) ⟨Ext.rfl', [], rfl, rfl, fun i a e h1 _ => by cases h1⟩ (fun i acc H4 _ _ q => hl.ext fun b o hb => ext_del _ _ (q.1 b o hb)) ?_ ?_
    · rintro i y H4 H' acc hi hacc hl2 ⟨xB, as, ea, hA⟩ ⟨eH, hy⟩
      subst eH
      rw [List.getElem?_map] at hy
      rw [List.length_map] at hi
      cases qt : ts[i]? with
      | none => rw [qt] at hy; cases hy
      | some t =>
        rw [qt] at hy
        cases Option.some.inj hy
        have hi2 : i < evs.length := by rw [← hT.1]; exact hi
        have qe : evs[i]? = some evs[i] := List.getElem?_eq_getElem hi2
        have hgi := hg _ (List.getElem_mem hi2)
        have htk : evs.take (i + 1) = evs.take i ++ [evs[i]] := by rw [List.take_add_one, qe]; rfl
        generalize evs[i] = e at qe hgi htk
        have x4 : Ext H H' := fun b o hb => ext_del _ _ (xB b o hb)
        obtain ⟨q, h1, h2⟩ := (hT.2 i t e qt qe).ext x4
        refine ⟨t, _, rfl, h1, rfl, ?_⟩
        refine ⟨_, _, rfl, _, _, rfl, _, _, rfl, _, _, rfl, rfl, rfl, ?_⟩
        refine yes_go (iteT ?_)
        refine ⟨_, rfl, _, rfl, _, rfl, _, rfl, ?_⟩
        intro y dy hy hdy hne
        refine ⟨y, dy, q, e, rfl, upd_same, ?_, fun H5 off ev => ⟨rfl, ?_⟩⟩
        · refine h2.ext ?_
          intro b o hb
          rw [upd_ne (ne_of_none hb hy), upd_ne (ne_of_none hb hdy)]
          exact hb
        · have x5 : Ext H' H5 := by
            intro b o hb
            refine off b o (ne_of_none hb hy) ?_
            rw [upd_ne (ne_of_none hb hy), upd_ne (ne_of_none hb hdy)]
            exact hb
          have hD5 := x5 _ _ hacc
          refine acc_add hD5 hl2 (small (by omega)) ⟨fun b o hb => ext_delD x5 _ _ (xB b o hb), as ++ [y], ?_, ?_⟩
          · rw [ea, List.map_append]
            rfl
          · rw [htk]
            exact (hA.ext (ext_delD x5)).snoc (ev.del hD5)
    · rintro H4 acc hacc hl2 ⟨xB, as, ea, hA⟩
      rw [List.length_map, hT.1, List.take_of_length_le (Nat.le_refl _)] at hA
      rw [ea] at hacc
      refine mk_order (.inl (SqL.of hacc)) (hA.ext ext_del) hg hn ?_
      rw [hor]
      have x4 : Ext H H4 := fun b o hb => ext_del _ _ (xB b o hb)
      exact fun a H' x5 ho => h a H' (Ext.trans x4 x5) ho
end
end K00
set_option maxHeartbeats 1000000
namespace K00
open PySem PySem.Spec PyProof.Rows L2 Ax
theorem str_assoc (a b c : Str) : a ++ b ++ c = a ++ (b ++ c) := by
  apply Str.ext'
  show (a.cps ++ b.cps) ++ c.cps = a.cps ++ (b.cps ++ c.cps)
  exact Array.append_assoc
theorem str_len (a b : Str) : (a ++ b).length = a.length + b.length := Str.length_append a b
theorem fold_pre (sep a : Str) : ∀ (r : List Str) (b : Str), r.foldl (fun x y => x ++ sep ++ y) (a ++ b) = a ++ r.foldl (fun x y => x ++ sep ++ y) b
  | [], b => rfl
  | y :: r, b => by
    show r.foldl _ (a ++ b ++ sep ++ y) = a ++ r.foldl _ (b ++ sep ++ y)
    rw [← fold_pre sep a r (b ++ sep ++ y), str_assoc a b sep, str_assoc a (b ++ sep) y]
theorem join_fold (sep : Str) : ∀ (r : List Str) (x : Str), Str.join sep (x :: r) = r.foldl (fun x y => x ++ sep ++ y) x
  | [], x => rfl
  | y :: r, x => by
    show x ++ sep ++ Str.join sep (y :: r) = r.foldl _ (x ++ sep ++ y)
    rw [join_fold sep r y, fold_pre]
def rowP (e : Ev) (j : Nat) : Str := (e.needs.take j).foldl (fun x y => x ++ " " ++ y) (e.kind ++ " " ++ e.name ++ " " ++ numT e.fin)
theorem rowP_all (e : Ev) : rowP e e.needs.length = rowT e := by
  unfold rowP rowT
  rw [txt_join, join_fold, List.take_of_length_le (Nat.le_refl _)]
  rfl
theorem rowP_succ {e : Ev} {j : Nat} {n : Str} (h : e.needs[j]? = some n) : rowP e (j + 1) = rowP e j ++ " " ++ n := by
  unfold rowP
  rw [List.take_add_one, h, List.foldl_append]
  rfl
section
variable {P : Program} {w : World} {K : PySem.W.Frag} {mg : Str → Option Value} {base : Heap}
def spLText (K : PySem.W.Frag) : Sp := fun vs H Q _ => ∃ (l : Addr) (ts : List Addr) (evs : List Ev), vs = [.ref l] ∧ SqL K H l (ts.map V.ref) ∧ TsD K H ts evs ∧ (∀ e ∈ evs, Fine e) ∧ evs.length ≤ 12 ∧ ∀ H', Ext H H' → Q (.str (textT evs)) H'
theorem ok_ltext (T : Tx w K mg) : Dn P w K mg base CX0 1 "_law_text" ["events"] (spLText K) := by
  obtain ⟨fd, F⟩ := T.f_law_text
  refine ⟨_, fd, F.ok sc_law_text (fun vs H Q E h => ?_) (fun cdv A outer s H vs Q E hr h => ⟨_, PSs.nox (pss_cons
    (ps_set (i := 1) sc_law_text.nd rfl (Or.inl rfl) (pe_lst pa_nil)) (pss_cons
    (ps_for PassesOwn.never rfl (pi_list (pv 0)) (pg_tup (by rfl) (pgs_cons (pg_name (i := 2) sc_law_text.nd rfl (Or.inl rfl)) (pgs_cons (pg_name (i := 3) sc_law_text.nd rfl (Or.inl rfl)) (pgs_cons (pg_name (i := 4) sc_law_text.nd rfl (Or.inl rfl)) (pgs_cons (pg_name (i := 5) sc_law_text.nd rfl (Or.inl rfl)) pgs_nil))))) (pss_cons
      (ps_set (i := 6) sc_law_text.nd rfl (Or.inl rfl) (pe_op op_add_str (pe_op op_add_str (pe_op op_add_str (pe_op op_add_str (pv 4) pe_str) (pv 2)) pe_str) (pe_callTy call_str_int rfl T.b_str (by decide +kernel) (pa_cons (pv 3) pa_nil)))) (pss_cons
      (ps_for PassesOwn.never rfl (pi_list (pv 5)) (pg_name (i := 7) sc_law_text.nd rfl (Or.inl rfl)) (pss_one
        (ps_set (i := 6) sc_law_text.nd rfl (Or.inl rfl) (pe_op op_add_str (pe_op op_add_str (pv 6) pe_str) (pv 7)))))
      (pss_one (ps_expr (pe_bm PySem.F.plainAttrs_list PySem.F.slot_list_append PySem.F.type_list_append mt_append (pv 1) (pa_cons (pv 6) pa_nil)))))))
    (pss_one (ps_ret (pe_join pe_str (pv 1)))))), ?_⟩), T.g_law_text, F.kp, F.bindsN fun _ _ _ _ _ _ us hl => match us, hl with | [_], _ => rfl⟩
  · obtain ⟨l, ts, evs, rfl, _⟩ := h
    rfl
  · obtain ⟨l, ts, evs, rfl, hl, hT, hf, hn, h⟩ := h
    refine ⟨by decide, fun D hD => ?_⟩
    have x1 : Ext H (upd H D (.lst [])) := Ext.upd hD
    refine ⟨_, rfl, l, rfl, ⟨_, hl.ext x1⟩, ?_⟩
    refine for_list (K := K) (xs := ts.map V.ref) (fun i σ H' => ∃ (s2 s3 s4 s5 s6 s7 : Option V), σ = [some (.ref l), some (.ref D), s2, s3, s4, s5, s6, s7] ∧ H' D = some (.lst (((evs.take i).map rowT).map V.str)) ∧ Ext H H')
      ⟨none, none, none, none, none, none, rfl, upd_same, x1⟩ (fun i σ H' _ ⟨_, _, _, _, _, _, _, _, x2⟩ => hl.ext x2) ?_ ?_
    · rintro i y σ H' hy ⟨s2, s3, s4, s5, s6, s7, rfl, hDl, x2⟩
      rw [List.getElem?_map] at hy
      cases qt : ts[i]? with
      | none => rw [qt] at hy; cases hy
      | some t =>
        rw [qt] at hy
        cases Option.some.inj hy
        have hi2 : i < evs.length := by rw [← hT.1]; exact (List.getElem?_eq_some_iff.mp qt).1
        have qe : evs[i]? = some evs[i] := List.getElem?_eq_getElem hi2
        have hfi := hf _ (List.getElem_mem hi2)
        have htk : evs.take (i + 1) = evs.take i ++ [evs[i]] := by rw [List.take_add_one, qe]; rfl
        generalize evs[i] = e at qe hfi htk
        obtain ⟨q, h1, h2⟩ := (hT.2 i t e qt qe).ext x2
        have h8 : (" " : Str).length = 1 := by decide
        have hsz : 1000 ≤ sizeLine := by decide
        have k1 := hfi.nm
        have k2 := hfi.kd
        have k3 := numT_len hfi.lo hfi.hi
        refine ⟨t, _, rfl, h1, rfl, ?_⟩
        refine ⟨_, _, rfl, _, _, rfl, _, _, rfl, _, _, rfl, rfl, ?_⟩
        refine ⟨_, rfl, _, _, rfl, rfl, by omega, _, rfl, _, _, rfl, rfl, by rw [str_len]; omega, _, _, rfl, rfl, by rw [str_len, str_len]; omega, _, rfl, _, rfl, log_five hfi.lo hfi.hi, _, _, rfl, rfl, ?_, ?_⟩
        · rw [str_len, str_len, str_len]
          show e.kind.length + (" " : Str).length + e.name.length + (" " : Str).length + (numT e.fin).length ≤ sizeLine
          omega
        refine ⟨_, rfl, q, rfl, ⟨_, h2⟩, ?_⟩
        refine for_list (K := K) (xs := e.needs.map V.str) (fun j σ H3 => ∃ (s7 : Option V), σ = [some (.ref l), some (.ref D), some (.str e.name), some (.int e.fin), some (.str e.kind), some (.ref q), some (.str (rowP e j)), s7] ∧ H3 = H' ∧ (rowP e j).length ≤ 20 + 9 * j)
          ⟨s7, rfl, rfl, ?_⟩ (fun j σ H3 _ ⟨_, _, e1, _⟩ => by rw [e1]; exact h2) ?_ ?_
        · show (e.kind ++ " " ++ e.name ++ " " ++ numT e.fin).length ≤ 20
          rw [str_len, str_len, str_len, str_len]
          omega
        · rintro j z σ H3 hz ⟨s7', rfl, rfl, hrl⟩
          rw [List.getElem?_map] at hz
          cases qn : e.needs[j]? with
          | none => rw [qn] at hz; cases hz
          | some nd =>
            rw [qn] at hz
            cases Option.some.inj hz
            have k4 := hfi.nl nd (List.mem_of_getElem? qn)
            have k5 := hfi.nn
            have k6 := (List.getElem?_eq_some_iff.mp qn).1
            refine ⟨_, rfl, _, _, rfl, rfl, by omega, _, rfl, _, _, rfl, rfl, by rw [str_len]; omega, ?_⟩
            refine ⟨some (.str nd), ?_, rfl, ?_⟩
            · rw [rowP_succ qn]
              rfl
            · rw [rowP_succ qn, str_len, str_len]
              omega
        · rintro σ H3 ⟨s7', rfl, rfl, hrl⟩
          rw [List.length_map, rowP_all]
          refine ⟨_, rfl, .inl ⟨rfl, _, SqL.of hDl⟩, _, rfl, D, _, _, rfl, rfl, hDl, ?_, ?_⟩
          · rw [List.length_map, List.length_map, List.length_take]
            exact small (by omega)
          · refine ⟨_, _, _, _, _, _, rfl, ?_, ext_upd_of x2 hD⟩
            rw [htk, List.map_append, List.map_append]
            exact upd_same
    · rintro σ H' ⟨s2, s3, s4, s5, s6, s7, rfl, hDl, x2⟩
      rw [List.length_map, hT.1, List.take_of_length_le (Nat.le_refl _)] at hDl
      refine ⟨⟨_, rfl⟩, _, rfl, _, D, evs.map rowT, rfl, rfl, .inl (SqL.of hDl), ?_, h H' x2⟩
      have h7 := sum_le 47 (evs.map rowT) (fun y hy => by
        obtain ⟨e, he, rfl⟩ := List.mem_map.mp hy
        exact rowT_len (hf e he))
      have h8 : ("\n" : Str).length = 1 := by decide
      rw [List.length_map] at h7 ⊢
      rw [h8]
      omega
end
end K00
set_option maxHeartbeats 1000000
namespace K00
open PySem PySem.Spec PyProof.Rows L2 Ax
def nl (x : Str) : Nat := x.cps.toList.count 10
def signL : List Str := ["a", "z", "0", "5", "6", " ", "\n", "A", "-", "_", "", "q"]
theorem sign_ok : ∀ s ∈ signL, s.length ≤ 1 ∧ nl s ≤ 1 := by decide +kernel
theorem nl_app (a b : Str) : nl (a ++ b) = nl a + nl b := by
  unfold nl
  show (a.cps ++ b.cps).toList.count 10 = _
  rw [Array.toList_append, List.count_append]
theorem cut_head (x : Str) (k : Nat) : cutS x none (some (k : Int)) = ⟨(x.cps.toList.take k).toArray⟩ := by
  unfold cutS
  rw [HT.sIx_nat, HT.sIx_none, List.drop_zero, Nat.sub_zero]
  have hx : x.cps.toList.length = x.length := by simp [Str.length]
  by_cases h : k ≤ x.length
  · rw [Nat.min_eq_left h]
  · rw [Nat.min_eq_right (by omega), List.take_of_length_le (by omega), List.take_of_length_le (by omega)]
theorem cut_tail (x : Str) (k : Nat) : cutS x (some (k : Int)) none = ⟨(x.cps.toList.drop k).toArray⟩ := by
  unfold cutS
  rw [HT.sIx_nat, HT.sIx_none]
  have hx : x.cps.toList.length = x.length := by simp [Str.length]
  by_cases h : k ≤ x.length
  · rw [Nat.min_eq_left h, List.take_of_length_le (by rw [List.length_drop, hx]; exact Nat.le_refl _)]
  · rw [Nat.min_eq_right (by omega), ← hx, List.drop_length, List.take_nil, List.drop_eq_nil_of_le (by omega)]
theorem spoil_ok {x s : Str} {a k : Nat} (hs : s ∈ signL) : (cutS x none (some (a : Int)) ++ s ++ cutS x (some ((a + k : Nat) : Int)) none).length ≤ x.length + 1 ∧ nl (cutS x none (some (a : Int)) ++ s ++ cutS x (some ((a + k : Nat) : Int)) none) ≤ nl x + 1 := by
  obtain ⟨h1, h2⟩ := sign_ok s hs
  rw [cut_head, cut_tail]
  have hx : x.cps.toList.length = x.length := by simp [Str.length]
  have e1 : x.cps.toList.drop (a + k) = (x.cps.toList.drop a).drop k := by rw [List.drop_drop]
  have e2 : ((x.cps.toList.drop a).drop k).count 10 ≤ (x.cps.toList.drop a).count 10 := (List.drop_sublist k _).count_le 10
  have e3 : x.cps.toList.count 10 = (x.cps.toList.take a).count 10 + (x.cps.toList.drop a).count 10 := by
    rw [← List.count_append, List.take_append_drop]
  constructor
  · rw [str_len, str_len]
    show (x.cps.toList.take a).toArray.size + s.length + (x.cps.toList.drop (a + k)).toArray.size ≤ x.length + 1
    simp only [List.size_toArray, List.length_take, List.length_drop]
    omega
  · rw [nl_app, nl_app]
    have f1 : nl ⟨(x.cps.toList.take a).toArray⟩ = (x.cps.toList.take a).count 10 := by unfold nl; rfl
    have f2 : nl ⟨(x.cps.toList.drop (a + k)).toArray⟩ = (x.cps.toList.drop (a + k)).count 10 := by unfold nl; rfl
    rw [f1, f2, e1]
    unfold nl at h2 ⊢
    omega
section
variable {P : Program} {w : World} {K : PySem.W.Frag} {mg : Str → Option Value} {base : Heap}
def spSpoil : Sp := fun vs H Q _ => ∃ (b c : Addr) (ms : List Int) (n : Nat) (x : Str), vs = [.ref b, .str x] ∧ BagAt H b c ms n ∧ n < 800000 ∧ x.length < 900000 ∧ ∀ y H', Off b H H' → BagAt H' b c ms (n + 3) → y.length ≤ x.length + 1 → nl y ≤ nl x + 1 → Q (.str y) H'
theorem ok_spoil (T : Tx w K mg) : Dn P w K mg base CX0 2 "_law_spoiled" ["bag", "text"] spSpoil := by
  obtain ⟨fd, F⟩ := T.f_law_spoiled
  refine ⟨_, fd, F.ok sc_law_spoiled (fun vs H Q E h => ?_) (fun cdv A outer s H vs Q E hr h => ⟨_, PSs.nox (pss_cons
    (ps_set (i := 2) sc_law_spoiled.nd rfl (Or.inl rfl) (pe_dn (ok_draw T) hr rfl pass0 (pa_cons (pv 0) (pa_cons (pe_op op_add (pe_callB call_len_str rfl T.b_len (by decide +kernel) (pa_cons (pv 1) pa_nil)) pe_int) pa_nil)))) (pss_cons
    (ps_set (i := 3) sc_law_spoiled.nd rfl (Or.inl rfl) (pe_ix ix_list (pe_lst (pa_cons pe_str (pa_cons pe_str (pa_cons pe_str (pa_cons pe_str (pa_cons pe_str (pa_cons pe_str (pa_cons pe_str (pa_cons pe_str (pa_cons pe_str (pa_cons pe_str (pa_cons pe_str (pa_cons pe_str pa_nil))))))))))))) (pe_dn (ok_draw T) hr rfl pass0 (pa_cons (pv 0) (pa_cons pe_int pa_nil))) (fun _ _ => rfl)))
    (pss_one (ps_ret (pe_op op_add_str (pe_op op_add_str (pe_slice sl_str (pv 1) po_none (po_some (pv 2))) (pv 3)) (pe_slice sl_str (pv 1) (po_some (pe_op op_add (pv 2) (pe_dn (ok_draw T) hr rfl pass0 (pa_cons (pv 0) (pa_cons pe_int pa_nil))))) po_none)))))), ?_⟩), T.g_law_spoiled, F.kp, F.bindsN fun _ _ _ _ _ _ us hl => match us, hl with | [_, _], _ => rfl⟩
  · obtain ⟨b, c, ms, n, x, rfl, _⟩ := h
    rfl
  · obtain ⟨b, c, ms, n, x, rfl, hB, hn, hx, h⟩ := h
    have hsz : x.length + 10 ≤ sizeLine := by
      have : 900010 ≤ sizeLine := by decide
      omega
    refine ⟨_, rfl, _, rfl, _, rfl, by omega, _, _, rfl, rfl, ?_⟩
    refine ⟨b, c, ms, n, _, rfl, hB, by omega, by omega, by omega, fun a H1 ha0 ha1 o1 hB1 => ?_⟩
    obtain ⟨a, rfl⟩ : ∃ j : Nat, a = (j : Int) := ⟨a.toNat, by omega⟩
    refine ⟨?_, fun L hL => ?_⟩
    · show 12 ≤ sizeLine
      decide
    have x1 : Ext H1 (upd H1 L (.lst (signL.map V.str))) := Ext.upd hL
    refine ⟨_, rfl, b, c, ms, _, 12, rfl, hB1.ext x1, by omega, by decide, by decide, fun d H2 hd0 hd1 o2 hB2 => ?_⟩
    obtain ⟨d, rfl⟩ : ∃ j : Nat, d = (j : Int) := ⟨d.toNat, by omega⟩
    obtain ⟨_, _, hb1, _⟩ := id hB1
    have hLb : L ≠ b := (ne_of_none hb1 hL).symm
    have hL2 : H2 L = some (.lst (signL.map V.str)) := o2 _ _ hLb upd_same
    have hdl : d < signL.length := by
      show d < 12
      omega
    have qs : signL[d]? = some signL[d] := List.getElem?_eq_getElem hdl
    have hmem := List.getElem_mem hdl
    generalize signL[d] = sg at qs hmem
    refine ⟨L, _, _, .str sg, rfl, rfl, SqL.of hL2, atI_nat (by rw [List.getElem?_map, qs]; rfl), ?_⟩
    obtain ⟨h1, h2⟩ := sign_ok sg hmem
    refine ⟨_, rfl, _, rfl, _, rfl, x, rfl, by omega, _, rfl, _, _, rfl, rfl, ?_, _, rfl, _, rfl, _, rfl, ?_⟩
    · rw [cut_head]
      show (x.cps.toList.take a).toArray.size + sg.length ≤ sizeLine
      have hx : x.cps.toList.length = x.length := by simp [Str.length]
      simp only [List.size_toArray, List.length_take]
      omega
    refine ⟨b, c, ms, _, 2, rfl, hB2, by omega, by decide, by decide, fun k H3 hk0 hk1 o3 hB3 => ?_⟩
    obtain ⟨k, rfl⟩ : ∃ j : Nat, k = (j : Int) := ⟨k.toNat, by omega⟩
    obtain ⟨g1, g2⟩ := spoil_ok (x := x) (a := a) (k := k) hmem
    refine ⟨_, _, rfl, rfl, _, rfl, x, rfl, by omega, _, _, rfl, rfl, ?_, ?_⟩
    · rw [str_len] at g1
      exact Nat.le_trans g1 (by omega)
    · exact h _ H3 ((o1.trans (Ext.off x1)).trans (o2.trans o3)) hB3 g1 g2
end
end K00
set_option maxHeartbeats 1000000
namespace K00
open PySem PySem.Spec PyProof.Rows L2 Ax
section
variable {P : Program} {w : World} {K : PySem.W.Frag} {mg : Str → Option Value} {base : Heap}
theorem ok_lname (T : Tx w K mg) : Dn P w K mg base CX0 1 "_law_is_name" ["word"] spName := by
  obtain ⟨fd, F⟩ := T.f_law_is_name
  refine ⟨_, fd, F.ok sc_law_is_name (fun vs H Q E h => ?_) (fun cdv A outer s H vs Q E hr h => ⟨_, PSs.nox (pss_cons
    (ps_if (PW.pt (pw_or (pt_cmpR op_lt (pe_callB call_len_str rfl T.b_len (by decide +kernel) (pa_cons (pv 0) pa_nil)) pe_int (nomark _)) (pw_or (pt_cmpR op_gt (pe_callB call_len_str rfl T.b_len (by decide +kernel) (pa_cons (pv 0) pa_nil)) pe_int (nomark _))
        (pw_or1 (pt_cmpR op_notIn_sign (pe_item_str (pv 0) pe_int (fun _ _ => rfl)) pe_str (by rfl)))))) (pss_one (ps_ret pe_bl)) pss_nil)
    (pss_one (ps_ret (pe_cmpR op_eq (pe_callB call_len_seq rfl T.b_len (by decide +kernel) (pa_cons
      (pe_lc (own := [("sign", 1)]) (g := gName 1) (te := tVar 1) (by rfl) sc_law_is_name.nd (pi_str (pv 0)) (blkOk_by (own := [("sign", 1)]) (N := n_law_is_name) (sc := defScope s_law_is_name) (by decide +kernel)) (fun _ _ _ _ _ => pg_name (i := 1) sc_law_is_name.nd rfl (Or.inl rfl))
        (fun _ _ _ _ _ => pts_one (pt_cmpR op_notIn_sign (pv 1) pe_str (by rfl))) (fun _ _ _ _ _ => pv 1)) pa_nil)) pe_int (nomark _))))), ?_⟩), T.g_law_is_name, F.kp, F.bindsN fun _ _ _ _ _ _ us hl => match us, hl with | [_], _ => rfl⟩
  · obtain ⟨x, rfl, _⟩ := h
    rfl
  · obtain ⟨x, rfl, hl, h⟩ := h
    refine ⟨_, rfl, _, rfl, hl, _, _, rfl, rfl, _, rfl, ?_⟩
    have nope : isNm x = false → Q (.bl false) H := fun e => by
      rw [← e]
      exact h H Ext.rfl'
    by_cases c1 : (x.length : Int) < 1
    · refine iteTd (decide_eq_true c1) ?_
      refine iteT ?_
      exact nope (by unfold isNm; simp; omega)
    refine iteFd c1 ?_
    refine ⟨_, rfl, _, rfl, hl, _, _, rfl, rfl, _, rfl, ?_⟩
    by_cases c2 : (8 : Int) < (x.length : Int)
    · refine iteTd (decide_eq_true c2) ?_
      refine iteT ?_
      exact nope (by unfold isNm; simp; omega)
    refine iteFd c2 ?_
    have hlen : 0 < x.cps.size := by
      have : x.cps.size = x.length := rfl
      omega
    obtain ⟨c, hc⟩ : ∃ c, x.cps[0]? = some c := ⟨x.cps[0], by simp [hlen]⟩
    have hcl : x.cps.toList[0]? = some c := by rw [Array.getElem?_toList]; exact hc
    have htk : x.cps.toList.take 1 = [c] := by
      cases q : x.cps.toList with
      | nil => rw [q] at hcl; cases hcl
      | cons d l =>
        rw [q] at hcl
        have e : d = c := Option.some.inj hcl
        rw [e]
        rfl
    have hnm : isNm x = (decide (c ∈ letL) && x.cps.toList.all (fun c => decide (c ∈ sigL))) := by
      unfold isNm
      rw [htk, decide_eq_true (⟨by omega, by omega⟩ : 1 ≤ x.length ∧ x.length ≤ 8)]
      simp
    refine ⟨_, rfl, _, _, c, rfl, rfl, by decide, by decide, by omega, hc, _, _, rfl, rfl, _, rfl, ?_⟩
    by_cases c3 : c ∈ letL
    · refine iteFd' (show (!decide (c ∈ letL)) = false from by rw [decide_eq_true c3]; rfl) ?_
      refine ⟨_, rfl, x, rfl, fun D hD => ?_⟩
      refine lc_acc walk_str hD (fun i acc B => B = H ∧ acc.length = ((x.cps.toList.take i).filter fun c => !decide (c ∈ sigL)).length) ⟨rfl, rfl⟩ (fun _ _ _ _ _ _ => trivial) ?_ ?_
      · rintro i y H1 H' acc hi hacc hl2 ⟨eB, ea⟩ ⟨eH, d, hd, ey⟩
        subst ey eH
        have hdl : x.cps.toList[i]? = some d := by rw [Array.getElem?_toList]; exact hd
        refine ⟨rfl, ?_⟩
        refine ⟨_, rfl, d, _, rfl, rfl, _, rfl, ?_⟩
        have ef : ∀ b, (!decide (d ∈ sigL)) = b → ((x.cps.toList.take (i + 1)).filter fun c => !decide (c ∈ sigL)).length = ((x.cps.toList.take i).filter fun c => !decide (c ∈ sigL)).length + (if b = true then 1 else 0) := by
          intro b hb
          rw [List.take_add_one, hdl, List.filter_append, List.length_append]
          congr 1
          show (List.filter (fun c => !decide (c ∈ sigL)) [d]).length = _
          rw [List.filter_cons, hb]
          cases b <;> rfl
        by_cases c4 : d ∈ sigL
        · have e4 : (!decide (d ∈ sigL)) = false := by rw [decide_eq_true c4]; rfl
          refine iteFd' (show (!decide (d ∈ sigL)) = false from e4) ?_
          refine acc_skip hacc hl2 ⟨eB, ?_⟩
          rw [ea, ef _ e4]
          rfl
        · have e4 : (!decide (d ∈ sigL)) = true := by rw [decide_eq_false c4]; rfl
          refine iteTd (show (!decide (d ∈ sigL)) = true from e4) ?_
          refine ⟨_, rfl, ?_⟩
          refine acc_add hacc hl2 (by have : x.cps.size = x.length := rfl; omega) ⟨eB, ?_⟩
          rw [List.length_append, ea, ef _ e4]
          rfl
      · rintro H1 acc hacc hl2 ⟨eB, ea⟩
        refine ⟨D, _, rfl, .inl (SqL.of hacc), rfl, ?_⟩
        rw [List.take_of_length_le (by simp)] at ea
        have e : decide (V.int (acc.length : Int) = V.int 0) = isNm x := by
          rw [hnm, decide_eq_true c3, Bool.true_and, ea, Bool.eq_iff_iff, decide_eq_true_iff, List.all_eq_true]
          constructor
          · intro z c hc2
            injection z with z
            have z2 : (x.cps.toList.filter fun c => !decide (c ∈ sigL)) = [] := List.length_eq_zero_iff.mp (by omega)
            have z3 := List.filter_eq_nil_iff.mp z2 c hc2
            simpa using z3
          · intro z
            have z2 : (x.cps.toList.filter fun c => !decide (c ∈ sigL)) = [] := List.filter_eq_nil_iff.mpr fun c hc2 => by
              have := z c hc2
              simpa using this
            rw [z2]
            rfl
        show Q (.bl (decide (V.int (acc.length : Int) = V.int 0))) H1
        rw [e]
        refine h _ ?_
        rw [← eB]
        exact ext_del
    · refine iteTd (show (!decide (c ∈ letL)) = true from by rw [decide_eq_false c3]; rfl) ?_
      exact nope (by rw [hnm, decide_eq_false c3]; rfl)
/-! ### what is no text -/
def spNo (K : PySem.W.Frag) : Sp := fun vs H Q _ => ∃ (v : V) (d : PyData) (t : String), vs = [v] ∧ Dp K H v d ∧ SeqAt.shaped d = true ∧ PyData.eqv d (.str "") = false ∧ TyX K H v (.type t) ∧ kitB t "str" = some false ∧ ∀ H', Ext H H' → Q (.bl true) H'
theorem ok_no (T : Tx w K mg) : Dn P w K mg base CX0 7 "_law_no_text" ["thing"] (spNo K) := by
  obtain ⟨fd, F⟩ := T.f_law_no_text
  refine ⟨_, fd, F.ok sc_law_no_text (fun vs H Q E h => ?_) (fun cdv A outer s H vs Q E hr h => ⟨_, (pss_one
    (ps_try_cls (l := [⟨.ref (He.ga K "BadText"), 1, fun a cls d => tRet (tOp rEq (tXf a cls d (He.ga K "BadText") "row" (tVar 1)) (tC (.int 0)))⟩]) rfl rfl sc_law_no_text.nd takes0
      (fun W pn xe tk _ => pss_cons (ps_expr (pe_dnS (ok_parse T) hr rfl (fun σ => passAt tk σ) (pa_cons (pv 0) pa_nil))) (pss_one (ps_ret pe_bl)))
      (ClsOk.cons ⟨rfl, by decide, .inl T.g_BadText⟩ rfl rfl (fun a oe cls d pn hz hf => pss_one (ps_ret (pe_cmpR op_eq (pe_xf T.xf_BadText (show PySem.W.findIn K (.ref (He.ga K "BadText")) "row" = some none from T.n_BadText_row) hz hf (pv 1)) pe_int (nomark _)))) ClsOk.nil))), ?_⟩), T.g_law_no_text, F.kp, F.bindsN fun _ _ _ _ _ _ us hl => match us, hl with | [_], _ => rfl⟩
  · obtain ⟨v, d, t, rfl, _⟩ := h
    rfl
  · obtain ⟨v, d, t, rfl, hd, hs, hq, ht, hk, h⟩ := h
    refine ⟨v, rfl, v, rfl, .inr ⟨d, t, hd, hs, hq, ht, hk, fun dd H1 x1 he => ?_⟩⟩
    obtain ⟨tt, he⟩ := he
    refine ⟨true, T.x_BadText_BadText, fun _ a ha => ?_, fun z => nomatch z⟩
    refine ⟨_, rfl, rfl, rfl, dd, _, _, rfl, he, rfl, rfl, ?_⟩
    exact h H1 x1
end
end K00
set_option maxHeartbeats 1000000
namespace K00
open PySem PySem.Spec PyProof.Rows L2 Ax
theorem pe_imp {X : Cx} {e : Expr} {t t' : TE} (he : PE X e t) (h : ∀ σ H Q, t' σ H Q → t σ H Q) : PE X e t' := ⟨fun pins s σ H Q I q => he.run pins s σ H Q I (h σ H Q q)⟩
def rowsT (x : Str) : List Str := if x = "" then [] else Txt.split x "\n"
def L5 : List Str := ["1", "2", "3", "4", "5"]
theorem fig_of {e : Str} (h : e ∈ L5) : ∃ f, fig e = some f ∧ 1 ≤ f ∧ f ≤ 5 ∧ PySem.intText? e = some f ∧ e.length ≤ 640 := by
  simp only [L5, List.mem_cons, List.not_mem_nil, or_false] at h
  rcases h with q | q | q | q | q <;> subst q
  · exact ⟨1, by decide +kernel, by decide, by decide, by kernel_rfl, by decide⟩
  · exact ⟨2, by decide +kernel, by decide, by decide, by kernel_rfl, by decide⟩
  · exact ⟨3, by decide +kernel, by decide, by decide, by kernel_rfl, by decide⟩
  · exact ⟨4, by decide +kernel, by decide, by decide, by kernel_rfl, by decide⟩
  · exact ⟨5, by decide +kernel, by decide, by decide, by kernel_rfl, by decide⟩
theorem of_fig {e : Str} {f : Int} (h : fig e = some f) (h1 : 1 ≤ f) (h2 : f ≤ 5) : e ∈ L5 := by
  obtain ⟨⟨l⟩⟩ := e
  unfold fig at h
  dsimp only at h
  match l, h with
  | [c], h =>
    dsimp only at h
    by_cases q : 48 ≤ c ∧ c ≤ 57
    · rw [if_pos q] at h
      have e1 := Option.some.inj h
      have : c = 49 ∨ c = 50 ∨ c = 51 ∨ c = 52 ∨ c = 53 := by omega
      rcases this with z | z | z | z | z <;> subst z <;> decide +kernel
    · rw [if_neg q] at h
      cases h
/-- a place where a need is bad -/
def bk (ns el : List Str) (k : Nat) : Bool := match ns[k]? with
  | some n => !decide (n ∈ el) || decide (n ∈ ns.take k)
  | none => false
theorem bk_all {ns el : List Str} : (∀ k, k < ns.length → bk ns el k = false) ↔ (ns.all fun n => decide (n ∈ el) && decide (ns.count n = 1)) = true := by
  constructor
  · intro h
    have hnd : ns.Nodup := by
      rw [List.Nodup, List.pairwise_iff_getElem]
      intro i j hi hj hij e
      have q := h j hj
      unfold bk at q
      rw [List.getElem?_eq_getElem hj] at q
      simp only [Bool.or_eq_false_iff, decide_eq_false_iff_not] at q
      refine q.2 ?_
      rw [← e]
      exact List.mem_take_iff_getElem.mpr ⟨i, by omega, rfl⟩
    rw [List.all_eq_true]
    intro n hn
    obtain ⟨k, hk, e⟩ := List.mem_iff_getElem.mp hn
    have q := h k hk
    unfold bk at q
    rw [List.getElem?_eq_getElem hk, e] at q
    simp only [Bool.or_eq_false_iff, Bool.not_eq_false', decide_eq_true_iff] at q
    have c1 : ns.count n ≤ 1 := List.nodup_iff_count.mp hnd n
    have c2 : 0 < ns.count n := List.count_pos_iff.mpr hn
    rw [decide_eq_true q.1, decide_eq_true (by omega)]
    rfl
  · intro h k hk
    rw [List.all_eq_true] at h
    have q := h ns[k] (List.getElem_mem hk)
    simp only [Bool.and_eq_true, decide_eq_true_iff] at q
    unfold bk
    rw [List.getElem?_eq_getElem hk]
    dsimp only
    rw [decide_eq_true q.1, decide_eq_false]
    · rfl
    · intro hm
      have c1 : ns.count ns[k] = (ns.take k).count ns[k] + (ns.drop k).count ns[k] := by rw [← List.count_append, List.take_append_drop]
      have c2 : 0 < (ns.take k).count ns[k] := List.count_pos_iff.mpr hm
      have c3 : 0 < (ns.drop k).count ns[k] := List.count_pos_iff.mpr (by
        rw [List.drop_eq_getElem_cons hk]
        exact List.mem_cons_self)
      omega
theorem areN_bk {ns el : List Str} : areN ns el = (decide (ns.length ≤ 3) && decide (((List.range ns.length).filter (bk ns el)).length = 0)) := by
  unfold areN
  congr 1
  rw [Bool.eq_iff_iff, decide_eq_true_iff, ← bk_all, List.length_eq_zero_iff, List.filter_eq_nil_iff]
  constructor
  · intro h k hk
    rw [h k (List.mem_range.mp hk)]
    decide
  · intro h k hk
    have := h k (List.mem_range.mpr hk)
    simpa using this
def resOf (rows : List Str) : Res := match rdRows rows 0 with
  | .inl k => .bad k
  | .inr evs => match ordF [] evs with
    | some (a, b) => .ord a b
    | none => .ok evs
theorem rdText_rows (x : Str) : rdText x = resOf (if x = "" then [] else Txt.split x "\n") := by
  unfold rdText
  by_cases c : x = ""
  · rw [if_pos c, if_pos c]
    rfl
  · rw [if_neg c, if_neg c]
    rfl
theorem rowOf_law (k n e : Str) (r : List Str) : rowOf (k :: n :: e :: r) = if (k = "query" ∨ k = "action") ∧ e ∈ L5 ∧ isNm n = true ∧ r.all isNm = true then some ⟨n, (fig e).getD 0, k, r⟩ else none := by
  show (match fig e with
    | some f => if (k = "query" ∨ k = "action") ∧ 1 ≤ f ∧ f ≤ 5 ∧ isNm n = true ∧ r.all isNm = true then some (⟨n, f, k, r⟩ : Ev) else none
    | none => none) = _
  by_cases c : e ∈ L5
  · obtain ⟨f, h1, h2, h3, _⟩ := fig_of c
    rw [h1]
    simp only [h2, h3, c, true_and, Option.getD_some]
  · rw [if_neg (fun z => c z.2.1)]
    cases q : fig e with
    | none => rfl
    | some f => exact if_neg fun z => c (of_fig q z.2.1 z.2.2.1)
section
variable {P : Program} {w : World} {K : PySem.W.Frag} {mg : Str → Option Value} {base : Heap}
def DueAt (K : PySem.W.Frag) (H : Hp) (t : Addr) : Res → Prop
  | .bad k => SqT K H t [.str "row", .int k]
  | .ord wh nm => SqT K H t [.str wh, .str nm]
  | .ok evs => ∃ l ts, SqT K H t [.str "events", .ref l] ∧ SqL K H l (ts.map V.ref) ∧ TsD K H ts evs
def spLRead (K : PySem.W.Frag) : Sp := fun vs H Q _ => ∃ x : Str, vs = [.str x] ∧ x.length + 2 ≤ sizeLine ∧ (Txt.split x "\n").length ≤ 12 ∧ ∀ t H', Ext H H' → DueAt K H' t (rdText x) → Q (.ref t) H'
theorem rows_imp : ∀ (σ : L2.St) (H : Hp) (Q : VK), (∃ x : Str, σ[0]? = some (some (V.str x)) ∧ x.length + 2 ≤ sizeLine ∧ ∀ p, H p = none → Q (.ref p) (upd H p (.lst ((rowsT x).map V.str)))) →
    tIf (tTest (tOp rNe (tVar 0) (tC (.str "")))) (tM1 (fun x xs H Q => ∃ a b, x = .str a ∧ xs = [.str b] ∧ (b.length == 0) = false ∧ a.length + 2 ≤ sizeLine ∧ rNewStrs (Txt.split a b) H Q) (tVar 0) (tC (.str "\n"))) (tLst tNil) σ H Q := by
  rintro σ H Q ⟨x, hx, hl, h⟩
  refine ⟨_, hx, rfl, _, rfl, ?_⟩
  unfold rowsT at h
  by_cases c : x = ""
  · rw [if_pos c] at h
    refine iteFd' (by rw [decide_eq_true (show V.str x = V.str "" by rw [c])]; rfl) ?_
    exact ⟨by decide, h⟩
  · rw [if_neg c] at h
    refine iteTd (by rw [decide_eq_false (fun z => c (V.str.inj z))]; rfl) ?_
    exact ⟨_, hx, ⟨_, rfl⟩, x, _, rfl, rfl, rfl, hl, h⟩
theorem ok_lread (T : Tx w K mg) : Dn P w K mg base CX0 2 "_law_read" ["text"] (spLRead K) := by
  obtain ⟨fd, F⟩ := T.f_law_read
  have nd := sc_law_read.nd
  refine ⟨_, fd, F.ok sc_law_read (fun vs H Q E h => ?_) (fun cdv A outer s H vs Q E hr h => ⟨_, PSs.nox (pss_cons
    (ps_set (i := 1) nd rfl (Or.inl rfl) (pe_imp (t' := fun σ H Q => ∃ x : Str, σ[0]? = some (some (V.str x)) ∧ x.length + 2 ≤ sizeLine ∧ ∀ p, H p = none → Q (.ref p) (upd H p (.lst ((rowsT x).map V.str)))) (pe_ifExp (pt_cmpR op_ne (pv 0) pe_str (nomark _)) (pe_split (pv 0) pe_str) (pe_lst pa_nil)) rows_imp)) (pss_cons
    (ps_set (i := 2) nd rfl (Or.inl rfl) (pe_lst pa_nil)) (pss_cons
    (ps_for PassesOwn.never rfl (pi_enum (by rfl) T.b_enumerate (pa_cons (pv 1) pa_nil)) (pg_tup (by rfl) (pgs_cons (pg_name (i := 3) nd rfl (Or.inl rfl)) (pgs_cons (pg_name (i := 4) nd rfl (Or.inl rfl)) pgs_nil))) (pss_cons
      (ps_set (i := 5) nd rfl (Or.inl rfl) (pe_split (pv 4) pe_str)) (pss_cons
      (ps_if (PW.pt (pw_or (pt_cmpR op_lt (pe_callB call_len_seq rfl T.b_len (by decide +kernel) (pa_cons (pv 5) pa_nil)) pe_int (nomark _)) (pw_or
          (pt_cmpR op_notIn_seq (pe_ix ix_list (pv 5) pe_int (fun _ _ => rfl)) (pe_tup (pa_cons pe_str (pa_cons pe_str pa_nil))) (by rfl)) (pw_or1
          (pt_cmpR op_notIn_seq (pe_ix ix_list (pv 5) pe_int (fun _ _ => rfl)) (pe_tup (pa_cons pe_str (pa_cons pe_str (pa_cons pe_str (pa_cons pe_str (pa_cons pe_str pa_nil)))))) (by rfl))))))
        (pss_one (ps_ret (pe_tup (pa_cons pe_str (pa_cons (pv 3) pa_nil))))) pss_nil) (pss_cons
      (ps_if (PW.pt (pw_or (pt_not (pt_val (pe_dn (ok_lname T) hr rfl pass0 (pa_cons (pe_ix ix_list (pv 5) pe_int (fun _ _ => rfl)) pa_nil)))) (pw_or1
          (pt_cmpR op_gt (pe_callB call_len_seq rfl T.b_len (by decide +kernel) (pa_cons
            (pe_lc (own := [("word", 10)]) (g := gName 10) (tt := tNot (tB (tCall spName [] E0 (tCons (tVar 10) tNil)))) (te := tVar 10) (by rfl) nd (pi_list (pe_slice sl_list (pv 5) (po_some pe_int) po_none)) (blkOk_by (own := [("word", 10)]) (N := n_law_read) (sc := defScope s_law_read) (by decide +kernel))
              (fun _ _ _ _ _ => pg_name (i := 10) nd rfl (Or.inl rfl)) (fun _ _ _ _ _ => pts_one (pt_not (pt_val (pe_dn (ok_lname T) hr rfl pass0 (pa_cons (pv 10) pa_nil))))) (fun _ _ _ _ _ => pv 10)) pa_nil)) pe_int (nomark _)))))
        (pss_one (ps_ret (pe_tup (pa_cons pe_str (pa_cons (pv 3) pa_nil))))) pss_nil)
      (pss_one (ps_expr (pe_bm PySem.F.plainAttrs_list PySem.F.slot_list_append PySem.F.type_list_append mt_append (pv 2) (pa_cons (pe_tup (pa_cons (pe_ix ix_list (pv 5) pe_int (fun _ _ => rfl)) (pa_cons
        (pe_callTy call_int_str rfl T.b_int (by decide +kernel) (pa_cons (pe_ix ix_list (pv 5) pe_int (fun _ _ => rfl)) pa_nil)) (pa_cons (pe_ix ix_list (pv 5) pe_int (fun _ _ => rfl)) (pa_cons (pe_slice sl_list (pv 5) (po_some pe_int) po_none) pa_nil))))) pa_nil))))))))
    (pss_cons (ps_for PassesOwn.never rfl (pi_enum (by rfl) T.b_enumerate (pa_cons (pv 2) pa_nil)) (pg_tup (by rfl) (pgs_cons (pg_name (i := 3) nd rfl (Or.inl rfl)) (pgs_cons (pg_name (i := 6) nd rfl (Or.inl rfl)) pgs_nil))) (pss_cons
      (ps_set (i := 7) nd rfl (Or.inr rfl) (pe_lc (own := [("other", 11)]) (g := gName 11) (tt := tYes) (te := tOp (rIxT K) (tVar 11) (tC (.int 0))) (by rfl) nd (pi_list (pe_slice sl_list (pv 2) po_none (po_some (pv 3)))) (blkOk_by (own := [("other", 11)]) (N := n_law_read) (sc := defScope s_law_read) (by decide +kernel))
        (fun _ _ _ _ _ => pg_name (i := 11) nd rfl (Or.inl rfl)) (fun _ _ _ _ _ => pts_nil) (fun _ _ _ _ _ => pe_ix ix_tup (pv 11) pe_int (fun _ _ => rfl)))) (pss_cons
      (ps_if (pt_cmpR op_in_seq (pe_ix ix_tup (pv 6) pe_int (fun _ _ => rfl)) (pv 7) (by rfl)) (pss_one (ps_ret (pe_tup (pa_cons pe_str (pa_cons (pe_ix ix_tup (pv 6) pe_int (fun _ _ => rfl)) pa_nil))))) pss_nil) (pss_cons
      (ps_set (i := 8) nd rfl (Or.inr rfl) (pe_ix ix_tup (pv 6) pe_int (fun _ _ => rfl))) (pss_cons
      (ps_setLc (i := 9) (own := [("k", 12)]) (g := gName 12) (tt := tOr (tTest (tOp (rIn K true) (tOp (rIxL K) (tVar 8) (tVar 12)) (tVar 7))) (tTest (tOp (rIn K false) (tOp (rIxL K) (tVar 8) (tVar 12)) (tSl (rSlL K) (tVar 8) tNoPart (tPart (tVar 12)))))) (te := tVar 12) (by rfl) nd rfl rfl (sw_true rfl rfl rfl (by decide +kernel))
        (pi_range1 rfl T.b_range (pa_cons (pe_callB call_len_seq rfl T.b_len (by decide +kernel) (pa_cons (pv 8) pa_nil)) pa_nil)) (blkOk_by (own := [("k", 12)]) (N := n_law_read) (sc := defScope s_law_read) (by decide +kernel)) (fun _ _ _ _ _ => pg_name (i := 12) nd rfl (Or.inl rfl))
        (fun _ _ _ _ _ => pts_one (PW.pt (pw_or (pt_cmpR op_notIn_seq (pe_ix ix_list (pv 8) (pv 12) (fun _ _ => rfl)) (pv 7) (by rfl)) (pw_or1 (pt_cmpR op_in_seq (pe_ix ix_list (pv 8) (pv 12) (fun _ _ => rfl)) (pe_slice sl_list (pv 8) po_none (po_some (pv 12))) (by rfl)))))) (fun _ _ _ _ _ => pv 12))
      (pss_one (ps_if (PW.pt (pw_or (pt_cmpR op_gt (pe_callB call_len_seq rfl T.b_len (by decide +kernel) (pa_cons (pv 8) pa_nil)) pe_int (nomark _)) (pw_or1 (pt_cmpR op_gt (pe_callB call_len_seq rfl T.b_len (by decide +kernel) (pa_cons (pv 9) pa_nil)) pe_int (nomark _)))))
        (pss_one (ps_ret (pe_tup (pa_cons pe_str (pa_cons (pe_ix ix_tup (pv 6) pe_int (fun _ _ => rfl)) pa_nil))))) pss_nil)))))))
    (pss_one (ps_ret (pe_tup (pa_cons pe_str (pa_cons (pv 2) pa_nil))))))))), ?_⟩), T.g_law_read, F.kp, F.bindsN fun _ _ _ _ _ _ us hl => match us, hl with | [_], _ => rfl⟩
  · obtain ⟨x, rfl, _⟩ := h
    rfl
  · obtain ⟨x, rfl, hl, hn, h⟩ := h
    refine ⟨x, rfl, hl, fun p hp => ?_⟩
    have hrt : rdText x = resOf (rowsT x) := rdText_rows x
    have hrl : ∀ r ∈ rowsT x, r.length + 2 ≤ sizeLine := fun r hr => by
      unfold rowsT at hr
      by_cases c : x = ""
      · rw [if_pos c] at hr
        cases hr
      · rw [if_neg c] at hr
        have := part_short hr
        omega
    have hrn : (rowsT x).length ≤ 12 := by
      unfold rowsT
      by_cases c : x = ""
      · rw [if_pos c]
        decide
      · rw [if_neg c]
        exact hn
    rw [hrt] at h
    generalize rowsT x = rows at h hrl hrn hp ⊢
    have x1 : Ext H (upd H p (.lst (rows.map V.str))) := Ext.upd hp
    have hp1 : (upd H p (.lst (rows.map V.str))) p = some (.lst (rows.map V.str)) := upd_same
    generalize (upd H p (.lst (rows.map V.str))) = H1 at x1 hp1 ⊢
    refine ⟨by decide, fun D hD => ?_⟩
    have x2 : Ext H1 (upd H1 D (.lst [])) := Ext.upd hD
    refine ⟨_, rfl, p, _, rfl, SqL.of (x2 _ _ hp1), ?_⟩
    refine for_it (walk_enum (K := K) (xs := rows.map V.str)) (fun i σ H' => ∃ (s3 s4 s5 : Option V) (ts : List Addr) (evs : List Ev), σ = [some (.str x), some (.ref p), some (.ref D), s3, s4, s5, none, none, none, none, none, none, none] ∧ H' D = some (.lst (ts.map V.ref)) ∧
        TsD K (del H' D) ts evs ∧ Ext H1 H' ∧ ts.length = i ∧ (∀ e ∈ evs, e.needs.length < sizeLine) ∧ rdRows rows 0 = pre evs (rdRows (rows.drop i) i))
      ⟨none, none, none, [], [], rfl, upd_same, TsD.nil, x2, rfl, fun e he => by simp at he, (pre_nil _).symm⟩ (fun i σ H' _ ⟨_, _, _, _, _, _, _, _, x3, _⟩ => SqL.of (x3 _ _ hp1)) ?_ ?_
    · rintro i y σ H' H'' hi ⟨s3, s4, s5, ts, evs, rfl, hDl, hT, x3, hti, hnl, hrd⟩ ⟨TT, u, v, rfl, hTT, rfl, eu, ev⟩
      cases Option.some.inj eu
      have hi2 : i < rows.length := by simp at hi; exact hi
      have qe : rows[i]? = some rows[i] := List.getElem?_eq_getElem hi2
      have hdr : rows.drop i = rows[i] :: rows.drop (i + 1) := List.drop_eq_getElem_cons hi2
      have hrow := hrl _ (List.getElem_mem hi2)
      have ev : (rows.map V.str)[i]? = some v := ev
      rw [List.getElem?_map, qe] at ev
      cases Option.some.inj ev
      generalize rows[i] = r at qe hdr hrow
      rw [hdr, rdRows_cons] at hrd
      have x4 : Ext H' (upd H' TT (.tup [.int (i : Int), .str r])) := Ext.upd hTT
      refine ⟨TT, _, rfl, SqT.of upd_same, rfl, _, _, rfl, _, _, rfl, rfl, ?_⟩
      refine ⟨_, rfl, ⟨_, rfl⟩, r, _, rfl, rfl, rfl, hrow, fun l hl1 => ?_⟩
      have x5 := x4.trans (Ext.upd (o := .lst ((Txt.split r " ").map V.str)) hl1)
      have hL : (upd (upd H' TT (.tup [.int (i : Int), .str r])) l (.lst ((Txt.split r " ").map V.str))) l = some (.lst ((Txt.split r " ").map V.str)) := upd_same
      have hlD : l ≠ D := (ne_of_none (x4 _ _ hDl) hl1).symm
      have hsh : ∀ z ∈ Txt.split r " ", z.length ≤ sizeLine := fun z hz => by
        have := part_short hz
        omega
      have hwl : (Txt.split r " ").length ≤ sizeLine := by
        have := split_le r " "
        omega
      generalize (upd (upd H' TT (.tup [.int (i : Int), .str r])) l (.lst ((Txt.split r " ").map V.str))) = H3 at x5 hL ⊢
      generalize Txt.split r " " = ws at hrd hL hsh hwl
      have bad : rowOf ws = none → ∀ (s5' : Option V) (H6 : Hp), Ext H3 H6 → ∀ t, H6 t = none → Q (.ref t) (upd H6 t (.tup [.str "row", .int (i : Int)])) := by
        intro hnone s5' H6 x6 t ht
        rw [hnone] at hrd
        have e1 : resOf rows = .bad i := by
          unfold resOf
          rw [hrd]
          rfl
        rw [e1] at h
        exact h t _ ((x1.trans (x3.trans (x5.trans x6))).trans (Ext.upd ht)) (SqT.of upd_same)
      refine ⟨_, rfl, l, _, rfl, .inl (SqL.of hL), _, _, rfl, rfl, _, rfl, ?_⟩
      rw [List.length_map]
      by_cases c0 : ws.length < 3
      · refine iteTd (decide_eq_true (by omega)) ?_
        refine iteT ?_
        refine ⟨_, rfl, ?_, fun t ht => bad (rowOf_short c0) none H3 Ext.rfl' t ht⟩
        show 2 ≤ sizeLine
        decide
      refine iteFd (by omega) ?_
      obtain ⟨k, n, e, ns, rfl⟩ : ∃ k n e r, ws = k :: n :: e :: r := by
        match ws, c0 with
        | k :: n :: e :: r, _ => exact ⟨k, n, e, r, rfl⟩
        | [_, _], c => exact absurd (show 2 < 3 by decide) c
        | [_], c => exact absurd (show 1 < 3 by decide) c
        | [], c => exact absurd (by decide) c
      rw [rowOf_law] at bad hrd
      refine ⟨_, rfl, l, _, _, _, rfl, rfl, SqL.of hL, atI_nat (j := 0) rfl, (by show 2 ≤ sizeLine; decide), fun t1 ht1 => ?_⟩
      have y1 : Ext H3 (upd H3 t1 (.tup ((["query", "action"] : List Str).map V.str))) := Ext.upd ht1
      refine ⟨t1, (["query", "action"] : List Str).map V.str, rfl, .inr (SqT.of upd_same), rfl, rfl, _, rfl, ?_⟩
      have hk : inV (.str k) ((["query", "action"] : List Str).map V.str) = decide (k = "query" ∨ k = "action") := by
        rw [inV_strs]
        simp
      show if (!inV (.str k) ((["query", "action"] : List Str).map V.str)) = true then _ else _
      rw [hk]
      have hL4 : (upd H3 t1 (.tup ((["query", "action"] : List Str).map V.str))) l = some (.lst ((k :: n :: e :: ns).map V.str)) := y1 _ _ hL
      by_cases c1 : k = "query" ∨ k = "action"
      case neg =>
        rw [decide_eq_false c1]
        refine iteT ?_
        refine iteT ?_
        refine ⟨_, rfl, by show 2 ≤ sizeLine; decide, fun t ht => bad (if_neg fun z => c1 z.1) none _ y1 t ht⟩
      rw [decide_eq_true c1]
      refine iteF ?_
      refine ⟨_, rfl, l, _, _, _, rfl, rfl, SqL.of hL4, atI_nat (j := 2) rfl, (by show 5 ≤ sizeLine; decide), fun t2 ht2 => ?_⟩
      have y2 := y1.trans (Ext.upd (o := .tup (L5.map V.str)) ht2)
      refine ⟨t2, L5.map V.str, rfl, .inr (SqT.of upd_same), rfl, rfl, _, rfl, ?_⟩
      show if (!inV (.str e) (L5.map V.str)) = true then _ else _
      rw [inV_strs]
      have hL5 := y2 _ _ hL
      change Ext H3 (upd (upd H3 t1 (.tup ((["query", "action"] : List Str).map V.str))) t2 (.tup (L5.map V.str))) at y2
      by_cases c2 : e ∈ L5
      case neg =>
        rw [decide_eq_false c2]
        refine iteT ?_
        refine ⟨_, rfl, by show 2 ≤ sizeLine; decide, fun t ht => bad (if_neg fun z => c2 z.2.1) none _ y2 t ht⟩
      rw [decide_eq_true c2]
      refine iteF ?_
      refine ⟨_, rfl, l, _, _, _, rfl, rfl, SqL.of hL5, atI_nat (j := 1) rfl, n, rfl, hsh n (by simp), fun H5 y3 => ?_⟩
      have y4 := y2.trans y3
      refine ⟨_, rfl, ?_⟩
      by_cases c3 : isNm n = true
      case neg =>
        refine iteTd (by rw [Bool.eq_false_iff.mpr c3]; rfl) ?_
        refine iteT ?_
        refine ⟨_, rfl, by show 2 ≤ sizeLine; decide, fun t ht => bad (if_neg fun z => c3 z.2.2.1) none _ y4 t ht⟩
      refine iteFd' (by rw [c3]; rfl) ?_
      have hL6 := y4 _ _ hL
      have hcut : cutV ((k :: n :: e :: ns).map V.str) (some 3) none = ns.map V.str := cut_from _ 3
      refine ⟨_, rfl, _, rfl, l, _, rfl, SqL.of hL6, fun q hq => ?_⟩
      have y5 := y4.trans (Ext.upd (o := .lst (cutV ((k :: n :: e :: ns).map V.str) (some 3) none)) hq)
      have hq5 : (upd H5 q (.lst (cutV ((k :: n :: e :: ns).map V.str) (some 3) none))) q = some (.lst (ns.map V.str)) := by rw [upd_same, hcut]
      generalize (upd H5 q (.lst (cutV ((k :: n :: e :: ns).map V.str) (some 3) none))) = H6 at y5 hq5 ⊢
      refine ⟨q, rfl, ⟨_, SqL.of hq5⟩, fun D2 hD2 => ?_⟩
      refine lc_acc (walk_list (K := K) (xs := ns.map V.str)) hD2 (fun j acc B => Ext H6 B ∧ acc.length = ((ns.take j).filter fun z => !isNm z).length) ⟨Ext.rfl', rfl⟩ (fun j acc H7 _ _ z => SqL.of (ext_del _ _ (z.1 _ _ hq5))) ?_ ?_
      · rintro j y H7 H8 acc hj hacc hl2 ⟨xB, ea⟩ ⟨eH, hy⟩
        subst eH
        rw [List.getElem?_map] at hy
        rw [List.length_map] at hj
        cases qz : ns[j]? with
        | none => rw [qz] at hy; cases hy
        | some z =>
          rw [qz] at hy
          cases Option.some.inj hy
          have hz : z ∈ k :: n :: e :: ns := by
            have := List.mem_of_getElem? qz
            simp [this]
          have ef : ∀ b, (!isNm z) = b → ((ns.take (j + 1)).filter fun z => !isNm z).length = ((ns.take j).filter fun z => !isNm z).length + (if b = true then 1 else 0) := by
            intro b hb
            rw [List.take_add_one, qz, List.filter_append, List.length_append]
            congr 1
            show (List.filter (fun z => !isNm z) [z]).length = _
            rw [List.filter_cons, hb]
            cases b <;> rfl
          refine ⟨rfl, ?_⟩
          refine ⟨_, rfl, z, rfl, hsh z hz, fun H9 y6 => ⟨_, rfl, ?_⟩⟩
          have hacc9 := y6 _ _ hacc
          cases c4 : isNm z with
          | true =>
            refine iteF ?_
            refine acc_skip hacc9 hl2 ⟨fun b o hb => ext_delD y6 _ _ (xB b o hb), ?_⟩
            rw [ea, ef false (by rw [c4]; rfl)]
            rfl
          | false =>
            refine iteT ?_
            refine ⟨_, rfl, ?_⟩
            refine acc_add hacc9 hl2 ?_ ⟨fun b o hb => ext_delD y6 _ _ (xB b o hb), ?_⟩
            · simp only [List.length_cons] at hwl
              omega
            · rw [List.length_append, ea, ef true (by rw [c4]; rfl)]
              rfl
      · rintro H7 acc hacc hl2 ⟨xB, ea⟩
        have y7 : Ext H3 H7 := y5.trans fun b o hb => ext_del _ _ (xB b o hb)
        rw [List.length_map, List.take_of_length_le (Nat.le_refl _)] at ea
        refine ⟨D2, _, rfl, .inl (SqL.of hacc), _, _, rfl, rfl, _, rfl, ?_⟩
        by_cases c5 : ns.all isNm = true
        case neg =>
          have e5 : (0 : Int) < (acc.length : Int) := by
            rw [ea]
            by_cases z : (ns.filter fun z => !isNm z) = []
            · refine absurd ?_ c5
              rw [List.all_eq_true]
              intro y hy
              have := List.filter_eq_nil_iff.mp z y hy
              simpa using this
            · have := List.length_pos_iff.mpr z
              omega
          refine iteTd (decide_eq_true e5) ?_
          refine ⟨_, rfl, by show 2 ≤ sizeLine; decide, fun t ht => bad (if_neg fun z => c5 z.2.2.2) none _ y7 t ht⟩
        have e5 : ¬ (0 : Int) < (acc.length : Int) := by
          rw [ea]
          have z : (ns.filter fun z => !isNm z) = [] := List.filter_eq_nil_iff.mpr fun y hy => by
            have := List.all_eq_true.mp c5 y hy
            simp [this]
          rw [z]
          decide
        refine iteFd e5 ?_
        have hL7 := y7 _ _ hL
        have hD7 := y7 _ _ (x5 _ _ hDl)
        obtain ⟨f, g1, g2, g3, g4, g5⟩ := fig_of c2
        rw [if_pos ⟨c1, c2, c3, c5⟩, g1] at hrd
        dsimp only [Option.getD_some] at hrd
        refine ⟨_, rfl, .inl ⟨rfl, _, SqL.of hD7⟩, _, rfl, l, _, _, _, rfl, rfl, SqL.of hL7, atI_nat (j := 1) rfl, _, rfl, l, _, _, _, rfl, rfl, SqL.of hL7, atI_nat (j := 2) rfl, e, f, rfl, g4, g5, _, rfl, l, _, _, _, rfl, rfl, SqL.of hL7, atI_nat (j := 0) rfl, _, rfl, _, rfl, l, _, rfl, SqL.of hL7, fun q2 hq2 => ?_⟩
        refine ⟨by show 4 ≤ sizeLine; decide, fun t ht => ?_⟩
        have hDq : D ≠ q2 := ne_of_none hD7 hq2
        have z1 : Ext H7 (upd H7 q2 (.lst (cutV ((k :: n :: e :: ns).map V.str) (some 3) none))) := Ext.upd hq2
        have hDt : D ≠ t := ne_of_none (z1 _ _ hD7) ht
        have z2 := z1.trans (Ext.upd (o := .tup [.str n, .int f, .str k, .ref q2]) ht)
        have hqt : q2 ≠ t := ne_of_none upd_same ht
        have hq3 : (upd (upd H7 q2 (.lst (cutV ((k :: n :: e :: ns).map V.str) (some 3) none))) t (.tup [.str n, .int f, .str k, .ref q2])) q2 = some (.lst (ns.map V.str)) := by
          rw [upd_ne hqt, upd_same, hcut]
        have ht3 : (upd (upd H7 q2 (.lst (cutV ((k :: n :: e :: ns).map V.str) (some 3) none))) t (.tup [.str n, .int f, .str k, .ref q2])) t = some (.tup [.str n, .int f, .str k, .ref q2]) := upd_same
        generalize (upd (upd H7 q2 (.lst (cutV ((k :: n :: e :: ns).map V.str) (some 3) none))) t (.tup [.str n, .int f, .str k, .ref q2])) = H9 at z2 hq3 ht3 ⊢
        have hD9 := z2 _ _ hD7
        have x9 : Ext H' H9 := x5.trans (y7.trans z2)
        refine ⟨D, _, _, rfl, rfl, hD9, ?_, ?_⟩
        · rw [List.length_map, hti]
          exact small (by omega)
        · refine ⟨_, _, _, ts ++ [t], evs ++ [⟨n, f, k, ns⟩], rfl, ?_, ?_, ?_, ?_, ?_, ?_⟩
          · rw [upd_same, List.map_append]
            rfl
          · rw [del_upd]
            refine (hT.ext (ext_delD x9)).snoc ⟨q2, SqT.of ?_, SqL.of ?_⟩
            · rw [del_ne hDt.symm]
              exact ht3
            · rw [del_ne hDq.symm]
              exact hq3
          · exact ext_upd_of (x3.trans x9) hD
          · rw [List.length_append, hti]
            rfl
          · intro e1 he1
            rcases List.mem_append.mp he1 with he1 | he1
            · exact hnl e1 he1
            · rw [List.mem_singleton.mp he1]
              simp only [List.length_cons] at hwl
              show ns.length < sizeLine
              omega
          · rw [hrd, pre_pre]
    · rintro σ H' ⟨s3, s4, s5, ts, evs, rfl, hDl, hT, x3, hti, hnl, hrd⟩
      rw [List.length_map] at hti hrd
      have e2 : rdRows rows 0 = .inr evs := by
        rw [hrd, List.drop_length]
        show Sum.inr (evs ++ []) = _
        rw [List.append_nil]
      have hte : ts.length = evs.length := hT.1
      have hen : evs.length ≤ 12 := by omega
      have hres : resOf rows = (match ordF [] evs with
        | some (a, b) => .ord a b
        | none => .ok evs) := by
        unfold resOf
        rw [e2]
      rw [hres] at h
      have hTH : TsD K H' ts evs := hT.ext ext_del
      refine ⟨_, rfl, D, _, rfl, SqL.of hDl, ?_⟩
      refine for_it (walk_enum (K := K) (xs := ts.map V.ref)) (fun i σ H2 => ∃ (s3 s4 s5 s6 s7 s8 s9 : Option V), σ = [some (.str x), some (.ref p), some (.ref D), s3, s4, s5, s6, s7, s8, s9, none, none, none] ∧ Ext H' H2 ∧ ordF ((evs.take i).map Ev.name) (evs.drop i) = ordF [] evs)
        ⟨s3, s4, s5, none, none, none, none, rfl, Ext.rfl', rfl⟩ (fun i σ H2 _ ⟨_, _, _, _, _, _, _, _, y1, _⟩ => SqL.of (y1 _ _ hDl)) ?_ ?_
      · rintro i y σ H2 H3 hi ⟨s3, s4, s5, s6, s7, s8, s9, rfl, y1, hor⟩ ⟨TT, u, v, rfl, hTT, rfl, eu, ev⟩
        cases Option.some.inj eu
        have hi2 : i < evs.length := by rw [List.length_map] at hi; omega
        have ev : (ts.map V.ref)[i]? = some v := ev
        rw [List.getElem?_map] at ev
        cases qt : ts[i]? with
        | none => rw [qt] at ev; cases ev
        | some t0 =>
          rw [qt] at ev
          cases Option.some.inj ev
          have qe : evs[i]? = some evs[i] := List.getElem?_eq_getElem hi2
          have hdr : evs.drop i = evs[i] :: evs.drop (i + 1) := List.drop_eq_getElem_cons hi2
          have htk : evs.take (i + 1) = evs.take i ++ [evs[i]] := by rw [List.take_add_one, qe]; rfl
          generalize evs[i] = e at qe hdr htk
          rw [hdr, ordF_cons] at hor
          have x4 : Ext H2 (upd H2 TT (.tup [.int (i : Int), .ref t0])) := Ext.upd hTT
          have y2 := y1.trans x4
          have hTTs : SqT K (upd H2 TT (.tup [.int (i : Int), .ref t0])) TT [.int (i : Int), .ref t0] := SqT.of upd_same
          generalize (upd H2 TT (.tup [.int (i : Int), .ref t0])) = H3 at x4 y2 hTTs ⊢
          refine ⟨TT, _, rfl, hTTs, rfl, _, _, rfl, _, _, rfl, rfl, ?_⟩
          have hcut : cutV (ts.map V.ref) none (some (i : Int)) = (ts.take i).map V.ref := by rw [cut_to, List.map_take]
          refine ⟨_, rfl, _, rfl, _, rfl, D, _, rfl, SqL.of (y2 _ _ hDl), fun p2 hp2 => ?_⟩
          have y3 := y2.trans (Ext.upd (o := .lst (cutV (ts.map V.ref) none (some (i : Int)))) hp2)
          have hp3 : (upd H3 p2 (.lst (cutV (ts.map V.ref) none (some (i : Int))))) p2 = some (.lst ((ts.take i).map V.ref)) := by rw [upd_same, hcut]
          generalize (upd H3 p2 (.lst (cutV (ts.map V.ref) none (some (i : Int))))) = H4 at y3 hp3 ⊢
          refine ⟨p2, rfl, ⟨_, SqL.of hp3⟩, fun D2 hD2 => ?_⟩
          refine lc_acc (walk_list (K := K) (xs := (ts.take i).map V.ref)) hD2 (fun j acc B => Ext H4 B ∧ acc = (((evs.take i).take j).map Ev.name).map V.str) ⟨Ext.rfl', rfl⟩ (fun j acc H5 _ _ z => SqL.of (ext_del _ _ (z.1 _ _ hp3))) ?_ ?_
          · rintro j y H5 H6 acc hj hacc hl2 ⟨xB, ea⟩ ⟨eH, hy⟩
            subst eH
            rw [List.length_map] at hj
            rw [List.getElem?_map] at hy
            cases qz : (ts.take i)[j]? with
            | none => rw [qz] at hy; cases hy
            | some t1 =>
              rw [qz] at hy
              cases Option.some.inj hy
              have hj2 : j < (evs.take i).length := by
                rw [List.length_take] at hj ⊢
                omega
              have qf : (evs.take i)[j]? = some (evs.take i)[j] := List.getElem?_eq_getElem hj2
              generalize (evs.take i)[j] = e1 at qf
              have hji : j < i := by
                rw [List.length_take] at hj
                omega
              have qz2 : ts[j]? = some t1 := by rw [← qz, List.getElem?_take_of_lt hji]
              have qf2 : evs[j]? = some e1 := by rw [← qf, List.getElem?_take_of_lt hji]
              have y5 : Ext H' H6 := y3.trans fun b o hb => ext_del _ _ (xB b o hb)
              obtain ⟨q1, k1, _⟩ := (hTH.2 j t1 e1 qz2 qf2).ext y5
              refine ⟨rfl, ?_⟩
              refine yes_go (iteT ?_)
              refine ⟨_, rfl, t1, _, _, _, rfl, rfl, k1, atI_nat (j := 0) rfl, ?_⟩
              refine acc_add hacc hl2 (small (by omega)) ⟨xB, ?_⟩
              rw [ea, List.take_add_one, qf, List.map_append, List.map_append]
              rfl
          · rintro H5 acc hacc hl2 ⟨xB, ea⟩
            have y5 : Ext H' H5 := y3.trans fun b o hb => ext_del _ _ (xB b o hb)
            have ea2 : acc = ((evs.take i).map Ev.name).map V.str := by
              rw [ea, List.take_of_length_le]
              rw [List.length_map, List.length_take, List.length_take]
              omega
            rw [ea2] at hacc
            generalize hel : (evs.take i).map Ev.name = el at hacc hor
            obtain ⟨q, k1, k2⟩ := (hTH.2 i t0 e qt qe).ext y5
            refine ⟨_, rfl, t0, _, _, _, rfl, rfl, k1, atI_nat (j := 0) rfl, _, rfl, D2, _, rfl, .inl (SqL.of hacc), rfl, flat_strs el, _, rfl, ?_⟩
            show if inV (.str e.name) (el.map V.str) = true then _ else _
            rw [inV_strs]
            by_cases c1 : e.name ∈ el
            · rw [decide_eq_true c1]
              refine iteT ?_
              have e1 : ordF [] evs = some (("twice" : Str), e.name) := by
                rw [← hor]
                unfold evF
                rw [if_pos c1]
              rw [e1] at h
              refine ⟨_, rfl, t0, _, _, _, rfl, rfl, k1, atI_nat (j := 0) rfl, by show 2 ≤ sizeLine; decide, fun t ht => ?_⟩
              exact h t _ (x1.trans (x3.trans (y5.trans (Ext.upd ht)))) (SqT.of upd_same)
            rw [decide_eq_false c1]
            refine iteF ?_
            refine ⟨_, rfl, t0, _, _, _, rfl, rfl, k1, atI_nat (j := 3) rfl, ?_⟩
            refine ⟨_, rfl, q, _, rfl, .inl k2, ?_⟩
            have hnq : e.needs.length < sizeLine := hnl e (List.mem_of_getElem? qe)
            have hsz : sizeLine < 2 ^ 61 := by decide
            refine ⟨_, rfl, by omega, by rw [List.length_map]; omega, fun D3 hD3 => ?_⟩
            refine lc_acc walk_range hD3 (fun k acc B => Ext H5 B ∧ acc.length = ((List.range k).filter (bk e.needs el)).length) ⟨Ext.rfl', rfl⟩ (fun _ _ _ _ _ _ => trivial) ?_ ?_
            · rintro k y H6 H7 acc3 hk hacc3 hl3 ⟨xB3, ea3⟩ ⟨eH, ey⟩
              subst eH ey
              have hk2 : k < e.needs.length := by simp at hk; exact hk
              have qn : e.needs[k]? = some e.needs[k] := List.getElem?_eq_getElem hk2
              have hbk : bk e.needs el k = (!decide (e.needs[k] ∈ el) || decide (e.needs[k] ∈ e.needs.take k)) := by
                unfold bk
                rw [qn]
              generalize e.needs[k] = nd1 at qn hbk
              have y6 : Ext H5 H7 := fun b o hb => ext_del _ _ (xB3 b o hb)
              have hat : atI (e.needs.map V.str) (0 + (k : Int)) = some (.str nd1) := by
                rw [Int.zero_add]
                exact atI_nat (by rw [List.getElem?_map, qn]; rfl)
              have ef : ∀ b, bk e.needs el k = b → ((List.range (k + 1)).filter (bk e.needs el)).length = ((List.range k).filter (bk e.needs el)).length + (if b = true then 1 else 0) := by
                intro b hb
                rw [List.range_succ, List.filter_append, List.length_append]
                congr 1
                show (List.filter (bk e.needs el) [k]).length = _
                rw [List.filter_cons, hb]
                cases b <;> rfl
              refine ⟨rfl, ?_⟩
              refine ⟨_, rfl, _, rfl, q, _, _, _, rfl, rfl, k2.ext y6, hat, _, rfl, D2, _, rfl, .inl (SqL.of (y6 _ _ hacc)), rfl, flat_strs el, _, rfl, ?_⟩
              show if (!inV (.str nd1) (el.map V.str)) = true then _ else _
              rw [inV_strs]
              by_cases c2 : nd1 ∈ el
              case neg =>
                refine iteTd (by rw [decide_eq_false c2]; rfl) ?_
                refine iteT ?_
                refine ⟨_, rfl, ?_⟩
                refine acc_add hacc3 hl3 (by omega) ⟨xB3, ?_⟩
                rw [List.length_append, ea3, ef true (by rw [hbk, decide_eq_false c2]; rfl)]
                rfl
              refine iteFd' (by rw [decide_eq_true c2]; rfl) ?_
              have hct : cutV (e.needs.map V.str) none (some (0 + (k : Int))) = (e.needs.take k).map V.str := by
                rw [Int.zero_add, cut_to, List.map_take]
              refine ⟨_, rfl, _, rfl, q, _, _, _, rfl, rfl, k2.ext y6, hat, _, rfl, _, rfl, _, rfl, q, _, rfl, k2.ext y6, fun p3 hp3 => ?_⟩
              have y7 : Ext H7 (upd H7 p3 (.lst (cutV (e.needs.map V.str) none (some (0 + (k : Int)))))) := Ext.upd hp3
              have hp4 : (upd H7 p3 (.lst (cutV (e.needs.map V.str) none (some (0 + (k : Int)))))) p3 = some (.lst ((e.needs.take k).map V.str)) := by rw [upd_same, hct]
              generalize (upd H7 p3 (.lst (cutV (e.needs.map V.str) none (some (0 + (k : Int)))))) = H8 at y7 hp4 ⊢
              refine ⟨p3, _, rfl, .inl (SqL.of hp4), rfl, flat_strs _, _, rfl, ?_⟩
              show if inV (.str nd1) ((e.needs.take k).map V.str) = true then _ else _
              rw [inV_strs]
              by_cases c3 : nd1 ∈ e.needs.take k
              · refine iteTd (decide_eq_true c3) ?_
                refine ⟨_, rfl, ?_⟩
                refine acc_add (y7 _ _ hacc3) hl3 (by omega) ⟨fun b o hb => ext_delD y7 _ _ (xB3 b o hb), ?_⟩
                rw [List.length_append, ea3, ef true (by rw [hbk, decide_eq_true c3, Bool.or_true])]
                rfl
              · refine iteFd c3 ?_
                refine acc_skip (y7 _ _ hacc3) hl3 ⟨fun b o hb => ext_delD y7 _ _ (xB3 b o hb), ?_⟩
                rw [ea3, ef false (by rw [hbk, decide_eq_true c2, decide_eq_false c3]; rfl)]
                rfl
            · rintro H6 acc3 hacc3 hl3 ⟨xB3, ea3⟩
              have y6 : Ext H5 H6 := fun b o hb => ext_del _ _ (xB3 b o hb)
              have hk3 : ((e.needs.map V.str).length : Int).toNat = e.needs.length := by rw [Int.toNat_natCast, List.length_map]
              rw [hk3] at ea3
              have fin : areN e.needs el = false → ∀ t, H6 t = none → Q (.ref t) (upd H6 t (.tup [.str "needs", .str e.name])) := by
                intro hf t ht
                have e1 : ordF [] evs = some (("needs" : Str), e.name) := by
                  rw [← hor]
                  unfold evF
                  rw [if_neg c1, if_neg (by rw [hf]; decide)]
                rw [e1] at h
                exact h t _ (x1.trans (x3.trans ((y5.trans y6).trans (Ext.upd ht)))) (SqT.of upd_same)
              refine ⟨_, rfl, q, _, rfl, .inl (k2.ext y6), _, _, rfl, rfl, _, rfl, ?_⟩
              rw [List.length_map]
              by_cases c2 : (3 : Int) < (e.needs.length : Int)
              · refine iteTd (decide_eq_true c2) ?_
                refine iteT ?_
                refine ⟨_, rfl, t0, _, _, _, rfl, rfl, k1.ext y6, atI_nat (j := 0) rfl, by show 2 ≤ sizeLine; decide, fun t ht => ?_⟩
                exact fin (by rw [areN_bk, decide_eq_false (by omega)]; rfl) t ht
              refine iteFd c2 ?_
              refine ⟨_, rfl, D3, _, rfl, .inl (SqL.of hacc3), _, _, rfl, rfl, _, rfl, ?_⟩
              by_cases c3 : (0 : Int) < (acc3.length : Int)
              · refine iteTd (decide_eq_true c3) ?_
                refine ⟨_, rfl, t0, _, _, _, rfl, rfl, k1.ext y6, atI_nat (j := 0) rfl, by show 2 ≤ sizeLine; decide, fun t ht => ?_⟩
                exact fin (by rw [areN_bk, decide_eq_false (show ¬ ((List.range e.needs.length).filter (bk e.needs el)).length = 0 by omega), Bool.and_false]) t ht
              · refine iteFd c3 ?_
                have hok : areN e.needs el = true := by
                  rw [areN_bk, decide_eq_true (show e.needs.length ≤ 3 by omega), decide_eq_true (show ((List.range e.needs.length).filter (bk e.needs el)).length = 0 by omega)]
                  rfl
                have hev : evF e el = none := by
                  unfold evF
                  rw [if_neg c1, if_pos hok]
                rw [hev] at hor
                refine ⟨_, _, _, _, _, _, _, rfl, y5.trans y6, ?_⟩
                rw [htk, List.map_append, hel]
                exact hor
      · rintro σ H2 ⟨s3, s4, s5, s6, s7, s8, s9, rfl, y1, hor⟩
        rw [List.length_map, hte, List.drop_length] at hor
        have e3 : ordF [] evs = none := hor.symm
        rw [e3] at h
        refine ⟨_, rfl, by show 2 ≤ sizeLine; decide, fun t ht => ?_⟩
        have y2 := y1.trans (Ext.upd (o := .tup [.str "events", .ref D]) ht)
        exact h t _ (x1.trans (x3.trans y2)) ⟨D, ts, SqT.of upd_same, SqL.of (y2 _ _ hDl), hTH.ext y2⟩
end
end K00
set_option maxHeartbeats 1000000
namespace K00
open PySem PySem.Spec PyProof.Rows L2 Ax
/-! ### what a text is read as -/
theorem num_fig {e : Str} {f : Int} (h : e ∈ L5) (g : fig e = some f) : numT f = e := by
  simp only [L5, List.mem_cons, List.not_mem_nil, or_false] at h
  rcases h with q | q | q | q | q <;> subst q
  · rw [← Option.some.inj ((by decide +kernel : fig "1" = some 1).symm.trans g)]; decide +kernel
  · rw [← Option.some.inj ((by decide +kernel : fig "2" = some 2).symm.trans g)]; decide +kernel
  · rw [← Option.some.inj ((by decide +kernel : fig "3" = some 3).symm.trans g)]; decide +kernel
  · rw [← Option.some.inj ((by decide +kernel : fig "4" = some 4).symm.trans g)]; decide +kernel
  · rw [← Option.some.inj ((by decide +kernel : fig "5" = some 5).symm.trans g)]; decide +kernel
theorem rowOf_some {ws : List Str} {e : Ev} (h : rowOf ws = some e) : ws = e.kind :: e.name :: numT e.fin :: e.needs ∧ Good e ∧ ∀ n ∈ e.needs, isNm n = true := by
  have hg := rowOf_good h
  match ws, h with
  | k :: n :: f :: r, h =>
    rw [rowOf_law] at h
    by_cases c : (k = "query" ∨ k = "action") ∧ f ∈ L5 ∧ isNm n = true ∧ r.all isNm = true
    · rw [if_pos c] at h
      cases Option.some.inj h
      obtain ⟨g, g1, _⟩ := fig_of c.2.1
      refine ⟨?_, hg, fun x hx => List.all_eq_true.mp c.2.2.2 x hx⟩
      show k :: n :: f :: r = k :: n :: numT ((fig f).getD 0) :: r
      rw [g1, Option.getD_some, num_fig c.2.1 g1]
    · rw [if_neg c] at h
      cases h
theorem rdRows_text : ∀ {rows : List Str} {k : Nat} {evs : List Ev}, rdRows rows k = .inr evs → evs.map rowT = rows ∧ ∀ e ∈ evs, ∀ n ∈ e.needs, isNm n = true
  | [], k, evs, h => by
    cases h
    exact ⟨rfl, fun e he => by simp at he⟩
  | r :: rs, k, evs, h => by
    rw [rdRows_cons] at h
    cases q : rowOf (Txt.split r " ") with
    | none => rw [q] at h; cases h
    | some e =>
      rw [q] at h
      dsimp only at h
      cases q2 : rdRows rs (k + 1) with
      | inl j => rw [q2] at h; cases h
      | inr es =>
        rw [q2] at h
        cases h
        obtain ⟨h1, h2⟩ := rdRows_text q2
        obtain ⟨g1, _, g3⟩ := rowOf_some q
        refine ⟨?_, fun f hf => ?_⟩
        · show rowT e :: es.map rowT = r :: rs
          rw [h1]
          congr 1
          show Txt.join " " (e.kind :: e.name :: numT e.fin :: e.needs) = r
          rw [← g1, txt_join]
          exact StrLaws.join_split r " "
        · simp only [List.cons_append, List.nil_append, List.mem_cons] at hf
          rcases hf with rfl | hf
          · exact g3
          · exact h2 f hf
theorem ordF_areN : ∀ (el : List Str) (evs : List Ev), ordF el evs = none → ∀ e ∈ evs, e.needs.length ≤ 3
  | el, [], _, e, he => by simp at he
  | el, f :: evs, h, e, he => by
    rw [ordF_cons] at h
    cases q : evF f el with
    | some x => rw [q] at h; cases h
    | none =>
      rw [q] at h
      dsimp only at h
      rcases List.mem_cons.mp he with rfl | he
      · unfold evF at q
        by_cases c1 : e.name ∈ el
        · rw [if_pos c1] at q
          cases q
        · rw [if_neg c1] at q
          by_cases c2 : areN e.needs el = true
          · unfold areN at c2
            simp only [Bool.and_eq_true, decide_eq_true_iff] at c2
            exact c2.1
          · rw [if_neg c2] at q
            cases q
      · exact ordF_areN _ evs h e he
theorem ok_of {x : Str} {evs : List Ev} (h : rdText x = .ok evs) : textT evs = x ∧ ordF [] evs = none ∧ (∀ e ∈ evs, Good e) ∧ (∀ e ∈ evs, Fine e) ∧ evs.length ≤ (Txt.split x "\n").length := by
  unfold rdText at h
  by_cases c : x = ""
  · rw [if_pos c] at h
    cases h
    refine ⟨?_, rfl, fun e he => by simp at he, fun e he => by simp at he, Nat.zero_le _⟩
    rw [c]
    show Txt.join "\n" [] = _
    rw [txt_join]
    rfl
  · rw [if_neg c] at h
    cases q : rdRows (Txt.split x "\n") 0 with
    | inl j => rw [q] at h; cases h
    | inr es =>
      rw [q] at h
      dsimp only at h
      cases q2 : ordF [] es with
      | some ab => rw [q2] at h; cases h
      | none =>
        rw [q2] at h
        cases h
        obtain ⟨h1, h2⟩ := rdRows_text q
        obtain ⟨h3, h4⟩ := rdRows_good q
        refine ⟨?_, q2, h3, fun e he => ?_, by omega⟩
        · show Txt.join "\n" (evs.map rowT) = x
          rw [h1, txt_join]
          exact StrLaws.join_split x "\n"
        · have g := h3 e he
          refine ⟨isNm_len g.nm, ?_, g.lo, g.hi, ordF_areN _ _ q2 e he, fun n hn => isNm_len (h2 e he n hn)⟩
          rcases g.kd with z | z <;> rw [z] <;> decide
end K00
set_option maxHeartbeats 1000000
namespace K00
open PySem PySem.Spec PyProof.Rows L2 Ax
open PySem.PyData (strOk)
theorem sig_small : ∀ c ∈ sigL, c < 0x110000 ∧ c ≠ 10 ∧ c ≠ 32 := by decide +kernel
theorem isNm_sig {x : Str} (h : isNm x = true) : ∀ c ∈ x.cps.toList, c ∈ sigL := by
  unfold isNm at h
  simp only [Bool.and_eq_true, List.all_eq_true, decide_eq_true_iff] at h
  exact h.2
theorem isNm_ok {x : Str} (h : isNm x = true) : strOk x = true := by
  unfold strOk
  rw [← Array.all_toList, List.all_eq_true]
  intro c hc
  exact decide_eq_true (sig_small c (isNm_sig h c hc)).1
theorem sh_row (k : Int) : SeqAt.shaped (.tuple [.str "row", .int k]) = true := by
  have e : strOk "row" = true := by decide +kernel
  simp [SeqAt.shaped, PyData.canLay0, PyData.canLayAll0, PyData.depth, PyData.depthAll, e]
theorem sh_two {a b : Str} (ha : strOk a = true) (hb : strOk b = true) : SeqAt.shaped (.tuple [.str a, .str b]) = true := by
  simp [SeqAt.shaped, PyData.canLay0, PyData.canLayAll0, PyData.depth, PyData.depthAll, ha, hb]
theorem ordF_some : ∀ (el : List Str) (evs : List Ev) (a b : Str), ordF el evs = some (a, b) → (∀ e ∈ evs, Good e) → strOk a = true ∧ strOk b = true
  | el, [], a, b, h, _ => by cases h
  | el, f :: evs, a, b, h, hg => by
    rw [ordF_cons] at h
    cases q : evF f el with
    | some x =>
      rw [q] at h
      cases h
      refine ⟨?_, isNm_ok (hg f List.mem_cons_self).nm⟩
      unfold evF at q
      by_cases c1 : f.name ∈ el
      · rw [if_pos c1] at q
        rw [← Option.some.inj q]
        decide +kernel
      · rw [if_neg c1] at q
        by_cases c2 : areN f.needs el = true
        · rw [if_pos c2] at q
          cases q
        · rw [if_neg c2] at q
          rw [← Option.some.inj q]
          decide +kernel
    | none =>
      rw [q] at h
      exact ordF_some _ evs a b h fun e he => hg e (List.mem_cons_of_mem _ he)
theorem ord_ok {x wh nm : Str} (h : rdText x = .ord wh nm) : strOk wh = true ∧ strOk nm = true := by
  unfold rdText at h
  by_cases c : x = ""
  · rw [if_pos c] at h
    cases h
  · rw [if_neg c] at h
    cases q : rdRows (Txt.split x "\n") 0 with
    | inl j => rw [q] at h; cases h
    | inr es =>
      rw [q] at h
      dsimp only at h
      cases q2 : ordF [] es with
      | none => rw [q2] at h; cases h
      | some ab =>
        obtain ⟨a, b⟩ := ab
        rw [q2] at h
        cases h
        exact ordF_some _ _ _ _ q2 (rdRows_good q).1
section
variable {P : Program} {w : World} {K : PySem.W.Frag} {mg : Str → Option Value} {base : Heap}
def spBack : Sp := fun vs H Q _ => ∃ x : Str, vs = [.str x] ∧ x.length + 2 ≤ sizeLine ∧ (Txt.split x "\n").length ≤ 12 ∧ ∀ H', Ext H H' → Q (.bl true) H'
theorem ok_back (T : Tx w K mg) : Dn P w K mg base CX0 7 "_law_back_right" ["text"] spBack := by
  obtain ⟨fd, F⟩ := T.f_law_back_right
  obtain ⟨fdE, FE, bE⟩ := ok_OrdEq (P := P) (base := base) T
  have nd := sc_law_back_right.nd
  refine ⟨_, fd, F.ok sc_law_back_right (fun vs H Q E h => ?_) (fun cdv A outer s H vs Q E hr h => ⟨_, (pss_cons
    (ps_set (i := 1) nd rfl (Or.inl rfl) (pe_dn ((ok_lread T).mono (by decide)) hr rfl pass0 (pa_cons (pv 0) pa_nil))) (pss_cons
    (ps_try_cls (l := [⟨.ref (He.ga K "BadText"), 3, fun a cls d => tRet (tOp (rEqD K) (tVar 1) (tTup (tCons (tC (.str "row")) (tCons (tXf a cls d (He.ga K "BadText") "row" (tVar 3)) tNil))))⟩,
        ⟨.ref (He.ga K "BadOrder"), 3, fun a cls d => tRet (tOp (rEqD K) (tVar 1) (tTup (tCons (tXf a cls d (He.ga K "BadOrder") "what" (tVar 3)) (tCons (tXf a cls d (He.ga K "BadOrder") "name" (tVar 3)) tNil))))⟩]) rfl rfl nd takes0
      (fun W pn xe tk _ => pss_one (ps_set (i := 2) nd rfl (Or.inl rfl) (pe_dnS ((ok_parse T)) hr rfl (fun σ => passAt tk σ) (pa_cons (pv 0) pa_nil))))
      (ClsOk.cons ⟨rfl, by decide, .inl T.g_BadText⟩ rfl rfl (fun a oe cls d pn hz hf => pss_one (ps_ret (pe_cmpR (op_eqD hr.units) (pv 1) (pe_tup (pa_cons pe_str (pa_cons (pe_xf T.xf_BadText (show PySem.W.findIn K (.ref (He.ga K "BadText")) "row" = some none from T.n_BadText_row) hz hf (pv 3)) pa_nil))) (nomark _))))
      (ClsOk.cons ⟨rfl, by decide, .inl T.g_BadOrder⟩ rfl rfl (fun a oe cls d pn hz hf => pss_one (ps_ret (pe_cmpR (op_eqD hr.units) (pv 1) (pe_tup (pa_cons (pe_xf T.xf_BadOrder (show PySem.W.findIn K (.ref (He.ga K "BadOrder")) "what" = some none from T.n_BadOrder_what) hz hf (pv 3)) (pa_cons
        (pe_xf T.xf_BadOrder (show PySem.W.findIn K (.ref (He.ga K "BadOrder")) "name" = some none from T.n_BadOrder_name) hz hf (pv 3)) pa_nil))) (nomark _)))) ClsOk.nil)))
    (pss_one (ps_ret (pe_and (pe_cmpR op_eq (pe_ix ix_tup (pv 1) pe_int (fun _ _ => rfl)) pe_str (nomark _)) (pe_and
      (pe_cmpR (op_eqG (rcG_ins FE T.m_Order_eq.at_ T.m_Order_eq.fn bE (E := E0) pass0) (hr.mono (by decide))) (pv 2) (pe_dn (ok_made T) hr rfl pass0 (pa_cons (pe_ix ix_tup (pv 1) pe_int (fun _ _ => rfl)) pa_nil)) (nomark _))
      (pe_one (pe_cmpR op_eq (pe_dn ((ok_text T).mono (by decide)) hr rfl pass0 (pa_cons (pv 2) pa_nil)) (pv 0) (nomark _))))))))), ?_⟩), T.g_law_back_right, F.kp, F.bindsN fun _ _ _ _ _ _ us hl => match us, hl with | [_], _ => rfl⟩
  · obtain ⟨x, rfl, _⟩ := h
    rfl
  · obtain ⟨x, rfl, hl, hn, h⟩ := h
    refine ⟨_, rfl, x, rfl, hl, hn, fun t H1 x1 hdue => ?_⟩
    refine ⟨_, rfl, .str x, rfl, .inl ⟨x, rfl, hl, hn, ?_⟩⟩
    cases q : rdText x with
    | bad k =>
      rw [q] at hdue
      intro d H2 x2 he
      obtain ⟨tt, he⟩ := he
      refine ⟨true, T.x_BadText_BadText, fun _ a ha => ?_, fun z => nomatch z⟩
      refine ⟨_, rfl, _, rfl, rfl, rfl, d, _, _, rfl, he, rfl, by show 2 ≤ sizeLine; decide, fun t2 ht2 => ?_⟩
      have y1 := x2.trans (Ext.upd (o := .tup [.str "row", .int (k : Int)]) ht2)
      refine ⟨.tuple [.str "row", .int k], .tuple [.str "row", .int k], .tup (SqT.ext hdue y1) (.cons (.str _) (.cons (.int _) .nil)), .tup (SqT.of upd_same) (.cons (.str _) (.cons (.int _) .nil)), sh_row _, sh_row _, ?_⟩
      rw [SeqAt.eqv_refl _ (SeqAt.canLay_of_shaped (sh_row _))]
      exact h _ (x1.trans y1)
    | ord wh nm =>
      rw [q] at hdue
      obtain ⟨o1, o2⟩ := ord_ok q
      intro d H2 x2 he
      obtain ⟨tt, he⟩ := he
      refine ⟨false, T.x_BadOrder_BadText, fun z => absurd z (by decide), fun _ => ?_⟩
      refine ⟨true, T.x_BadOrder_BadOrder, fun _ a ha => ?_, fun z => absurd z (by decide)⟩
      refine ⟨_, rfl, _, rfl, rfl, rfl, d, _, _, rfl, he, rfl, _, rfl, rfl, rfl, d, _, _, rfl, he, rfl, by show 2 ≤ sizeLine; decide, fun t2 ht2 => ?_⟩
      have y1 := x2.trans (Ext.upd (o := .tup [.str wh, .str nm]) ht2)
      refine ⟨.tuple [.str wh, .str nm], .tuple [.str wh, .str nm], .tup (SqT.ext hdue y1) (.cons (.str _) (.cons (.str _) .nil)), .tup (SqT.of upd_same) (.cons (.str _) (.cons (.str _) .nil)), sh_two o1 o2, sh_two o1 o2, ?_⟩
      rw [SeqAt.eqv_refl _ (SeqAt.canLay_of_shaped (sh_two o1 o2))]
      exact h _ (x1.trans y1)
    | ok evs =>
      rw [q] at hdue
      obtain ⟨l, ts, d1, d2, d3⟩ := hdue
      obtain ⟨m1, m2, m3, m4, m5⟩ := ok_of q
      intro a H2 x2 ho
      refine ⟨_, rfl, t, _, _, _, rfl, rfl, SqT.ext d1 x2, atI_nat (j := 0) rfl, rfl, true, rfl, ?_⟩
      refine iteT ?_
      refine ⟨_, rfl, _, rfl, t, _, _, _, rfl, rfl, SqT.ext d1 x2, atI_nat (j := 1) rfl, l, ts, evs, rfl, SqL.ext d2 x2, d3.ext x2, m3, by omega, m2, fun b H3 x3 hb => ?_⟩
      have ho3 := ho.ext x3
      obtain ⟨dx, tt, as, fs, k1, k2⟩ := id ho3
      obtain ⟨dy, tu, bs, gs, k3, k4⟩ := id hb
      refine ⟨⟨a, b, dx, dy, fs, gs, rfl, rfl, k1, k3, evs, ho3, hb⟩, fun H4 x4 => ⟨true, rfl, ?_⟩⟩
      refine iteT ?_
      refine ⟨_, rfl, a, evs, rfl, ho3.ext x4, m4, by omega, fun H5 x5 => ?_⟩
      refine ⟨_, rfl, rfl, ?_⟩
      rw [decide_eq_true (by rw [m1])]
      exact h H5 (x1.trans (x2.trans (Ext.trans x3 (Ext.trans x4 x5))))
end
end K00
set_option maxHeartbeats 1000000
namespace K00
open PySem PySem.Spec PyProof.Rows L2 Ax
theorem mem_app {c : Nat} {a b : Str} (h : c ∈ (a ++ b).cps.toList) : c ∈ a.cps.toList ∨ c ∈ b.cps.toList := by
  have e : (a ++ b).cps.toList = a.cps.toList ++ b.cps.toList := by
    show (a.cps ++ b.cps).toList = _
    rw [Array.toList_append]
  rw [e] at h
  exact List.mem_append.mp h
theorem mem_join {c : Nat} {sep : Str} : ∀ {parts : List Str}, c ∈ (Str.join sep parts).cps.toList → c ∈ sep.cps.toList ∨ ∃ p ∈ parts, c ∈ p.cps.toList
  | [], h => by simp [Str.join, Str.empty] at h
  | [p], h => .inr ⟨p, List.mem_singleton.mpr rfl, h⟩
  | p :: q :: r, h => by
    have h' : c ∈ (p ++ sep ++ Str.join sep (q :: r)).cps.toList := h
    rcases mem_app h' with h1 | h1
    · rcases mem_app h1 with h2 | h2
      · exact .inr ⟨p, List.mem_cons_self, h2⟩
      · exact .inl h2
    · rcases mem_join h1 with h2 | ⟨z, hz, h2⟩
      · exact .inl h2
      · exact .inr ⟨z, List.mem_cons_of_mem _ hz, h2⟩
abbrev Pure (x : Str) : Prop := ∀ c ∈ x.cps.toList, c ≠ 10 ∧ c ≠ 32
theorem pure_nm {x : Str} (h : isNm x = true) : Pure x := fun c hc => (sig_small c (isNm_sig h c hc)).2
theorem pure_num {i : Int} (h1 : 1 ≤ i) (h2 : i ≤ 5) : Pure (numT i) := by
  rcases five h1 h2 with q | q | q | q | q <;> subst q <;> decide +kernel
theorem num5 {i : Int} (h1 : 1 ≤ i) (h2 : i ≤ 5) : numT i ∈ L5 ∧ fig (numT i) = some i := by
  rcases five h1 h2 with q | q | q | q | q <;> subst q <;> decide +kernel
theorem pure_words {e : Ev} (g : Good e) (hn : ∀ x ∈ e.needs, isNm x = true) : ∀ p ∈ e.kind :: e.name :: numT e.fin :: e.needs, Pure p := by
  intro p hp
  simp only [List.mem_cons] at hp
  rcases hp with rfl | rfl | rfl | hp
  · rcases g.kd with q | q <;> rw [q] <;> decide +kernel
  · exact pure_nm g.nm
  · exact pure_num g.lo g.hi
  · exact pure_nm (hn p hp)
theorem row_back {e : Ev} (g : Good e) (hn : ∀ x ∈ e.needs, isNm x = true) : Txt.split (rowT e) " " = e.kind :: e.name :: numT e.fin :: e.needs := by
  unfold rowT
  refine TL.split_join (s := 32) (S := []) (by decide +kernel) (by decide +kernel) (by simp) ?_
  intro p hp hc
  exact (pure_words g hn p hp 32 hc).2 rfl
theorem row_of {e : Ev} (g : Good e) (hn : ∀ x ∈ e.needs, isNm x = true) : rowOf (Txt.split (rowT e) " ") = some e := by
  rw [row_back g hn, rowOf_law, if_pos ⟨g.kd, (num5 g.lo g.hi).1, g.nm, List.all_eq_true.mpr hn⟩, (num5 g.lo g.hi).2]
  rfl
theorem row_lf {e : Ev} (g : Good e) (hn : ∀ x ∈ e.needs, isNm x = true) : (10 : Nat) ∉ (rowT e).cps.toList := by
  intro h
  unfold rowT at h
  rw [txt_join] at h
  rcases mem_join h with h | ⟨p, hp, h⟩
  · exact absurd h (by decide)
  · exact (pure_words g hn p hp 10 h).1 rfl
theorem rd_rows : ∀ (evs : List Ev) (k : Nat), (∀ e ∈ evs, Good e) → (∀ e ∈ evs, ∀ x ∈ e.needs, isNm x = true) → rdRows (evs.map rowT) k = .inr evs
  | [], k, _, _ => rfl
  | e :: evs, k, hg, hn => by
    show rdRows (rowT e :: evs.map rowT) k = _
    rw [rdRows_cons, row_of (hg e List.mem_cons_self) (hn e List.mem_cons_self)]
    dsimp only
    rw [rd_rows evs (k + 1) (fun f hf => hg f (List.mem_cons_of_mem _ hf)) (fun f hf => hn f (List.mem_cons_of_mem _ hf))]
    rfl
theorem text_split {evs : List Ev} (r : Right evs) (hne : evs ≠ []) : Txt.split (textT evs) "\n" = evs.map rowT := by
  unfold textT
  refine TL.split_join (s := 10) (S := []) (by decide +kernel) (by decide +kernel) (by simpa using hne) ?_
  intro p hp hc
  obtain ⟨e, he, rfl⟩ := List.mem_map.mp hp
  exact row_lf (r.gd e he) (r.nm e he) hc
theorem text_ne {evs : List Ev} (r : Right evs) (hne : evs ≠ []) : textT evs ≠ "" := by
  intro h
  have h1 := text_split r hne
  rw [h] at h1
  have h2 : Txt.split "" "\n" = ([""] : List Str) := by decide +kernel
  rw [h2] at h1
  cases evs with
  | nil => exact hne rfl
  | cons e es =>
    have h3 : rowT e = "" := (List.cons.inj h1).1.symm
    have h4 := row_back (r.gd e List.mem_cons_self) (r.nm e List.mem_cons_self)
    rw [h3] at h4
    have h5 : Txt.split "" " " = ([""] : List Str) := by decide +kernel
    rw [h5] at h4
    have h6 := congrArg List.length h4
    simp at h6
theorem right_text {evs : List Ev} (r : Right evs) : rdText (textT evs) = .ok evs := by
  by_cases hne : evs = []
  · subst hne
    have e : textT [] = "" := by
      show Txt.join "\n" [] = _
      rw [txt_join]
      rfl
    rw [e]
    rfl
  · unfold rdText
    rw [if_neg (text_ne r hne), text_split r hne, rd_rows evs 0 r.gd r.nm]
    dsimp only
    rw [r.ord]
theorem cnt_eq (c : Nat) : ∀ l : List Nat, cnt c l = (l.count c : Nat)
  | [] => rfl
  | n :: r => by
    rw [cnt_cons, cnt_eq c r, List.count_cons]
    by_cases h : n = c
    · rw [if_pos h, if_pos (by simpa using h)]
      omega
    · rw [if_neg h, if_neg (by simpa using h)]
      omega
theorem split_nl (x : Str) : (Txt.split x "\n").length = nl x + 1 := by
  have h := split_len x 10
  have e : ("\n" : Str) = ⟨#[10]⟩ := lfS
  rw [e]
  rw [cnt_eq] at h
  unfold nl
  omega
theorem text_nl {evs : List Ev} (r : Right evs) : nl (textT evs) ≤ 7 := by
  by_cases hne : evs = []
  · subst hne
    have e : textT [] = "" := by
      show Txt.join "\n" [] = _
      rw [txt_join]
      rfl
    rw [e]
    decide
  · have h1 := split_nl (textT evs)
    rw [text_split r hne, List.length_map] at h1
    have := r.len
    omega
theorem text_len {evs : List Ev} (r : Right evs) : (textT evs).length ≤ 400 := by
  have h := StrLaws.join_length_le ("\n" : Str) (evs.map rowT)
  have h7 := sum_le 47 (evs.map rowT) (fun y hy => by
    obtain ⟨e, he, rfl⟩ := List.mem_map.mp hy
    exact rowT_len (r.fn e he))
  have h8 : ("\n" : Str).length = 1 := by decide
  have h9 := r.len
  rw [List.length_map] at h h7
  rw [h8] at h
  unfold textT
  rw [txt_join]
  omega
end K00
set_option maxHeartbeats 1000000
namespace K00
open PySem PySem.Spec PyProof.Rows L2 Ax
open PySem.PyData (strOk)
def evD (e : Ev) : PyData := .tuple [.str e.name, .int e.fin, .str e.kind, .list (e.needs.map .str)]
theorem lay_strs : ∀ ys : List Str, (∀ y ∈ ys, strOk y = true) → PyData.canLayAll0 (ys.map PyData.str) = true
  | [], _ => by simp [PyData.canLayAll0]
  | y :: ys, h => by
    have h1 := lay_strs ys fun z hz => h z (List.mem_cons_of_mem _ hz)
    have h2 := h y List.mem_cons_self
    simp [PyData.canLayAll0, PyData.canLay0, h1, h2]
theorem lay_ev {e : Ev} (g : Good e) (hn : ∀ x ∈ e.needs, isNm x = true) : PyData.canLay0 (evD e) = true ∧ PyData.depth (evD e) ≤ 3 := by
  have h1 := lay_strs e.needs fun y hy => isNm_ok (hn y hy)
  have h2 := isNm_ok g.nm
  have h3 : strOk e.kind = true := by rcases g.kd with q | q <;> rw [q] <;> decide +kernel
  have h4 := depth_strs e.needs
  constructor
  · simp [evD, PyData.canLay0, PyData.canLayAll0, h1, h2, h3]
  · simp [evD, PyData.depth, PyData.depthAll, h4]
theorem lay_evs : ∀ evs : List Ev, (∀ e ∈ evs, Good e) → (∀ e ∈ evs, ∀ x ∈ e.needs, isNm x = true) → PyData.canLayAll0 (evs.map evD) = true ∧ PyData.depthAll (evs.map evD) ≤ 3
  | [], _, _ => by simp [PyData.canLayAll0, PyData.depthAll]
  | e :: evs, hg, hn => by
    obtain ⟨h1, h2⟩ := lay_evs evs (fun f hf => hg f (List.mem_cons_of_mem _ hf)) (fun f hf => hn f (List.mem_cons_of_mem _ hf))
    obtain ⟨h3, h4⟩ := lay_ev (hg e List.mem_cons_self) (hn e List.mem_cons_self)
    constructor
    · simp [PyData.canLayAll0, h1, h3]
    · simp only [List.map_cons, PyData.depthAll]
      omega
theorem sh_evs {evs : List Ev} (hg : ∀ e ∈ evs, Good e) (hn : ∀ e ∈ evs, ∀ x ∈ e.needs, isNm x = true) : SeqAt.shaped (.list (evs.map evD)) = true := by
  obtain ⟨h1, h2⟩ := lay_evs evs hg hn
  unfold SeqAt.shaped
  rw [Bool.and_eq_true]
  constructor
  · simpa [PyData.canLay0] using h1
  · refine decide_eq_true ?_
    simp only [PyData.depth]
    omega
theorem TsD.dp {K : PySem.W.Frag} {H : Hp} : ∀ {ts : List Addr} {evs : List Ev}, TsD K H ts evs → DpAll K H (ts.map V.ref) (evs.map evD)
  | [], [], _ => .nil
  | [], e :: evs, h => by cases h.1
  | t :: ts, [], h => by cases h.1
  | t :: ts, e :: evs, h => by
    obtain ⟨q, h1, h2⟩ := h.2 0 t e rfl rfl
    refine .cons (.tup h1 (.cons (.str _) (.cons (.int _) (.cons (.str _) (.cons (.lst h2 (dpAll_strs _)) .nil))))) (TsD.dp ⟨Nat.succ.inj h.1, fun i t1 e1 q1 q2 => h.2 (i + 1) t1 e1 q1 q2⟩)
section
variable {P : Program} {w : World} {K : PySem.W.Frag} {mg : Str → Option Value} {base : Heap}
def spLaw (K : PySem.W.Frag) : Sp := fun vs H Q _ => ∃ (a : Addr) (ns : List Int), vs = [.ref a] ∧ SqL K H a (ns.map V.int) ∧ ns.length ≤ 63 ∧ ∀ H', Q (.bl true) H'
def rListOf (K : PySem.W.Frag) : List V → Hp → VK → Prop := fun xs H Q => ∃ p ys, xs = [.ref p] ∧ (SqL K H p ys ∨ SqT K H p ys) ∧ ∀ l, H l = none → Q (.ref l) (upd H l (.lst ys))
theorem ok_law (T : Tx w K mg) {fd : FuncData} (F : FunD K "law" "law" (defArgs s_law) (defBody s_law) (defScope s_law) (d_law.dvs K) [] (He.fAd K d_law.at_) fd) : FnOk P w K mg base CX0 8 (He.fAd K d_law.at_) fd ["script"] (spLaw K) := by
  obtain ⟨fdE, FE, bE⟩ := ok_OrdEq (P := P) (base := base) T
  have nd := sc_law.nd
  refine F.ok sc_law (fun vs H Q E h => ?_) (fun cdv A outer s H vs Q E hr h => ⟨_, PSs.nox (pss_cons
    (ps_set (i := 1) nd rfl (Or.inl rfl) (pe_dn ((ok_bag T).mono (by decide)) hr rfl pass0 (pa_cons (pv 0) pa_nil))) (pss_cons
    (ps_if (pt_not (pt_val (pe_dn (ok_no T) hr rfl pass0 (pa_cons (pe_ix ix_list (pe_lst (pa_cons pe_non (pa_cons pe_int (pa_cons (pe_lst (pa_cons pe_str pa_nil)) (pa_cons (pe_tup (pa_cons pe_str pa_nil)) (pa_cons pe_bl pa_nil))))))
      (pe_dn ((ok_draw T).mono (by decide)) hr rfl pass0 (pa_cons (pv 1) (pa_cons pe_int pa_nil))) (fun _ _ => rfl)) pa_nil)))) (pss_one (ps_ret pe_bl)) pss_nil) (pss_cons
    (ps_set (i := 2) nd rfl (Or.inl rfl) (pe_dn ((ok_evs T).mono (by decide)) hr rfl pass0 (pa_cons (pv 1) pa_nil))) (pss_cons
    (ps_set (i := 3) nd rfl (Or.inl rfl) (pe_dn ((ok_made T).mono (by decide)) hr rfl pass0 (pa_cons (pv 2) pa_nil))) (pss_cons
    (ps_set (i := 4) nd rfl (Or.inl rfl) (pe_dn ((ok_text T).mono (by decide)) hr rfl pass0 (pa_cons (pv 3) pa_nil))) (pss_cons
    (ps_if (PW.pt (pw_or (pt_cmpR op_ne (pv 4) (pe_dn ((ok_ltext T).mono (by decide)) hr rfl pass0 (pa_cons (pv 2) pa_nil)) (nomark _)) (pw_or
      (pt_cmpR (op_ownNe (E := E0) FE bE pass0 (hr.mono (by decide)) (eqc_of T.ne_Order T.m_Order_eq)) (pe_dn (E := fun _ _ _ => False) ((ok_parse T).mono (by decide)) hr rfl passF (pa_cons (pv 4) pa_nil)) (pv 3) (nomark _)) (pw_or1
      (pt_not (pt_cmpR (op_eqG (rcG_ins FE T.m_Order_eq.at_ T.m_Order_eq.fn bE (E := E0) pass0) (hr.mono (by decide))) (pe_dn (E := fun _ _ _ => False) ((ok_parse T).mono (by decide)) hr rfl passF (pa_cons (pv 4) pa_nil)) (pv 3) (nomark _)))))))
      (pss_one (ps_ret pe_bl)) pss_nil) (pss_cons
    (ps_if (pt_cmpR (op_neD hr.units) (pe_lc (own := [("event", 7)]) (g := gName 7) (tt := tYes) (te := tTup (tCons (tFld K (tVar 7) "name") (tCons (tFld K (tVar 7) "end") (tCons (tFld K (tVar 7) "kind") (tCons (tCB (rListOf K) (tCons (tFld K (tVar 7) "needs") tNil)) tNil))))) (by rfl) nd
        (pi_own (pe_dn (E := fun _ _ _ => False) ((ok_parse T).mono (by decide)) hr rfl passF (pa_cons (pv 4) pa_nil)) (ok_iter T) (hr.mono (by decide))) (blkOk_by (own := [("event", 7)]) (N := n_law) (sc := defScope s_law) (by decide +kernel))
        (fun _ _ _ _ _ => pg_name (i := 7) nd rfl (Or.inl rfl)) (fun _ _ _ _ _ => pts_nil)
        (fun _ _ _ _ _ => pe_tup (pa_cons (pe_fld (pv 7) rfl) (pa_cons (pe_fld (pv 7) rfl) (pa_cons (pe_fld (pv 7) rfl) (pa_cons (pe_callTy call_list_of rfl T.b_list (by decide +kernel) (pa_cons (pe_fld (pv 7) rfl) pa_nil)) pa_nil)))))) (pv 2) (nomark _))
      (pss_one (ps_ret pe_bl)) pss_nil) (pss_cons
    (ps_for PassesOwn.never rfl (pi_range1 rfl T.b_range (pa_cons pe_int pa_nil)) (pg_name (i := 5) nd rfl (Or.inl rfl)) (pss_cons
      (ps_set (i := 6) nd rfl (Or.inl rfl) (pe_dn ((ok_spoil T).mono (by decide)) hr rfl pass0 (pa_cons (pv 1) (pa_cons (pv 4) pa_nil)))) (pss_cons
      (ps_if (pt_not (pt_val (pe_dn (ok_back T) hr rfl pass0 (pa_cons (pv 6) pa_nil)))) (pss_one (ps_ret pe_bl)) pss_nil)
      (pss_one (ps_if (PW.pt (pw_and (pt_cmpR op_eq (pe_dn ((ok_draw T).mono (by decide)) hr rfl pass0 (pa_cons (pv 1) (pa_cons pe_int pa_nil))) pe_int (nomark _)) (pw_and1
        (pt_not (pt_val (pe_dn (ok_back T) hr rfl pass0 (pa_cons (pe_dn ((ok_spoil T).mono (by decide)) hr rfl pass0 (pa_cons (pv 1) (pa_cons (pv 6) pa_nil))) pa_nil))))))) (pss_one (ps_ret pe_bl)) pss_nil)))))
    (pss_one (ps_ret pe_bl)))))))))), ?_⟩)
  · obtain ⟨a, ns, rfl, _⟩ := h
    rfl
  · obtain ⟨sa, ns, rfl, hs, hn, h⟩ := h
    refine ⟨_, rfl, sa, ns, rfl, hs, hn, fun b c ms H1 x1 hb0 hB => ?_⟩
    refine ⟨by show 1 ≤ sizeLine; decide, fun l1 hl1 => ?_⟩
    have y1 : Ext H1 (upd H1 l1 (.lst [.str "query a 1"])) := Ext.upd hl1
    refine ⟨by show 1 ≤ sizeLine; decide, fun t1 ht1 => ?_⟩
    have y2 := y1.trans (Ext.upd (o := .tup [.str "query a 1"]) ht1)
    refine ⟨by show 5 ≤ sizeLine; decide, fun L hL => ?_⟩
    have y3 := y2.trans (Ext.upd (o := .lst [.non, .int 7, .ref l1, .ref t1, .bl true]) hL)
    obtain ⟨_, _, hb1, hc1, _⟩ := id hB
    have hl1b : l1 ≠ b := (ne_of_none hb1 hl1).symm
    have ht1b : t1 ≠ b := (ne_of_none (y1 _ _ hb1) ht1).symm
    have hLb : L ≠ b := (ne_of_none (y2 _ _ hb1) hL).symm
    have hl1t : l1 ≠ t1 := ne_of_none upd_same ht1
    have k1 : (upd (upd (upd H1 l1 (.lst [.str "query a 1"])) t1 (.tup [.str "query a 1"])) L (.lst [.non, .int 7, .ref l1, .ref t1, .bl true])) l1 = some (.lst [.str "query a 1"]) := Ext.upd hL _ _ ((upd_ne hl1t).trans upd_same)
    have k2 : (upd (upd (upd H1 l1 (.lst [.str "query a 1"])) t1 (.tup [.str "query a 1"])) L (.lst [.non, .int 7, .ref l1, .ref t1, .bl true])) t1 = some (.tup [.str "query a 1"]) := Ext.upd hL _ _ upd_same
    have k3 : (upd (upd (upd H1 l1 (.lst [.str "query a 1"])) t1 (.tup [.str "query a 1"])) L (.lst [.non, .int 7, .ref l1, .ref t1, .bl true])) L = some (.lst [.non, .int 7, .ref l1, .ref t1, .bl true]) := upd_same
    generalize (upd (upd (upd H1 l1 (.lst [.str "query a 1"])) t1 (.tup [.str "query a 1"])) L (.lst [.non, .int 7, .ref l1, .ref t1, .bl true])) = H2 at y3 k1 k2 k3 ⊢
    refine ⟨_, rfl, b, c, ms, 0, 5, rfl, hB.ext y3, by decide, by decide, by decide, fun d H3 hd0 hd1 o3 hB3 => ?_⟩
    obtain ⟨d, rfl⟩ : ∃ j : Nat, d = (j : Int) := ⟨d.toNat, by omega⟩
    have hL3 := o3 _ _ hLb k3
    obtain ⟨v, hv, dd, tt, g1, g2, g3, g4, g5⟩ : ∃ v, ([.non, .int 7, .ref l1, .ref t1, .bl true] : List V)[d]? = some v ∧ ∃ (dd : PyData) (tt : String), Dp K H3 v dd ∧ SeqAt.shaped dd = true ∧ PyData.eqv dd (.str "") = false ∧ TyX K H3 v (.type tt) ∧ kitB tt "str" = some false := by
      have : d = 0 ∨ d = 1 ∨ d = 2 ∨ d = 3 ∨ d = 4 := by omega
      rcases this with z | z | z | z | z <;> subst z
      · exact ⟨_, rfl, .none, "NoneType", .non, by decide +kernel, by decide +kernel, .base .non, by decide +kernel⟩
      · exact ⟨_, rfl, .int 7, "int", .int 7, by decide +kernel, by decide +kernel, .base (.int 7), by decide +kernel⟩
      · exact ⟨_, rfl, .list [.str "query a 1"], "list", .lst (SqL.of (o3 _ _ hl1b k1)) (.cons (.str _) .nil), by decide +kernel, by decide +kernel, .base (.lst (o3 _ _ hl1b k1)), by decide +kernel⟩
      · exact ⟨_, rfl, .tuple [.str "query a 1"], "tuple", .tup (SqT.of (o3 _ _ ht1b k2)) (.cons (.str _) .nil), by decide +kernel, by decide +kernel, .base (.tup (o3 _ _ ht1b k2)), by decide +kernel⟩
      · exact ⟨_, rfl, .bool true, "bool", .bl true, by decide +kernel, by decide +kernel, .base (.bl true), by decide +kernel⟩
    refine ⟨L, _, _, v, rfl, rfl, SqL.of hL3, atI_nat hv, v, dd, tt, rfl, g1, g2, g3, g4, g5, fun H4 x4 => ⟨_, rfl, ?_⟩⟩
    refine iteF ?_
    refine ⟨_, rfl, b, c, ms, _, rfl, hB3.ext x4, by decide, fun l ts evs H5 hlb hlc o5 hl5 hT5 hR hB5 => ?_⟩
    refine ⟨_, rfl, l, ts, evs, rfl, SqL.of hl5, (hT5.ext ext_del).ext ext_del, hR.gd, by have := hR.len; omega, hR.ord, fun a H6 x6 ho6 => ?_⟩
    refine ⟨_, rfl, a, evs, rfl, ho6, hR.fn, by have := hR.len; omega, fun H7 x7 => ?_⟩
    have z7 := x6.trans x7
    have hpl : (textT evs).length + 2 ≤ sizeLine := by
      have h1 := text_len hR
      have h2 : 1000 ≤ sizeLine := by decide
      omega
    have hps : (Txt.split (textT evs) "\n").length ≤ 12 := by
      rw [split_nl]
      have := text_nl hR
      omega
    have hrt := right_text hR
    refine ⟨_, rfl, _, rfl, l, ts, evs, rfl, SqL.of (z7 _ _ hl5), ((hT5.ext ext_del).ext ext_del).ext z7, hR.fn, by have := hR.len; omega, fun H8 x8 => ?_⟩
    refine ⟨rfl, _, rfl, ?_⟩
    refine iteFd' (by rw [decide_eq_true rfl]; rfl) ?_
    refine ⟨_, rfl, .str (textT evs), rfl, .inl ⟨textT evs, rfl, hpl, hps, ?_⟩⟩
    rw [hrt]
    intro a9 H9 x9 ho9
    have z9 := x7.trans (x8.trans x9)
    obtain ⟨dx, t9, as9, fs9, q1, q2⟩ := id ho9
    obtain ⟨dy, u9, bs9, gs9, q3, q4⟩ := id (ho6.ext z9)
    refine ⟨_, rfl, a9, a, _, dx, dy, fs9, gs9, rfl, rfl, q1, q3, by simp [PySem.W.notFirst], a9, a, rfl, ⟨evs, ho9, ho6.ext z9⟩, fun H10 x10 => ⟨true, rfl, _, rfl, ?_⟩⟩
    refine iteF ?_
    refine ⟨_, rfl, .str (textT evs), rfl, .inl ⟨textT evs, rfl, hpl, hps, ?_⟩⟩
    rw [hrt]
    intro a11 H11 x11 ho11
    have z11 := z9.trans (Ext.trans x10 x11)
    obtain ⟨dx1, t11, as11, fs11, q5, q6⟩ := id ho11
    obtain ⟨dy1, u11, bs11, gs11, q7, q8⟩ := id (ho6.ext z11)
    refine ⟨_, rfl, ⟨a11, a, dx1, dy1, fs11, gs11, rfl, rfl, q5, q7, evs, ho11, ho6.ext z11⟩, fun H12 x12 => ⟨_, rfl, ?_⟩⟩
    refine iteF ?_
    refine ⟨_, rfl, .str (textT evs), rfl, .inl ⟨textT evs, rfl, hpl, hps, ?_⟩⟩
    rw [hrt]
    intro a13 H13 x13 ho13
    have z13 := z11.trans (Ext.trans x12 x13)
    obtain ⟨dx2, t13, as13, fs13, q9, q10, q11, q12⟩ := ho13
    refine ⟨a13, dx2, t13, fs13, rfl, q9, q10, ⟨_, q11⟩, fun D hD => ?_⟩
    have he8 := hR.len
    refine lc_acc (walk_tup (K := K) (xs := as13.map V.ref)) hD (fun i acc B => Ext H13 B ∧ ∃ ts', acc = ts'.map V.ref ∧ TsD K B ts' (evs.take i)) ⟨Ext.rfl', [], rfl, TsD.nil⟩ (fun i acc H14 _ _ z => q11.ext fun o u ho => ext_del _ _ (z.1 o u ho)) ?_ ?_
    · rintro i y H14 H15 acc hi hacc hl2 ⟨xB, ts', ea, hA⟩ ⟨eH, hy⟩
      subst eH
      rw [List.getElem?_map] at hy
      rw [List.length_map] at hi
      cases qa : as13[i]? with
      | none => rw [qa] at hy; cases hy
      | some ai =>
        rw [qa] at hy
        cases Option.some.inj hy
        have hi2 : i < evs.length := by rw [← q12.1]; exact hi
        have qe : evs[i]? = some evs[i] := List.getElem?_eq_getElem hi2
        have htk : evs.take (i + 1) = evs.take i ++ [evs[i]] := by rw [List.take_add_one, qe]; rfl
        have hfi := hR.fn _ (List.getElem_mem hi2)
        generalize evs[i] = e at qe htk hfi
        have w14 : Ext H13 H15 := fun o u ho => ext_del _ _ (xB o u ho)
        obtain ⟨d1, tn, fs, p1, p2, p3, p4, p5, p6⟩ := (q12.2 i ai e qa qe).ext w14
        have f1 := T.c_Event
        refine ⟨rfl, ?_⟩
        refine yes_go (iteT ?_)
        refine ⟨_, rfl, ai, _, d1, fs, _, rfl, p1, f1, T.n_Event_name, p2, _, rfl, ai, _, d1, fs, _, rfl, p1, f1, T.n_Event_end, p3, _, rfl, ai, _, d1, fs, _, rfl, p1, f1, T.n_Event_kind, p4, _, rfl, ai, _, d1, fs, _, rfl, p1, f1, T.n_Event_needs, p5, tn, _, rfl, .inr p6.sq, fun q hq => ?_⟩
        refine ⟨by show 4 ≤ sizeLine; decide, fun t ht => ?_⟩
        have v1 : Ext H15 (upd H15 q (.lst (e.needs.map V.str))) := Ext.upd hq
        have v2 := v1.trans (Ext.upd (o := .tup [.str e.name, .int e.fin, .str e.kind, .ref q]) ht)
        have hqt : q ≠ t := ne_of_none upd_same ht
        have hDq : D ≠ q := ne_of_none hacc hq
        have hDt : D ≠ t := ne_of_none (v1 _ _ hacc) ht
        refine acc_add (v2 _ _ hacc) hl2 (small (by omega)) ⟨fun o u ho => ext_delD v2 _ _ (xB o u ho), ts' ++ [t], ?_, ?_⟩
        · rw [ea, List.map_append]
          rfl
        · rw [htk]
          refine (hA.ext (ext_delD v2)).snoc ⟨q, SqT.of ?_, SqL.of ?_⟩
          · rw [del_ne hDt.symm]
            exact upd_same
          · rw [del_ne hDq.symm, upd_ne hqt]
            exact upd_same
    · rintro H14 acc hacc hl2 ⟨xB, ts', ea, hA⟩
      have w14 : Ext H13 H14 := fun o u ho => ext_del _ _ (xB o u ho)
      have w6 : Ext H6 H14 := z13.trans w14
      have w5 : Ext H5 H14 := x6.trans w6
      rw [List.length_map, q12.1, List.take_of_length_le (Nat.le_refl _)] at hA
      rw [ea] at hacc
      have sh := sh_evs hR.gd hR.nm
      refine ⟨_, rfl, .list (evs.map evD), .list (evs.map evD), .lst (SqL.of hacc) (TsD.dp (hA.ext ext_del)), .lst (SqL.of (w5 _ _ hl5)) (TsD.dp (((hT5.ext ext_del).ext ext_del).ext w5)), sh, sh, _, rfl, ?_⟩
      refine iteFd' (by rw [SeqAt.eqv_refl _ (SeqAt.canLay_of_shaped sh)]; rfl) ?_
      have hB14 : BagAt H14 b c ms 61 := hB5.ext w5
      refine ⟨6, rfl, by decide, by decide, ?_⟩
      refine for_range (lo := 0) (n := (6 : Int).toNat) (fun i σ H' => ∃ (s5 s6 : Option V), σ = [some (.ref sa), some (.ref b), some (.ref l), some (.ref a), some (.str (textT evs)), s5, s6, none] ∧ BagAt H' b c ms (61 + 10 * i))
        ⟨none, none, rfl, hB14⟩ ?_ ?_
      · rintro i σ H15 hi ⟨s5, s6, rfl, hB15⟩
        have hi6 : i < 6 := hi
        have htl := text_len hR
        have htn := text_nl hR
        have hsz : 1000 ≤ sizeLine := by decide
        refine ⟨_, rfl, _, rfl, b, c, ms, _, textT evs, rfl, hB15, by omega, by omega, fun y H16 o16 hB16 g1 g2 => ?_⟩
        refine ⟨_, rfl, y, rfl, by omega, by rw [split_nl]; omega, fun H17 x17 => ⟨_, rfl, ?_⟩⟩
        refine iteF ?_
        refine ⟨_, rfl, b, c, ms, _, 3, rfl, hB16.ext x17, by omega, by decide, by decide, fun d3 H18 hd30 hd31 o18 hB18 => ?_⟩
        refine ⟨rfl, _, rfl, ?_⟩
        by_cases c0 : V.int d3 = V.int 0
        · refine iteTd (decide_eq_true c0) ?_
          refine ⟨_, rfl, _, rfl, b, c, ms, _, y, rfl, hB18, by omega, by omega, fun y2 H19 o19 hB19 g3 g4 => ?_⟩
          refine ⟨y2, rfl, by omega, by rw [split_nl]; omega, fun H20 x20 => ⟨_, rfl, ?_⟩⟩
          refine iteF ?_
          exact ⟨_, _, rfl, (hB19.ext x20).mono (by omega)⟩
        · refine iteFd c0 ?_
          refine iteF ?_
          exact ⟨_, _, rfl, hB18.mono (by omega)⟩
      · rintro σ H15 ⟨s5, s6, rfl, hB15⟩
        exact h H15
end
end K00
set_option maxHeartbeats 0
namespace K00
open PySem PySem.Spec PyProof.Rows L2
abbrev R : PySem.W.OpenRow := PySem.W.OpenLaw.row PySem.Challenge.rw_askedtrue_k00_texts_of_orders_and_back
abbrev hk : PySem.W.Hook := Ax.hookY 5 fa fn exA
def ob (s : PySem.W.SharedT) : Ax.AlY := Ax.obsY 5 fa fn exA (HandSHeadRun.getT s)
theorem ob_eq (s : PySem.W.SharedT) : ob s = hk.obs s.abs := Ax.obsY_eq (HandSHeadRun.getT_eq s)
def loose : List Str := [("_wall" : Str), ("__name__" : Str), ("AskedError" : Str), ("BadOrder" : Str), ("BadText" : Str), ("LETTERS" : Str), ("SIGNS" : Str), ("KINDS" : Str), ("LONGEST_NAME" : Str), ("MOST_EVENTS" : Str), ("MOST_NEEDS" : Str), ("LAST_END" : Str), ("is_whole" : Str), ("is_between" : Str), ("is_name" : Str), ("Event" : Str), ("Order" : Str), ("event_fault" : Str), ("are_needs" : Str), ("FIGURES" : Str), ("rows_of" : Str), ("words_of" : Str), ("read_figure" : Str), ("order_text" : Str), ("event_row" : Str), ("parse_order" : Str), ("read_events" : Str), ("read_event" : Str), ("_law_bag" : Str), ("_law_draw" : Str), ("_law_names" : Str), ("_law_drawn_events" : Str), ("_law_text" : Str), ("_law_is_name" : Str), ("_law_read" : Str), ("_law_spoiled" : Str), ("_law_made" : Str), ("_law_back_right" : Str), ("_law_no_text" : Str)]
theorem run (w : World) : HandSHeadRun.RunEq R (PySem.W.view R.prog [43]) hk ob 3000 loose w := by
  intro os
  kernel_rfl
end K00
set_option maxHeartbeats 0
namespace K00
open PySem PySem.Spec PyProof.Rows L2 Ax
theorem facts {P : Program} {w : World} {K : PySem.W.Frag} {h : Heap} {mg : Str → Option Value} {f : Addr} (X : K.In h) (G : h.Ns mainGlobals mg) (hfa : mg ("law" : Str) = some (.ref f)) (c : Ax.SaysY fa fn exA K) :
    ∃ fd : FuncData, (∀ (s : Shared) (v : Value), BindsTo s fd ⟨[v], []⟩ [("script", v)]) ∧ ∀ base : Heap, K.In base → base.Ns mainGlobals mg → FnOk P w K mg base CX0 8 f fd ["script"] (spLaw K) := by
  have T : Tx w K mg := ⟨h, X, G, c⟩
  have e := hfa.symm.trans T.g_law
  cases e
  obtain ⟨fd, F⟩ := T.f_law
  have b := FunD.bindsA (ps := ["script"]) F fun _ _ _ _ _ _ us hl => match us, hl with | [_], _ => rfl
  exact ⟨fd, fun s v => b s [v] rfl, fun base _ _ => ok_law T F⟩
end K00
open PySem PySem.W PySem.Calls PyProof.Rows
theorem PySem.Challenge.cw_askedtrue_k00_texts_of_orders_and_back_holds : PySem.Challenge.rw_askedtrue_k00_texts_of_orders_and_back.Holds := by
  w_on; o_law
  refine HandSHeadRun.head_any (r := OpenLaw.row PySem.Challenge.rw_askedtrue_k00_texts_of_orders_and_back) (q := view (OpenLaw.row PySem.Challenge.rw_askedtrue_k00_texts_of_orders_and_back).prog [43]) (H := K00.hk) (ob := K00.ob) (M := 3000) (loose := K00.loose) (d := HandSHeadRun.topDef (OpenLaw.row PySem.Challenge.rw_askedtrue_k00_texts_of_orders_and_back).prog 43) (kwd := []) K00.ob_eq
    (by kernel_rfl) (fun s => by kernel_rfl) K00.run (by kernel_rfl) (by kernel_rfl) (by kernel_rfl) (by rfl) (by first | assumption | decide +kernel) (by decide +kernel) ⟨rfl, rfl, rfl, rfl, rfl, by decide +kernel⟩ ?hw ?hc
  case hw => w_witness2
  case hc =>
    refine L2.walk_ofE (l := PySem.Challenge.rw_askedtrue_k00_texts_of_orders_and_back) (n := 63) (k := 8) (x := "script") (CX := L2.CX0) rfl (by decide) (by kernel_rfl) ⟨rfl, by decide, by decide⟩ ?F (fun _ _ _ _ z => z)
    intro w mg fa h Y G hmg0
    obtain ⟨K, KX, c⟩ := Y
    have hmg : mg ("law" : PySem.Str) = some (.ref fa) := by
      have e : (HandSHeadRun.topDef (OpenLaw.row PySem.Challenge.rw_askedtrue_k00_texts_of_orders_and_back).prog 43).name = ("law" : PySem.Str) := by kernel_rfl
      rw [← e]
      exact hmg0
    obtain ⟨fd, hb, hF⟩ := K00.facts (P := (PySem.Challenge.rw_askedtrue_k00_texts_of_orders_and_back).prog) (w := w) KX G hmg c
    exact ⟨K, fd, K00.spLaw K, KX, hb, fun H a ns hl _ hS => ⟨a, ns, rfl, hS, hl, fun _ => rfl⟩, hF⟩
