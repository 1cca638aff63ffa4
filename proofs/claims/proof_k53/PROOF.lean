import PyProof.Rows.All
import Wide.All
import OpenK.AllK
import Wide.FinOn
import HandS.ForMost
import HandS.Exc
import HandS.ExcOwn
import HandS.ExcInit
import HandS.ExcField
import HandS.TryMany
import HandS.WordsExc
import HandS.Nested
import HandS.Walk
import HandS.IsInst
import HandS.TupLe
import HandS.TupAny
import HandS.Wide
import HandS.Deep
import HandS.SortRule
import HandS.DictComp
import HandS.Conv
import HandS.Lambda
import KE.GoesMore
import KE.GoesEnum
import KE.KNestM
import PySem.Challenge.RW_pairfloors_k53_lots_by_surplus_add_up
import HandS.WideMore
import HandS.Gcd
import KE.KMathGC
import HandS.Dict
import KE.KTupSum
import HandS.TupLen
import HandS.EndTab
import KE.KLam
-- Lam
section
set_option Elab.async false
set_option linter.all false
set_option maxRecDepth 100000
set_option maxHeartbeats 4000000
/-! Lam: a lambda with parameters is made in a def, handed to a second def and called there. -/
namespace LamP
open PySem PySem.Spec PyProof.Rows L2 LamX NdefX
/-- at f stands what `lambda ..: b` makes -/
def LamIs (h : Heap) (f : Addr) (F : NF) (b : Expr) : Prop :=
  ∃ od sl pm ctv, h.get? f = some { cls := .type "function", dict := od, data := .func (PySem.W.kla_fn "<lambda>" F.qual F.params b F.scope F.cl pm (.ref F.c) ctv), slots := sl }
def LamO (f : Addr) (F : NF) (b : Expr) : HO := .ext fun h => LamIs h f F b
theorem lamO_ne {f : Addr} {F : NF} {b : Expr} (ps : Array Value) : LamO f F b ≠ .tbl ps := by
  unfold LamO
  exact fun z => HO.noConfusion z
theorem lam_is {P : Program} {w : World} {H : Hp} {h : Heap} {f : Addr} {F : NF} {b : Expr} (hok : HOk P w H h) (e : H f = some (LamO f F b)) : LamIs h f F b :=
  (show LamIs h f F b ∧ _ ∧ _ from hok f _ e).1
section
variable {T : List NTab} {H : Hp} {P c' : Addr} {ps : Array Value} {pos : Pos} {q : Str}
/-- the table at P has a new row, for the code object at c' -/
def grow (H : Hp) (P : Addr) (ps : Array Value) (pos : Pos) (c' : Addr) (q : Str) : Hp := upd (upd H P (.tbl (ps ++ #[rawInt pos.line, rawInt pos.col, .ref c']))) c' (CodeO c' q)
theorem grow_other {b : Addr} (h1 : b ≠ P) (h2 : b ≠ c') : grow H P ps pos c' q b = H b := (upd_ne h2).trans (upd_ne h1)
theorem grow_kept (hP : H P = some (.tbl ps)) (nC : H c' = none) : ExtN H (grow H P ps pos c' q) := by
  intro b o e plain
  refine (grow_other (fun z => ?_) (ne_of_none e nC)).trans e
  subst z
  exact plain ps (Option.some.inj (e.symm.trans hP))
theorem grow_none {b : Addr} (e : grow H P ps pos c' q b = none) : H b = none := upd_none (upd_none e)
theorem grow_tabs (hT : TabsN T H) (hP : H P = some (.tbl ps)) (well : TriplesOk ps.toList) (only : ∀ p ∈ T, p.1 = P → p.2 = fun _ _ => q) (nC : H c' = none) : TabsN T (grow H P ps pos c' q) := by
  intro p hp
  obtain ⟨qs, at_, ok, rows⟩ := hT p hp
  have keep := grow_kept (pos := pos) (q := q) hP nC
  by_cases here : p.1 = P
  · have same : qs = ps := by
      rw [here, hP] at at_
      cases at_
      rfl
    subst same
    refine ⟨qs ++ #[rawInt pos.line, rawInt pos.col, .ref c'], ?_, ?_, fun pos2 cv found => ?_⟩
    · rw [here]
      exact (upd_ne (ne_of_none hP nC)).trans upd_same
    · rw [Array.toList_append]
      exact PySem.TriplesOk_snoc _ _ _ _ ok
    · rw [Array.toList_append] at found
      rcases among_app2 _ ok found with old | ⟨new, _⟩
      · obtain ⟨c0, e1, e2⟩ := rows pos2 cv old
        exact ⟨c0, e1, keep _ _ e2 codeO_ne⟩
      · exact ⟨c', new, by rw [only p hp here]; exact upd_same⟩
  · refine ⟨qs, ?_, ok, fun pos2 cv found => ?_⟩
    · exact (grow_other here (ne_of_none at_ nC)).trans at_
    · exact (rows pos2 cv found).imp fun _ z => ⟨z.1, keep _ _ z.2 codeO_ne⟩
end
/-- a lambda made: F its data but for the code object's place -/
structure Made (T : List NTab) (F : Addr → NF) (b : Expr) (H H1 : Hp) (f c' : Addr) : Prop where
  kept : ExtN H H1
  back : ∀ a, H1 a = none → H a = none
  tabs : TabsN T H1
  new : H f = none
  lam : H1 f = some (LamO f (F c') b)
  code : H1 c' = some (CodeO c' (F c').qual)
theorem made_of {T : List NTab} {F : Addr → NF} {b : Expr} {H H1 : Hp} {f c' : Addr} (kept : ExtN H H1) (back : ∀ a, H1 a = none → H a = none) (tabs : TabsN T H1) (n1 : H1 f = none) (code : H1 c' = some (CodeO c' (F c').qual)) : Made T F b H (upd H1 f (LamO f (F c') b)) f c' :=
  have step : ∀ a o, H1 a = some o → upd H1 f (LamO f (F c') b) a = some o := fun a o e => (upd_ne (ne_of_none e n1)).trans e
  ⟨fun a o e p => step a o (kept a o e p), fun a e => back a (upd_none e), tabs.ext step, back f n1, upd_same, step c' _ code⟩
section
variable {X : Cx} {pins : List (Addr × Obj)} {σ : L2.St} {H : Hp} {s : Shared}
/-- its function object laid on top of the heap -/
theorem inv_lam {F : NF} {b : Expr} {tk : Nat} {pm ctv : Value} (I : Inv X pins σ H s) :
    Inv X pins σ (upd H s.heap.objs.size (LamO s.heap.objs.size F b)) { s with heap := s.heap.push (PySem.W.kla_obj "<lambda>" F.qual F.params b F.scope F.cl pm F.c ctv), toks := tk } := by
  have top := Heap.get?_push_size s.heap (o := PySem.W.kla_obj "<lambda>" F.qual F.params b F.scope F.cl pm F.c ctv) rfl
  refine I.laid (fun _ _ e => Heap.get?_push_of_some _ e) (Nat.le_refl _) ⟨⟨_, _, _, _, top⟩, ⟨_, top⟩, fun _ _ is st => ?_⟩
  exact is.imp fun _ y => y.imp fun _ y => y.imp fun _ y => y.imp fun _ e => st _ e
def mkLam (X : Cx) (params : Arguments) (scope : Scope) (c' : Addr) : NF := ⟨"<lambda>", X.env.qual ++ "<lambda>", params, [], scope, cloFrom X.env.cells scope.names [], c'⟩
/-- the reading of a lambda: a new function object -/
def tLamE (T : List NTab) (mk : Addr → NF) (b : Expr) : TE := fun σ H Q => TabsN T H ∧ ∀ (f c' : Addr) (H1 : Hp), Made T mk b H H1 f c' → Q (.ref f) H1
theorem pe_lam {T : List NTab} {c P : Addr} {params : Arguments} {body : Expr} {scope : Scope} {pos : Pos} (TB : TabB X.base X.mg c P) (hcode : X.env.code = .ref c) (mem : (P, fun _ _ => X.env.qual ++ "<lambda>") ∈ T)
    (only : ∀ p ∈ T, p.1 = P → p.2 = fun _ _ => X.env.qual ++ "<lambda>") (hdef : defaultsOf params X.env = ([], []))
    (hfree : ∀ y ∈ scope.names, y.2 = .free → X.env.scope.names.lookup y.1 = some .cell ∨ X.env.scope.names.lookup y.1 = some .free) : PE X (.Lambda params body scope pos) (tLamE T (mkLam X params scope) body) := by
  constructor
  rintro pins s σ H Q I ⟨hT, h⟩
  have clo := closure_ok (scope := scope) (env := X.env) fun y hy e => I.ok.has _ (hfree y hy e)
  obtain ⟨ps, hP, well, rows⟩ := (hT _ mem : TabN H P fun _ _ => X.env.qual ++ "<lambda>")
  have inP : s.heap.get? P = some (PySem.W.tabObj ps) := I.hok P _ hP
  have ends : ∀ {g : Heap} {tk : Nat} {H1 : Hp} {c1 : Addr} (ctv : Value), Inv X pins σ H1 { s with heap := g, toks := tk } → ExtN H H1 → (∀ a, H1 a = none → H a = none) → TabsN T H1 → H1 c1 = some (CodeO c1 (X.env.qual ++ "<lambda>")) →
      EP X pins σ Q (.ref g.objs.size) { s with heap := g.push (PySem.W.kla_obj "<lambda>" (X.env.qual ++ "<lambda>") params body scope (cloFrom X.env.cells scope.names []) ((X.mg "__name__").getD .none) c1 ctv), toks := tk } := fun ctv J kept back tabs code =>
    ⟨.ref _, _, inv_lam (F := mkLam X params scope _) J, rfl, h _ _ _ (made_of kept back tabs (J.hok.fresh (Nat.le_refl _)) code)⟩
  refine PySem.W.kla_eval hdef ?_
  rcases known : codeAmong pos ps.toList with _ | cv
  · refine PySem.W.kla_makeFunction clo I.ok.glob (I.mod.glob.keeps I.bk) hcode (TB.code.keeps I.bk) inP well known TB.gP (TB.bm.keeps I.bk) fun c1 ctv g tk but new _ rec row => ?_
    obtain ⟨_, oc, vs, t, same, hoc, hd, hv⟩ := rec
    cases same
    have nC := I.hok.fresh new
    have J : Inv X pins σ (grow H P ps pos c1 (X.env.qual ++ "<lambda>")) { s with heap := g, toks := tk } := inv_table I hP (fun b o hb e => but b o hb e) row new ⟨oc, vs, t, hoc, hd, hv⟩
    exact ends ctv J (grow_kept hP nC) (fun _ => grow_none) (grow_tabs hT hP well only nC) upd_same
  · obtain ⟨c1, rfl, code⟩ := rows pos cv known
    exact PySem.W.kla_makeFunctionHit clo I.ok.glob (I.mod.glob.keeps I.bk) hcode (TB.code.keeps I.bk) inP well known (TB.bm.keeps I.bk) fun ctv g tk kept _ =>
      ends ctv (I.kept kept) (ExtN.refl H) (fun _ e => e) hT code
end
/-! ### the lambda called -/
/-- the lambda F at f keeps sp, called at a room of k -/
structure LOk (P : Program) (w : World) (K : PySem.W.Frag) (mg : Str → Option Value) (base : Heap) (CX : CXT) (k : Nat) (f : Addr) (F : NF) (b : Expr) (ps fr : List Str) (sp : List (Option V) → Sp) : Prop where
  len : ∀ ws vs H Q E, sp ws vs H Q E → vs.length = ps.length
  run : ∀ A outer s H us vs ws Q E, Room k A → Env0 P w K mg base A outer s H → H f = some (LamO f F b) ∧ H F.c = some (CodeO F.c F.qual) → CellsAt F.cl fr ws s.heap H → Vals vs us → sp ws vs H Q E → codeAny (model P w) A (.call (.ref f) ⟨us, []⟩) (CR CX outer P w H s Q E) s
theorem lok_of {CX : CXT} {P : Program} {w : World} {K : PySem.W.Frag} {mg : Str → Option Value} {base : Heap} {N ps fr : List Str} {F : NF} {b : Expr} {f : Addr} {k : Nat} {sp : List (Option V) → Sp}
    (S : NScope N ps fr F.scope) (binds : ∀ (pm ctv : Value) (us : List Value), us.length = ps.length → bindArgs (PySem.W.kla_fn "<lambda>" F.qual F.params b F.scope F.cl pm (.ref F.c) ctv) ⟨us, []⟩ = pure (ps.zip us)) (len : ∀ ws vs H Q E, sp ws vs H Q E → vs.length = ps.length)
    (body : ∀ A outer s H vs ws Q E, Room k (A.deeper (envF F f s.heap.objs.size)) → H f = some (LamO f F b) → H F.c = some (CodeO F.c F.qual) → ws.length = fr.length → sp ws vs H Q E → ∃ t, PE (ncx CX P w K mg base N F f A outer s H E) b t ∧ t (startF N vs ws) H Q) :
    LOk P w K mg base CX (k + 1) f F b ps fr sp := by
  refine ⟨len, ?_⟩
  rintro A outer s H us vs ws Q E room e0 ⟨lam, code⟩ cells rel pre
  have n := len _ _ _ _ _ pre
  obtain ⟨od, sl, pm, ctv, at_⟩ := lam_is e0.hok lam
  have noLimit := e0.mod.nolimit.keeps fun b o e => (e0.bs b o e).1
  apply PySem.W.kla_callFunE room.depth at_ rfl S.co S.gen rfl (codeO_at e0.hok code)
  rw [binds pm ctv us (rel.length ▸ n)]
  refine wpAny_pure (wpAny_newFunctionEnv S.nocell (fun y hy => S.par y.1 (List.of_mem_zip hy).1) (fun g frame but => ⟨noLimit.fresh _ but, ?_⟩) S.kind)
  obtain ⟨t, reads, goal⟩ := body A outer s H vs ws Q E (room.deeper _) lam code cells.len pre
  have start := inv_startN (CX := CX) (E := E) (f := f) (tk := s.toks + (ps.zip us).length) S room.hd e0 n rel cells frame fun b o e => but.extBut b o (Nat.ne_of_lt (Heap.lt_size e)) (Heap.get?_push_of_some _ e)
  exact PySem.W.kla_codeExpr (wpAny_mono (reads.run [] _ _ H Q start goal) (fun v s' out => out.elim fun w' z => z.elim fun H' ⟨J, rv, q⟩ => ⟨w', H', J.os, J.bare, J.base, J.hok, rv, q⟩) fun _ _ z => z)
/-- the captured cells, as they were when the running def began: it has no way to them but this lambda -/
theorem cells_later {X : Cx} {pins : List (Addr × Obj)} {σ : L2.St} {H : Hp} {s : Shared} {cl : List (Str × Addr)} {fr : List Str} {ws : List (Option V)} (C : CellsAt cl fr ws X.s_0.heap X.H_0) (none_ : X.ex = []) (I : Inv X pins σ H s) : CellsAt cl fr ws s.heap H := by
  have out : ∀ c : Addr, c ∉ X.ex := by simp [none_]
  have stays : ∀ {y c}, cl.lookup y = some c → ∀ {v}, X.s_0.heap.IsCell c v → s.heap.IsCell c v := by
    rintro y c e v ⟨o, at_, d⟩
    exact (I.base.any at_ (C.all y c e).1 (out c)).elim fun sl z => ⟨_, z, d⟩
  constructor
  · exact C.len
  · intro y c e
    have ⟨un, v, cell⟩ := C.all y c e
    exact ⟨cell.elim fun o z => I.base.free c o z.1 un (out c), v, stays e cell⟩
  · exact C.inj
  · intro i y e
    have ⟨c, at_, holds⟩ := C.has i y e
    exact ⟨c, at_, fun v ev => (holds v ev).imp fun u z => ⟨z.1, stays at_ z.2⟩⟩
/-- a call's end, read by its caller -/
theorem call_ends {X : Cx} {CX : CXT} {pins : List (Addr × Obj)} {σ : L2.St} {H : Hp} {s : Shared} {Q : VK} {E : XK} {v : Value} {us : List Value} (hx : Passes CX X E) (I : Inv X pins σ H s) (h : codeAny (model X.prog X.w) X.A (.call v ⟨us, []⟩) (CR CX X.stack X.prog X.w H s Q E) s) :
    wpAny (model X.prog X.w) X.A (call v us) (EP X pins σ Q) X.xe s := by
  refine wpAny_call (codeAny_mono h ?_)
  rintro (e | fl) s' z
  · exact hx pins σ H s e s' I z
  · match fl, z with
    | .ret u, z => exact I.after z
/-- g(..), g the name i of the running def that was handed the lambda F; ws: what its cells hold -/
def tCallF (f : Addr) (F : NF) (b : Expr) (i : Nat) (ws : List (Option V)) (sp : List (Option V) → Sp) (E : XK) (t : TA) : TE := fun σ H Q => σ[i]? = some (some (.ref f)) ∧ H f = some (LamO f F b) ∧
  t σ H fun vs H1 => (H1 f = some (LamO f F b) ∧ H1 F.c = some (CodeO F.c F.qual)) ∧ sp ws vs H1 Q E
theorem pe_callF {X : Cx} {CX : CXT} {f : Addr} {F : NF} {b : Expr} {ps fr : List Str} {ws : List (Option V)} {i j k : Nat} {x : Str} {sp : List (Option V) → Sp} {E : XK} {t : TA} {e : Expr} {es : List Expr} {p pos : Pos}
    (Fn : LOk X.prog X.w X.K X.mg X.base CX k f F b ps fr sp) (C : CellsAt F.cl fr ws X.s_0.heap X.H_0) (hex : X.ex = []) (hr : Room j X.A) (hk : k ≤ j) (hx : Passes CX X E) (hN : X.N[i]? = some x) (hv : Vis X.env.scope x) (ha : PA X (e :: es) t)
    (hd : (x == ("__debug__" : Str)) = false := by decide) (hcd : (x == ("__classdict__" : Str)) = false := by decide)
    (he : starEach (e :: es) X.env = (false, eval e X.env) :: starEach es X.env := by rfl) (hpl : (backTo pos (starEach es X.env)).any (·.1) = false := by rfl) :
    PE X (.Call (.Name x p) (e :: es) [] pos) (tCallF f F b i ws sp E t) := by
  constructor
  rintro pins s σ H Q I ⟨var, lam, args⟩
  have fn : ∀ {σ H s}, Inv X pins σ H s → H f = some (LamO f F b) → PySem.W.FnAt f s.heap := fun I e => (lam_is I.hok e).elim fun od z => z.elim fun sl z => z.elim fun _ z => z.elim fun _ z => ⟨_, od, _, sl, z⟩
  have name := (pe_var (pos := p) hN hv hd hcd).run pins s σ H (fun v H1 => v = .ref f ∧ H1 = H) I ⟨.ref f, var, rfl, rfl⟩
  refine wpAny_Call_Name_kw (thn name ?_)
  rintro u s1 ⟨_, _, I1, ru, rfl, rfl⟩
  cases ru
  refine PySem.W.callWith_F (first := []) (fn I1 lam) (thn (ha.run pos pins s1 σ _ _ I1 args) ?_) he hpl
  rintro us s2 ⟨vs, H2, I2, r, both, pre⟩
  exact ⟨fn I2 both.1, call_ends hx I2 (Fn.run X.A X.stack s2 H2 us vs ws Q E (hr.mono hk) I2.env0 both (cells_later C hex I2) r pre)⟩
/-! ### a def that is handed a lambda -/
/-- a def of the top, called while the cells cl stand -/
structure FnOkC (P : Program) (w : World) (K : PySem.W.Frag) (mg : Str → Option Value) (base : Heap) (CX : CXT) (k : Nat) (f : Addr) (fd : FuncData) (ps : List Str) (cl : List (Str × Addr)) (fr : List Str) (ws : List (Option V)) (sp : Sp) : Prop where
  len : ∀ vs H Q E, sp vs H Q E → vs.length = ps.length
  run : ∀ A outer s H args us vs Q E, Room k A → Env0 P w K mg base A outer s H → CellsAt cl fr ws s.heap H → BindsTo s fd args (ps.zip us) → Vals vs us → sp vs H Q E → codeAny (model P w) A (.call (.ref f) args) (CR CX outer P w H s Q E) s
theorem okC {P : Program} {w : World} {K : PySem.W.Frag} {mg : Str → Option Value} {base : Heap} {x qual : Str} {st : Stmt} {f : Addr} {fd : FuncData} {N ps : List Str} {k : Nat} {cl : List (Str × Addr)} {fr : List Str} {ws : List (Option V)} {sp : Sp}
    (F : Fun K x qual st f fd) (S : FnScope N ps (defScope st)) (len : ∀ vs H Q E, sp vs H Q E → vs.length = ps.length)
    (body : ∀ (cdv : Value) (A : Around) (outer : List Env) (s : Shared) (H : Hp) (vs : List V) (Q : VK) (E : XK), Room k (A.deeper (envOfC qual (defScope st) s.heap.objs.size f cdv)) → CellsAt cl fr ws s.heap H → sp vs H Q E →
      ∃ t, PSs (cxOf CX0 P w K mg base N qual (defScope st) f cdv A outer s H E).nox (defBody st) t ∧ t { nx := fun _ H' => Q .non H', rt := Q } (L2.start N vs) H) : FnOkC P w K mg base CX0 (k + 1) f fd ps cl fr ws sp := by
  have ⟨_, _, _, _, _, _, cdv, _, _, is, look, code⟩ := F.ex
  subst is
  refine ⟨len, fun A outer s H args us vs Q E room e0 cells bound rel pre => run_ofS look code S room e0 bound rel (len _ _ _ _ pre) fun deeper => ?_⟩
  exact (body cdv A outer s H vs Q E deeper cells pre).imp fun t z => ⟨z.1.nox, z.2⟩
def tCallC (js : List Nat) (sp : List (Option V) → Sp) (E : XK) (t : TA) : TE := fun σ H Q => t σ H fun vs H1 => sp (js.map (slotAt σ)) vs H1 Q E
theorem pe_callC {X : Cx} {CX : CXT} {g : Addr} {fd : FuncData} {cl : List (Str × Addr)} {ps fr : List Str} {js : List Nat} {k : Nat} {x : Str} {sp : List (Option V) → Sp} {E : XK} {t : TA} {e : Expr} {es : List Expr} {p pos : Pos}
    (G : ∀ ws, FnOkC X.prog X.w X.K X.mg X.base CX k g fd ps cl fr ws (sp ws)) (cp : X.Ok → Caps X cl fr js) (hr : Room k X.A) (hg : Gl X x) (hm : X.mg x = some (.ref g)) (hk : PySem.W.keepIn X.K (.ref g) = true) (hb : L2.Binds X.K fd ps []) (hx : Passes CX X E) (ha : PA X (e :: es) t)
    (hdb : (x == ("__debug__" : Str)) = false := by decide)
    (he : starEach (e :: es) X.env = (false, eval e X.env) :: starEach es X.env := by rfl) (hpl : (backTo pos (starEach es X.env)).any (·.1) = false := by rfl) :
    PE X (.Call (.Name x p) (e :: es) [] pos) (tCallC js sp E t) := by
  constructor
  intro pins s σ H Q I pre
  refine wpAny_Call_Name_kw (ld_glob I hg hm (PySem.W.callWith_K I.ok.mod.kin hk (thn (ha.run pos pins s σ H _ I pre) ?_) he hpl) hdb)
  rintro us s1 ⟨vs, H1, I1, r, goal⟩
  refine ⟨I1.kIn, call_ends hx I1 ((G _).run X.A X.stack s1 H1 _ us vs Q E hr I1.env0 (cells_of I1 (cp I1.ok)) ?_ r goal)⟩
  have n : us.length = ps.length := r.length ▸ (G _).len _ _ _ _ goal
  simpa using hb s1 us I1.kIn (by simpa using n)
end LamP
end

-- EnumT
section
set_option Elab.async false
set_option linter.all false
set_option maxRecDepth 100000
set_option maxHeartbeats 4000000
/-! EnumT: for i, x in enumerate(t), t a tuple (enumerate with one argument, over whatever begins). -/
namespace EnT
open PySem PySem.Spec PyProof.Rows
open Sem (wp)
/-- the two objects of enumerate(v) in a heap of n places: v's iterator o at n, the enumerate object at n + 1 -/
def two (h : Heap) (o : Obj) : Heap := (h.push o).push { cls := .type "enumerate", data := .fields #[.none, .bool false, .ref h.objs.size, rawInt 0, .none, .none] }
theorem new1 {v : Value} {o : Obj} {H : Heap → Prop} (B : Begins v o H) :
    Meets (Builtin.«enumerate.__new__» ⟨[.type "enumerate", v], []⟩) (fun _ R s => H s.heap ∧ R (.ok (.ret (.ref (s.heap.push o).objs.size))) { s with heap := two s.heap o }) := by
  refine .of_wp fun prog w A R s h => ?_
  rcases s with ⟨hp, g, d, tk, os⟩
  rcases h with ⟨ready, h⟩
  have start : ∀ {A' : Around} {E : Value → Shared → Prop} {Q : Value → Shared → Prop}, Q (.ref hp.objs.size) ⟨hp.push o, g, d, tk, os⟩ → wpAny (model prog w) A' (pyIter v) Q E ⟨hp, g, d, tk, os⟩ := fun q => B.iter _ _ _ _ _ _ ready q
  have sub := sub_enumerate
  wp_walk using start
  refine wpAny_stack_any fun _ => wpAny_pure ?_
  split
  · rename_i c _ _ _ _ _
    cases (c == Value.type "enumerate") <;> (wp_walk using start; exact ⟨_, rfl, h⟩)
  · wp_walk using start
    exact ⟨_, rfl, h⟩
/-- what is known of them -/
structure Two (h h' : Heap) (o : Obj) : Prop where
  en : IsEnum h' (h.objs.size + 1) h.objs.size 0 .none
  it : h'.get? h.objs.size = some o
  old : ∀ b ob, h.get? b = some ob → h'.get? b = some ob
theorem two_is {h : Heap} {o : Obj} (free : o.isFreed = false) : Two h (two h o) o := by
  have n : (h.push o).objs.size = h.objs.size + 1 := Heap.size_push ..
  have top := Heap.get?_push_size (h.push o) (o := { cls := .type "enumerate", data := .fields #[.none, .bool false, .ref h.objs.size, rawInt 0, .none, .none] }) rfl
  exact ⟨n ▸ top, Heap.get?_push_of_some _ (Heap.get?_push_size _ free), fun b ob q => Heap.get?_push_of_some _ (Heap.get?_push_of_some _ q)⟩
theorem begin1 {prog : Program} {w : World} {A : Around} {E : Value → Shared → Prop} {s : Shared} {v : Value} {o : Obj} {H : Heap → Prop} {Q : Value → Shared → Prop} (B : Begins v o H) (ready : H s.heap)
    (h : Two s.heap (two s.heap o) o → Q (.ref (s.heap.objs.size + 1)) { s with heap := two s.heap o }) : wpAny (model prog w) A (call (.type "enumerate") [v]) Q E s := by
  have T := two_is (h := s.heap) B.free
  have n : (s.heap.push o).objs.size = s.heap.objs.size + 1 := Heap.size_push ..
  refine callType_new F.called_enumerate (by decide) (F.typeCall_enumerate_1 _) (F.newCall_enumerate_1 _) (fun obj => F.args_object_init_2 obj _) F.entry_enumerate_new (new1 B) ⟨ready, ?_⟩
  show _ ∧ _
  rw [n]
  exact ⟨⟨_, T.en, rfl⟩, h T⟩
end EnT
namespace L2
open PySem PySem.Spec PyProof.Rows
/-- the tuple at a, each of its items in a new pair behind its place -/
def IteT (K : PySem.W.Frag) (a : Addr) : It where
  go i H := ∃ (xs : List V) (x : V), SqT K H a xs ∧ xs[i]? = some x
  yld i H v H' := ∃ q x, v = .ref q ∧ H q = none ∧ H' = upd H q (.tup [.int (i : Nat), x]) ∧ ∀ xs, SqT K H a xs → xs[i]? = some x
  stop i H := ∃ xs : List V, SqT K H a xs ∧ i = xs.length
/-- e enumerates by the iterator it of the tuple at a, of which i items are drawn -/
structure EnSt (a e it : Addr) (i : Nat) (h : Heap) : Prop where
  en : ∃ old, IsEnum h e it (i : Int) old
  it_ : h.IsTupleIter it a i
  ne : e ≠ it
  nai : a ≠ it
  nae : a ≠ e
theorem EnSt.lt_e {a e it : Addr} {i : Nat} {h : Heap} (S : EnSt a e it i h) : e < h.objs.size := S.en.elim fun _ q => Heap.lt_size q
theorem EnSt.lt_it {a e it : Addr} {i : Nat} {h : Heap} (S : EnSt a e it i h) : it < h.objs.size := S.it_.elim fun _ q => Heap.lt_size q.1
theorem EnSt.lt {a e it : Addr} {i : Nat} {h : Heap} (S : EnSt a e it i h) : ∀ b ∈ [e, it], b < h.objs.size := by
  simpa using And.intro S.lt_e S.lt_it
theorem two_mem {e it b : Addr} (h : b ∉ [e, it]) : b ≠ e ∧ b ≠ it := by simpa using h
section
variable {X : Cx} {pins : List (Addr × Obj)} {σ : L2.St} {H : Hp} {s : Shared}
/-- the new pair of an index and an item -/
theorem pair_ok {P : Program} {w : World} {q : Addr} {i : Nat} {t : Tok} {x : V} {u : Value} {g : Heap} (r : RelV x u) (at_ : g.get? q = some { cls := .type "tuple", data := .seq #[.int i t, u] }) : ObjOk P w (upd H q (.tup [.int (i : Nat), x])) g q (.tup [.int (i : Nat), x]) :=
  ⟨by show 2 ≤ sizeLine; decide, [.int i t, u], .cons ⟨t, rfl⟩ (.cons r .nil), _, at_, rfl, 0, rfl⟩
end
theorem turn_enumT {P : Program} {w : World} {K : PySem.W.Frag} {elts : List Expr} {kk : Nat} {tpos : Pos} (a e it : Addr) : Turn P w K (.Tuple elts kk tpos) (IteT K a) [e, it] e (EnSt a e it) where
  mem := List.mem_cons_self
  obj i h S b m := by
    rcases List.mem_cons.mp m with z | z
    · rw [z]
      exact S.en.elim fun _ q => ⟨_, q, fun _ y => nomatch y⟩
    · obtain ⟨o, q, _, d⟩ := S.it_
      exact ⟨o, List.mem_singleton.mp z ▸ q, fun _ y => by rw [d] at y; cases y⟩
  keep i h h' S k := ⟨S.en.imp fun _ q => k e (List.mem_cons_self ..) _ q, S.it_.at fun o q => k it (by simp) o q, S.ne, S.nai, S.nae⟩
  self A i s Q E S h := S.en.elim fun _ q => wpAny_pyIter_enum q h
  item := by
    intro X hP hw hK hc i pins s σ H E I own S go
    subst hP hw hK
    obtain ⟨old, en⟩ := S.en
    obtain ⟨xs, x, seq, hx⟩ := go
    obtain ⟨items, rel, tup, small⟩ := I.tuple seq
    obtain ⟨u, hu, ru⟩ := rel.get hx
    have lo := S.lt
    have draws := Draws.tuple (prog := X.prog) (w := X.w) (A := X.A.in1) (I.ok.hd hc) it a S.nai items.toArray
    refine wpAny_pyNext_enum_itemD draws en ⟨S.it_, tup⟩ (by simpa using (List.getElem?_eq_some_iff.mp hu).1) S.ne (by simp [S.ne, Ne.symm S.nae]) fun y g tk drawn out next at_ _ kept => ?_
    obtain rfl : u = y := Option.some.inj (hu.symm.trans (by simpa using drawn))
    refine ⟨_, rfl, wpAny_letOwnedTupleGo_enum (s := { s with heap := g, toks := tk + 1 }) out fun g2 en2 same => ?_⟩
    have here := (same.2 _ (Nat.ne_of_gt S.lt_e)).trans at_
    have all : ∀ b ob, b ∉ [e, it] → s.heap.get? b = some ob → g2.get? b = some ob := fun b ob nb q => (same.2 b (two_mem nb).1).trans (kept b ob (two_mem nb).1 (two_mem nb).2 q)
    refine ⟨.ref s.heap.objs.size, _, I.turnedNew (t' := tk + 1) all own (Nat.le_refl _) (pair_ok ru here), rfl, ⟨_, x, rfl, I.hok.fresh (Nat.le_refl _), rfl, fun ys q => I.tuple_inj q seq ▸ hx⟩, ⟨⟨u, ?_⟩, next.1.at fun o q => (same.2 it S.ne.symm).trans q, S.ne, S.nai, S.nae⟩, fun b m => ?_⟩
    · rw [show ((i + 1 : Nat) : Int) = (i : Int) + 1 by omega]
      exact en2
    · exact (upd_ne (Nat.ne_of_lt (lo b m))).trans (own b m).1
  done := by
    intro X hP hw hK hc i pins s σ H E I own S stop
    subst hP hw hK
    obtain ⟨old, en⟩ := S.en
    obtain ⟨xs, seq, rfl⟩ := stop
    obtain ⟨items, rel, tup, small⟩ := I.tuple seq
    have ⟨_, f1, _, f3, f4, f5⟩ := own it (by simp)
    have draws := Draws.tuple (prog := X.prog) (w := X.w) (A := X.A.in1) (I.ok.hd hc) it a S.nai items.toArray
    have len : xs.length = items.toArray.size := by rw [List.size_toArray]; exact rel.length
    refine wpAny_pyNext_enum_endD draws en ⟨len ▸ S.it_, tup⟩ fun g kept => ?_
    exact ⟨rfl, I.turned (t' := s.toks) (fun b o nb q => kept b o nb q) (own it (by simp)).1 f1 f3 f4 f5⟩
def iEnumT (K : PySem.W.Frag) (ta : TA) : TI := fun σ H R => ta σ H fun vs H1 => ∃ a xs, vs = [.ref a] ∧ SqT K H1 a xs ∧ R (IteT K a) H1
theorem pi_enumT {X : Cx} {e : Expr} {ta : TA} {p pos tpos : Pos} {elts : List Expr} {kk : Nat} (hg : Gl X "enumerate") (hm : X.mg "enumerate" = none) (ha : PA X [e] ta) (hs : starEach [e] X.env = [(false, eval e X.env)] := by rfl) :
    PI X (.Tuple elts kk tpos) (.Call (.Name "enumerate" p) [e] [] pos) (iEnumT X.K ta) := by
  refine ⟨fun pins s σ H R I h => ?_⟩
  refine Call_ (ld_blt I hg hm boot_enumerate (callWith_type1 (thn (ha.run pos pins s σ H _ I h) fun us s1 done => ?_) hs rfl))
  obtain ⟨vs, H1, I1, r1, q⟩ := done
  obtain ⟨a, xs, ev, seq, q⟩ := q
  subst ev
  match us, r1 with
  | [_], .cons rfl .nil =>
    obtain ⟨items, _, tup, _⟩ := I1.tuple seq
    have la : a < s1.heap.objs.size := tup.elim fun _ q => Heap.lt_size q.1
    refine EnT.begin1 (begins_tuple a items.toArray) tup fun T => wpAny_pyIter_enum T.en ?_
    refine ⟨_, [_, _], _, _, H1, rfl, I1.kept (t' := s1.toks) T.old, turn_enumT a _ _, ⟨⟨_, T.en⟩, ⟨_, T.it, rfl, rfl⟩, Nat.succ_ne_self _, Nat.ne_of_lt la, Nat.ne_of_lt (Nat.lt_succ_of_lt la)⟩, fun b m => ?_, q⟩
    have big : s1.heap.objs.size ≤ b := by
      rcases List.mem_cons.mp m with z | z
      · exact z ▸ Nat.le_succ _
      · exact Nat.le_of_eq (List.mem_singleton.mp z).symm
    exact I1.fpOk big (I1.hok.fresh big)
theorem walk_enumT {K : PySem.W.Frag} {a : Addr} {xs : List V} : Walk (IteT K a) xs.length (fun H => SqT K H a xs) (YPair (fun i => some (.int (i : Nat))) (fun i => xs[i]?)) where
  goes i _ lt q := ⟨xs, xs[i], q, List.getElem?_eq_getElem lt⟩
  stops _ q := ⟨xs, q, rfl⟩
  yields i H v H' _ q y := y.elim fun T z => z.elim fun x ⟨h1, h2, h3, h4⟩ => ⟨T, _, x, h1, h2, h3, rfl, h4 xs q⟩
end L2
end

-- Rel
section
set_option Elab.async false
set_option linter.all false
set_option maxRecDepth 100000
set_option maxHeartbeats 4000000
/-! Rel: what a def leaves of the heap; data of tuples; the drawn source. -/
namespace R
open PySem PySem.Spec PyProof.Rows L2 LamX NdefX
/-! ### data that stands in tuples -/
mutual
inductive Tp (H : Hp) : V → PyData → Prop
  | non : Tp H .non .none
  | bl (b : Bool) : Tp H (.bl b) (.bool b)
  | int (i : Int) : Tp H (.int i) (.int i)
  | str (x : Str) : Tp H (.str x) (.str x)
  | tup {a : Addr} {xs : List V} {ds : List PyData} : H a = some (.tup xs) → Tps H xs ds → Tp H (.ref a) (.tuple ds)
inductive Tps (H : Hp) : List V → List PyData → Prop
  | nil : Tps H [] []
  | cons {v : V} {vs : List V} {d : PyData} {ds : List PyData} : Tp H v d → Tps H vs ds → Tps H (v :: vs) (d :: ds)
end
def TK (H H' : Hp) : Prop := ∀ a xs, H a = some (.tup xs) → H' a = some (.tup xs)
theorem TK.refl (H : Hp) : TK H H := fun _ _ h => h
theorem TK.trans {H H1 H2 : Hp} (a : TK H H1) (b : TK H1 H2) : TK H H2 := fun c xs h => b c xs (a c xs h)
theorem TK.new {H : Hp} {p : Addr} {o : HO} (h : H p = none) : TK H (upd H p o) := fun a xs e => by
  rw [upd_ne (ne_of_none e h)]
  exact e
theorem TK.lst {H : Hp} {p : Addr} {xs : List V} {o : HO} (h : H p = some (.lst xs)) : TK H (upd H p o) := fun a ys e => by
  rw [upd_ne (ne_of e h (by intro z; cases z))]
  exact e
mutual
theorem Tp.mono {H H' : Hp} (k : TK H H') : ∀ {v : V} {d : PyData}, Tp H v d → Tp H' v d
  | _, _, .non => .non
  | _, _, .bl b => .bl b
  | _, _, .int i => .int i
  | _, _, .str x => .str x
  | _, _, .tup h t => .tup (k _ _ h) (Tps.mono k t)
theorem Tps.mono {H H' : Hp} (k : TK H H') : ∀ {vs : List V} {ds : List PyData}, Tps H vs ds → Tps H' vs ds
  | _, _, .nil => .nil
  | _, _, .cons h t => .cons (Tp.mono k h) (Tps.mono k t)
end
mutual
theorem Tp.dp {K : PySem.W.Frag} {H : Hp} : ∀ {v : V} {d : PyData}, Tp H v d → Dp K H v d
  | _, _, .non => .non
  | _, _, .bl b => .bl b
  | _, _, .int i => .int i
  | _, _, .str x => .str x
  | _, _, .tup h t => .tup (SqT.of h) (Tps.dp t)
theorem Tps.dp {K : PySem.W.Frag} {H : Hp} : ∀ {vs : List V} {ds : List PyData}, Tps H vs ds → DpAll K H vs ds
  | _, _, .nil => .nil
  | _, _, .cons h t => .cons (Tp.dp h) (Tps.dp t)
end
theorem Tps.length {H : Hp} : ∀ {vs : List V} {ds : List PyData}, Tps H vs ds → vs.length = ds.length
  | _, _, .nil => rfl
  | _, _, .cons _ t => by
    rw [List.length_cons, List.length_cons, Tps.length t]
theorem Tps.get {H : Hp} : ∀ {vs : List V} {ds : List PyData} {i : Nat} {v : V}, Tps H vs ds → vs[i]? = some v → ∃ d, ds[i]? = some d ∧ Tp H v d
  | _, _, _, _, .nil, e => by simp at e
  | _, _, 0, _, .cons h _, e => by simp at e; subst e; exact ⟨_, rfl, h⟩
  | _, _, i + 1, v, .cons _ t, e => by
    obtain ⟨d, h1, h2⟩ := Tps.get (i := i) (v := v) t (by simpa using e)
    exact ⟨d, by simpa using h1, h2⟩
theorem Tps.getD {H : Hp} : ∀ {vs : List V} {ds : List PyData} {i : Nat} {d : PyData}, Tps H vs ds → ds[i]? = some d → ∃ v, vs[i]? = some v ∧ Tp H v d
  | _, _, _, _, .nil, e => by simp at e
  | _, _, 0, _, .cons h _, e => by simp at e; subst e; exact ⟨_, rfl, h⟩
  | _, _, i + 1, v, .cons _ t, e => by
    obtain ⟨d, h1, h2⟩ := Tps.getD (i := i) (d := v) t (by simpa using e)
    exact ⟨d, by simpa using h1, h2⟩
theorem Tps.append {H : Hp} : ∀ {vs ws : List V} {ds es : List PyData}, Tps H vs ds → Tps H ws es → Tps H (vs ++ ws) (ds ++ es)
  | _, _, _, _, .nil, t => t
  | _, _, _, _, .cons h t, u => .cons h (Tps.append t u)
theorem Tps.erase {H : Hp} : ∀ {vs : List V} {ds : List PyData} (i : Nat), Tps H vs ds → Tps H (vs.eraseIdx i) (ds.eraseIdx i)
  | _, _, _, .nil => .nil
  | _, _, 0, .cons _ t => t
  | _, _, i + 1, .cons h t => .cons h (Tps.erase i t)
theorem Tps.ints {H : Hp} : ∀ (ns : List Int), Tps H (ns.map V.int) (ns.map PyData.int)
  | [] => .nil
  | n :: r => .cons (.int n) (Tps.ints r)
theorem Tps.ints_of {H : Hp} : ∀ {vs : List V} {ns : List Int}, Tps H vs (ns.map PyData.int) → vs = ns.map V.int
  | _, [], h => by cases h; rfl
  | _, n :: r, h => by
    cases h with
    | cons h1 h2 =>
      cases h1
      rw [Tps.ints_of h2] <;> rfl
/-! ### pairs of numbers -/
def prD (p : Int × Int) : PyData := .tuple [.int p.1, .int p.2]
def lkD (ps : List (Int × Int)) : List PyData := ps.map prD
theorem tp_pr {H : Hp} {v : V} {p : Int × Int} (h : Tp H v (prD p)) : ∃ a, v = .ref a ∧ H a = some (.tup [.int p.1, .int p.2]) := by
  cases h with
  | tup h t => exact ⟨_, rfl, by rw [Tps.ints_of (ns := [p.1, p.2]) t] at h; exact h⟩
theorem pr_tp {H : Hp} {a : Addr} {i j : Int} (h : H a = some (.tup [.int i, .int j])) : Tp H (.ref a) (prD (i, j)) := .tup h (.cons (.int i) (.cons (.int j) .nil))
/-! ### the drawn source: a list of two numbers -/
def BIG : Nat := 1048600
def Src (H : Hp) (a : Addr) : Prop := ∃ x y : Int, H a = some (.lst [.int x, .int y]) ∧ 0 ≤ x ∧ x.natAbs < 2 ^ BIG ∧ 0 ≤ y ∧ y < 2147483647
/-! ### what is left as it was -/
structure Ext (T : List NTab) (so : Option Addr) (H H' : Hp) : Prop where
  kp : ∀ b o, some b ≠ so → (∀ ps, o ≠ .tbl ps) → H b = some o → H' b = some o
  tb : TabsN T H → TabsN T H'
  sr : ∀ a, so = some a → Src H a → Src H' a
  fr : ∀ b, H' b = none → H b = none
section
variable {T : List NTab} {so : Option Addr} {H H1 H2 : Hp} {a : Addr}
theorem Ext.refl (T : List NTab) (so : Option Addr) (H : Hp) : Ext T so H H := ⟨fun _ _ _ _ h => h, fun h => h, fun _ _ h => h, fun _ h => h⟩
theorem Ext.trans (x : Ext T so H H1) (y : Ext T so H1 H2) : Ext T so H H2 := ⟨fun b o n t h => y.kp b o n t (x.kp b o n t h), fun h => y.tb (x.tb h), fun b e h => y.sr b e (x.sr b e h), fun b h => x.fr b (y.fr b h)⟩
theorem upd_none' {H : Hp} {a b : Addr} {o : HO} (e : upd H a o b = none) : H b = none := by
  unfold upd at e
  split at e
  · cases e
  · exact e
theorem tabs_new {H : Hp} {p : Addr} {o : HO} (n : H p = none) (h : TabsN T H) : TabsN T (upd H p o) := h.ext fun b u e => by
  rw [upd_ne (ne_of_none e n)]
  exact e
/-- a new object -/
theorem Ext.new {p : Addr} {o : HO} (n : H p = none) : Ext T so H (upd H p o) :=
  ⟨fun b u _ _ e => by rw [upd_ne (ne_of_none e n)]; exact e, tabs_new n, fun b e ⟨x, y, h, r⟩ => ⟨x, y, by rw [upd_ne (ne_of_none h n)]; exact h, r⟩, fun b e => upd_none' e⟩
/-- an object that the beginning does not know is changed -/
theorem Ext.mut {p : Addr} {o u : HO} (x : Ext T so H H1) (n : H p = none) (h1 : H1 p = some u) (nt : ∀ ps, u ≠ .tbl ps) (nc : ∀ c q, u ≠ CodeO c q) (ns : so ≠ some p) : Ext T so H (upd H1 p o) :=
  ⟨fun b w a b' e => by rw [upd_ne (ne_of_none e n)]; exact x.kp b w a b' e, fun h => by
    have q := x.tb h
    intro t ht
    obtain ⟨ps, a1, a2, a3⟩ := q t ht
    refine ⟨ps, by rw [upd_ne (ne_of a1 h1 (Ne.symm (nt ps)))]; exact a1, a2, fun pos cv hc => ?_⟩
    obtain ⟨c, e1, e2⟩ := a3 pos cv hc
    exact ⟨c, e1, by rw [upd_ne (ne_of e2 h1 (Ne.symm (nc c _)))]; exact e2⟩,
   fun b e q => by
    obtain ⟨x', y', h', r⟩ := x.sr b e q
    exact ⟨x', y', by rw [upd_ne (fun z => ns (by rw [e, z]))]; exact h', r⟩, fun b e => x.fr b (upd_none' e)⟩
theorem lst_nt {xs : List V} (ps : Array Value) : (HO.lst xs) ≠ .tbl ps := fun z => by cases z
theorem lst_nc {xs : List V} (c : Addr) (q : Str) : (HO.lst xs) ≠ CodeO c q := fun z => by
  unfold CodeO at z
  cases z
theorem tup_nt {xs : List V} (ps : Array Value) : (HO.tup xs) ≠ .tbl ps := fun z => by cases z
theorem ins_nt {C d : Addr} {fs : List (Str × V)} (ps : Array Value) : (HO.ins C d fs) ≠ .tbl ps := fun z => by cases z
theorem ins_nc {C d : Addr} {fs : List (Str × V)} (c : Addr) (q : Str) : (HO.ins C d fs) ≠ CodeO c q := fun z => by
  unfold CodeO at z
  cases z
theorem own_nt {x : Addr} (ps : Array Value) : (HO.own x) ≠ .tbl ps := fun z => by cases z
theorem frz_nt {o : Obj} {u : HO} (ps : Array Value) : (HO.frz o u) ≠ .tbl ps := fun z => by cases z
theorem Ext.mutL {p : Addr} {o : HO} {xs : List V} (x : Ext T so H H1) (n : H p = none) (h1 : H1 p = some (.lst xs)) (ns : so ≠ some p) : Ext T so H (upd H1 p o) := x.mut n h1 lst_nt lst_nc ns
/-- nothing but new objects: so the source is left too -/
theorem Ext.toS (x : Ext T none H H1) : Ext T so H H1 := ⟨fun b o _ t h => x.kp b o (fun z => nomatch z) t h, x.tb, fun b _ ⟨i, j, h, r⟩ => ⟨i, j, x.kp b _ (fun z => nomatch z) lst_nt h, r⟩, x.fr⟩
theorem Ext.tup {xs : List V} (x : Ext T none H H1) (h : H a = some (.tup xs)) : H1 a = some (.tup xs) := x.kp a _ (fun z => nomatch z) tup_nt h
theorem Ext.lst {xs : List V} (x : Ext T none H H1) (h : H a = some (.lst xs)) : H1 a = some (.lst xs) := x.kp a _ (fun z => nomatch z) lst_nt h
theorem Ext.ins {C d : Addr} {fs : List (Str × V)} (x : Ext T none H H1) (h : H a = some (.ins C d fs)) : H1 a = some (.ins C d fs) := x.kp a _ (fun z => nomatch z) ins_nt h
theorem Ext.tk (x : Ext T none H H1) : TK H H1 := fun _ _ h => x.tup h
/-- with the source: it is a list -/
theorem Ext.tkS {s : Addr} (x : Ext T (some s) H H1) (q : Src H s) : TK H H1 := fun a xs h => x.kp a _ (fun z => by
  obtain ⟨i, j, e, _⟩ := q
  rw [Option.some.inj z, e] at h
  cases h) tup_nt h
theorem Ext.insS {s C d : Addr} {fs : List (Str × V)} (x : Ext T (some s) H H1) (q : Src H s) (h : H a = some (.ins C d fs)) : H1 a = some (.ins C d fs) := x.kp a _ (fun z => by
  obtain ⟨i, j, e, _⟩ := q
  rw [Option.some.inj z, e] at h
  cases h) ins_nt h
theorem Ext.lstS {s : Addr} {xs : List V} (x : Ext T (some s) H H1) (n : a ≠ s) (h : H a = some (.lst xs)) : H1 a = some (.lst xs) := x.kp a _ (fun z => n (Option.some.inj z)) lst_nt h
theorem Ext.src {s : Addr} (x : Ext T (some s) H H1) (q : Src H s) : Src H1 s := x.sr s rfl q
theorem Ext.same (x : Same H H1) (fr : ∀ b, H1 b = none → H b = none) : Ext T so H H1 := ⟨fun b o _ _ h => x b o h, fun h => h.ext x, fun b _ ⟨i, j, h, r⟩ => ⟨i, j, x b _ h, r⟩, fr⟩
theorem new_ne {b : Addr} (n : H b = none) {o : HO} (h : H a = some o) : a ≠ b := ne_of_none h n
end
/-! ### three comparisons in a row -/
def tChain3 (r r' r'' : R2) (ta tb tc td : TE) : TE := fun σ H Q => ta σ H fun x H1 => tb σ H1 fun y H2 => r x y H2 fun z H3 => ∃ k, z = .bl k ∧
  (if k = true then tc σ H3 fun w H4 => r' y w H4 fun z' H5 => ∃ k', z' = .bl k' ∧ (if k' = true then td σ H5 fun u H6 => r'' w u H6 Q else Q (.bl false) H5) else Q (.bl false) H3)
theorem pe_chain3 {X : Cx} {a b c d : Expr} {ta tb tc td : TE} {pos : Pos} {op op' op'' : CmpOp} {r r' r'' : R2} (ho : OpR X (compareOp op) r) (ho' : OpR X (compareOp op') r') (ho'' : OpR X (compareOp op'') r'') (ha : PE X a ta) (hb : PE X b tb) (hc : PE X c tc) (hd : PE X d td)
    (hm : lastMarks [op, op', op''] [b, c, d] = false := by with_unfolding_all rfl) : PE X (.Compare a [op, op', op''] [b, c, d] pos) (tChain3 r r' r'' ta tb tc td) := by
  refine ⟨fun pins s σ H Q I h => ?_⟩
  refine Compare_chain (thn (ha.run pins s σ H _ I h) fun v s1 ⟨x, H1, I1, r1, q1⟩ => chain_link (thn (hb.run pins s1 σ H1 _ I1 q1) fun u s2 ⟨y, H2, I2, r2, q2⟩ =>
    thn (ho pins s2 σ H2 x y v u _ I2 r1 r2 q2) fun d s3 ⟨z, H3, I3, r3, k, e, q3⟩ => ?_)) hm
  subst e
  cases r3
  refine wpAny_truthy_bool ?_
  cases k with
  | false => exact ite_ff ⟨.bl false, H3, I3, rfl, q3⟩
  | true =>
    refine ite_tt (chain_link (thn (hc.run pins s3 σ H3 _ I3 q3) fun w' s4 ⟨z', H4, I4, r4, q4⟩ => thn (ho' pins s4 σ H4 y z' u w' _ I4 r2 r4 q4) fun d2 s5 ⟨z2, H5, I5, r5, k2, e2, q5⟩ => ?_))
    subst e2
    cases r5
    refine wpAny_truthy_bool ?_
    cases k2 with
    | false => exact ite_ff ⟨.bl false, H5, I5, rfl, q5⟩
    | true => exact ite_tt (chain_last (thn (hd.run pins s5 σ H5 _ I5 q5) fun w2 s6 ⟨z3, H6, I6, r6, q6⟩ => ho'' pins s6 σ H6 z' z3 w' w2 Q I6 r4 r6 q6))
/-! ### where a def of the text stands -/
structure DefAt (K : PySem.W.Frag) (mg : Str → Option Value) (x qual : Str) (st : Stmt) (ps : List Str) (f : Addr) (fd : FuncData) : Prop where
  fn : Fun K x qual st f fd
  bd : L2.Binds K fd ps []
theorem iteB {c : Bool} {A B : Prop} (h1 : c = true → A) (h2 : c = false → B) : if c = true then A else B := by
  cases c with
  | true => exact iteT (h1 rfl)
  | false => exact iteF (h2 rfl)
end R
end

-- Text
section
set_option Elab.async false
set_option linter.all false
set_option maxRecDepth 100000
set_option maxHeartbeats 4000000
/-! Text: the program's text by places, what its top leaves. -/
namespace R
open PySem PySem.Spec PyProof.Rows L2 LamX NdefX LamP
/-! ### the text by places -/
def top (i : Nat) : Stmt := PySem.Challenge.pw_pairfloors_k53_lots_by_surplus_add_up.main.body.getD i (.Pass ⟨0, 0, 0, 0⟩)
abbrev s_Refused_init : Stmt := inClass (top 2) 0
abbrev s_check_count : Stmt := top 6
abbrev s_side_lot : Stmt := top 10
abbrev s_ways_on : Stmt := top 11
abbrev s_Lpool : Stmt := top 13
abbrev s_Ltake : Stmt := top 14
abbrev s_Lone : Stmt := top 15
abbrev s_Lkeys : Stmt := top 16
abbrev s_Lwhole : Stmt := top 17
abbrev s_law : Stmt := top 18
abbrev N_Refused_init : List Str := ["self", "what"]
theorem sc_Refused_init : FnScope N_Refused_init ["self", "what"] (defScope s_Refused_init) := ⟨rfl, rfl, rfl, by decide +kernel, rfl, by decide +kernel, by decide +kernel⟩
abbrev N_check_count : List Str := ["number", "least", "most"]
theorem sc_check_count : FnScope N_check_count ["number", "least", "most"] (defScope s_check_count) := ⟨rfl, rfl, rfl, by decide +kernel, rfl, by decide +kernel, by decide +kernel⟩
abbrev N_side_lot : List Str := ["light", "dark", "surplus", "ways", "over", "more"]
theorem sc_side_lot : FnScope N_side_lot ["light", "dark", "surplus"] (defScope s_side_lot) := ⟨rfl, rfl, rfl, by decide +kernel, rfl, by decide +kernel, by decide +kernel⟩
abbrev N_ways_on : List Str := ["ways", "over", "more", "found", "light", "many", "dark", "a"]
theorem sc_ways_on : FnScope N_ways_on ["ways", "over", "more"] (defScope s_ways_on) := ⟨rfl, rfl, rfl, by decide +kernel, rfl, by decide +kernel, by decide +kernel⟩
abbrev N_Lpool : List Str := ["_law_script", "_law_k", "_law_cell", "_law_big", "_law_mixed"]
theorem sc_Lpool : FnScope N_Lpool ["_law_script", "_law_k"] (defScope s_Lpool) := ⟨rfl, rfl, rfl, by decide +kernel, rfl, by decide +kernel, by decide +kernel⟩
abbrev N_Ltake : List Str := ["_law_source", "_law_top", "_law_drawn"]
theorem sc_Ltake : FnScope N_Ltake ["_law_source", "_law_top"] (defScope s_Ltake) := ⟨rfl, rfl, rfl, by decide +kernel, rfl, by decide +kernel, by decide +kernel⟩
abbrev N_Lone : List Str := ["_law_source", "_law_things"]
theorem sc_Lone : FnScope N_Lone ["_law_source", "_law_things"] (defScope s_Lone) := ⟨rfl, rfl, rfl, by decide +kernel, rfl, by decide +kernel, by decide +kernel⟩
abbrev N_Lkeys : List Str := ["_law_ups", "_law_downs", "_law_shades", "_law_due", "_law_rows", "_law_turn", "_law_longer", "_law_row", "_law_d"]
theorem sc_Lkeys : FnScope N_Lkeys ["_law_ups", "_law_downs", "_law_shades", "_law_due"] (defScope s_Lkeys) := ⟨rfl, rfl, rfl, by decide +kernel, rfl, by decide +kernel, by decide +kernel⟩
abbrev N_Lwhole : List Str := ["_law_ups", "_law_downs", "_law_shades", "_law_many", "_law_found", "_law_number", "_law_key"]
theorem sc_Lwhole : FnScope N_Lwhole ["_law_ups", "_law_downs", "_law_shades", "_law_many"] (defScope s_Lwhole) := ⟨rfl, rfl, rfl, by decide +kernel, rfl, by decide +kernel, by decide +kernel⟩
abbrev N_law : List Str := ["_law_script", "_law_source", "_law_shades", "_law_most", "_law_cells", "_law_ups", "_law_many", "_law_turn", "_law_downs"]
theorem sc_law : FnScope N_law ["_law_script"] (defScope s_law) := ⟨rfl, rfl, rfl, by decide +kernel, rfl, by decide +kernel, by decide +kernel⟩
/-! ### what the top leaves -/
structure FunC (K : PySem.W.Frag) (x qual : Str) (st : Stmt) (f : Addr) (fd : FuncData) (c : Addr) : Prop where
  ex : ∃ (oc : Value) (od : Option Addr) (kV doc pm : Value) (an : Option Addr) (ct : Value) (osl : Array (Option Value)), fd = PySem.W.fnOf x qual (defArgs st) (defBody st) (defScope st) .none kV doc pm an (.ref c) ct ∧ K.lookup f = some ⟨oc, od, .func fd, osl⟩ ∧ PySem.W.codeIn K (.ref c) qual = true
structure ErrC (K : PySem.W.Frag) (mg : Str → Option Value) (x : Str) (fI C : Addr) : Prop where
  gC : mg x = some (.ref C)
  ox : OexC K C
  xf : XfC K C
  iC : PySem.W.findIn K (.ref C) "__init__" = some (some (.ref fI))
  nw : PySem.W.findIn K (.ref C) "what" = some none
structure Txt (K : PySem.W.Frag) (mg : Str → Option Value) : Type where
  a_Refused_init : Addr
  d_Refused_init : FuncData
  F_Refused_init : Fun K "__init__" "Refused.__init__" s_Refused_init a_Refused_init d_Refused_init
  b_Refused_init : L2.Binds K d_Refused_init ["self", "what"] []
  a_check_count : Addr
  d_check_count : FuncData
  F_check_count : Fun K "check_count" "check_count" s_check_count a_check_count d_check_count
  b_check_count : L2.Binds K d_check_count ["number", "least", "most"] []
  g_check_count : mg "check_count" = some (.ref a_check_count)
  a_side_lot : Addr
  d_side_lot : FuncData
  F_side_lot : Fun K "side_lot" "side_lot" s_side_lot a_side_lot d_side_lot
  b_side_lot : L2.Binds K d_side_lot ["light", "dark", "surplus"] []
  g_side_lot : mg "side_lot" = some (.ref a_side_lot)
  a_ways_on : Addr
  d_ways_on : FuncData
  F_ways_on : Fun K "ways_on" "ways_on" s_ways_on a_ways_on d_ways_on
  b_ways_on : L2.Binds K d_ways_on ["ways", "over", "more"] []
  g_ways_on : mg "ways_on" = some (.ref a_ways_on)
  a_Lpool : Addr
  d_Lpool : FuncData
  F_Lpool : Fun K "_law_pool" "_law_pool" s_Lpool a_Lpool d_Lpool
  b_Lpool : L2.Binds K d_Lpool ["_law_script", "_law_k"] []
  g_Lpool : mg "_law_pool" = some (.ref a_Lpool)
  a_Ltake : Addr
  d_Ltake : FuncData
  F_Ltake : Fun K "_law_take" "_law_take" s_Ltake a_Ltake d_Ltake
  b_Ltake : L2.Binds K d_Ltake ["_law_source", "_law_top"] []
  g_Ltake : mg "_law_take" = some (.ref a_Ltake)
  a_Lone : Addr
  d_Lone : FuncData
  F_Lone : Fun K "_law_one" "_law_one" s_Lone a_Lone d_Lone
  b_Lone : L2.Binds K d_Lone ["_law_source", "_law_things"] []
  g_Lone : mg "_law_one" = some (.ref a_Lone)
  a_Lkeys : Addr
  d_Lkeys : FuncData
  F_Lkeys : Fun K "_law_keys" "_law_keys" s_Lkeys a_Lkeys d_Lkeys
  b_Lkeys : L2.Binds K d_Lkeys ["_law_ups", "_law_downs", "_law_shades", "_law_due"] []
  g_Lkeys : mg "_law_keys" = some (.ref a_Lkeys)
  a_Lwhole : Addr
  d_Lwhole : FuncData
  F_Lwhole : Fun K "_law_whole" "_law_whole" s_Lwhole a_Lwhole d_Lwhole
  b_Lwhole : L2.Binds K d_Lwhole ["_law_ups", "_law_downs", "_law_shades", "_law_many"] []
  g_Lwhole : mg "_law_whole" = some (.ref a_Lwhole)
  a_law : Addr
  d_law : FuncData
  F_law : Fun K "law" "law" s_law a_law d_law
  b_law : L2.Binds K d_law ["_law_script"] []
  g_law : mg "law" = some (.ref a_law)
  C_Refused : Addr
  e_Refused : ErrC K mg "Refused" a_Refused_init C_Refused
  C_BadCount : Addr
  e_BadCount : ErrC K mg "BadCount" a_Refused_init C_BadCount
  C_BadAnswer : Addr
  e_BadAnswer : ErrC K mg "BadAnswer" a_Refused_init C_BadAnswer
  tI : PySem.W.typeIn K (.ref a_Refused_init) = some (.type "function")
  x_Refused_Refused : PySem.W.exmOne K (.ref C_Refused) (.ref C_Refused) = some true
  x_Refused_BadCount : PySem.W.exmOne K (.ref C_Refused) (.ref C_BadCount) = some false
  x_Refused_BadAnswer : PySem.W.exmOne K (.ref C_Refused) (.ref C_BadAnswer) = some false
  x_BadCount_Refused : PySem.W.exmOne K (.ref C_BadCount) (.ref C_Refused) = some true
  x_BadCount_BadCount : PySem.W.exmOne K (.ref C_BadCount) (.ref C_BadCount) = some true
  x_BadCount_BadAnswer : PySem.W.exmOne K (.ref C_BadCount) (.ref C_BadAnswer) = some false
  x_BadAnswer_Refused : PySem.W.exmOne K (.ref C_BadAnswer) (.ref C_Refused) = some true
  x_BadAnswer_BadCount : PySem.W.exmOne K (.ref C_BadAnswer) (.ref C_BadCount) = some false
  x_BadAnswer_BadAnswer : PySem.W.exmOne K (.ref C_BadAnswer) (.ref C_BadAnswer) = some true
  t_MOST_CELLS : Tok
  c_MOST_CELLS : mg "MOST_CELLS" = some (.int 40 t_MOST_CELLS)
  t_MOST_COATS : Tok
  c_MOST_COATS : mg "MOST_COATS" = some (.int 6 t_MOST_COATS)
  n_bool : mg "bool" = none
  n_int : mg "int" = none
  n_isinstance : mg "isinstance" = none
  n_len : mg "len" = none
  n_max : mg "max" = none
  n_min : mg "min" = none
  n_range : mg "range" = none
  n_sum : mg "sum" = none
  m_comb : mg "comb" = some (.builtin "math.comb")
end R
end

-- Draw
section
set_option Elab.async false
set_option linter.all false
set_option maxRecDepth 100000
set_option maxHeartbeats 4000000
set_option exponentiation.threshold 100
/-! Draw: the laws' own draws over any text that has them. -/
namespace R
open PySem PySem.Spec PyProof.Rows L2 LamX NdefX LamP
def Ret (T : List NTab) (H : Hp) (Q : VK) (P : V → Hp → Prop) : Prop := ∀ v H', Ext T none H H' → P v H' → Q v H'
def RetV (T : List NTab) (H : Hp) (Q : VK) (v : V) : Prop := ∀ H', Ext T none H H' → Q v H'
theorem seq_cut {t R : TS} {D : Ends} {σ : L2.St} {H : Hp} (J : L2.St → Hp → Prop) (h1 : ∀ R' : L2.St → Hp → Prop, (∀ σ' H', J σ' H' → R' σ' H') → t { D with nx := R' } σ H) (h2 : ∀ σ' H', J σ' H' → R D σ' H') : tSeq t R D σ H := h1 (R D) h2
theorem iteF' {c : Bool} {A B : Prop} (h : c = false) (k : B) : if c = true then A else B := by rw [h]; exact iteF k
theorem iteT' {c : Bool} {A B : Prop} (h : c = true) (k : A) : if c = true then A else B := by rw [h]; exact iteT k
theorem bits_lt {z : Int} (h : Builtin.Int.intBits z ≤ 1048576) : z.natAbs < 2 ^ 1048576 := by
  unfold Builtin.Int.intBits at h
  by_cases e : z = 0
  · subst e
    exact Nat.two_pow_pos _
  · rw [if_neg (by simpa using e)] at h
    exact Nat.lt_of_lt_of_le Nat.lt_log2_self (Nat.pow_le_pow_right (by decide) h)
theorem big_lt {c : Int} {v : Nat} (h : c.natAbs < 2 ^ 1048576) (hv : v ≤ c.natAbs) : v < 2 ^ BIG :=
  Nat.lt_of_le_of_lt hv (Nat.lt_of_lt_of_le h (Nat.pow_le_pow_right (by decide) (by unfold BIG; decide)))
section
variable {P : Program} {w : World} {K : PySem.W.Frag} {mg : Str → Option Value} {base : Heap}
theorem room65 {k : Nat} {A : Around} (r : Room k A) : A.units + 65 < cLine := by have := r.un; omega
/-- what a def that draws gives back: the source has moved on, nothing else has changed -/
def RetS (TT : List NTab) (so : Addr) (H : Hp) (Q : VK) (good : V → Hp → Prop) : Prop := ∀ v H', Ext TT (some so) H H' → Src H' so → good v H' → Q v H'
theorem Ext.srcSet {TT : List NTab} {so : Addr} {H H1 : Hp} {x y : Int} (x1 : Ext TT (some so) H H1) (s1 : Src H1 so) (hx : 0 ≤ x ∧ x.natAbs < 2 ^ BIG) (hy : 0 ≤ y ∧ y < 2147483647) :
    Ext TT (some so) H (upd H1 so (.lst [.int x, .int y])) ∧ Src (upd H1 so (.lst [.int x, .int y])) so := by
  obtain ⟨a, b, h, _⟩ := s1
  have me : Src (upd H1 so (.lst [.int x, .int y])) so := ⟨x, y, upd_same, hx.1, hx.2, hy.1, hy.2⟩
  refine ⟨⟨fun c o ne nt e => ?_, fun t => ?_, fun c e _ => ?_, fun c e => x1.fr c (upd_none' e)⟩, me⟩
  · rw [upd_ne (fun z => ne (by rw [z]))]
    exact x1.kp c o ne nt e
  · have q := x1.tb t
    intro p hp
    obtain ⟨ps, a1, a2, a3⟩ := q p hp
    refine ⟨ps, (upd_ne (ne_of a1 h (Ne.symm (lst_nt ps)))).trans a1, a2, fun pos cv hc => ?_⟩
    obtain ⟨d, e1, e2⟩ := a3 pos cv hc
    exact ⟨d, e1, (upd_ne (ne_of e2 h (Ne.symm (lst_nc d _)))).trans e2⟩
  · cases e
    exact me
/-- a source that the beginning does not know is forgotten -/
theorem Ext.dropS {TT : List NTab} {so : Addr} {H H1 H2 : Hp} (x : Ext TT none H H1) (n : H so = none) (y : Ext TT (some so) H1 H2) : Ext TT none H H2 :=
  ⟨fun b o _ nt e => y.kp b o (fun z => by cases z; rw [n] at e; cases e) nt (x.kp b o (fun z => nomatch z) nt e), fun t => y.tb (x.tb t), fun _ e => (nomatch e), fun b e => x.fr b (y.fr b e)⟩
theorem SqL.ext {TT : List NTab} {H H1 : Hp} {a : Addr} {xs : List V} (h : SqL K H a xs) (x : Ext TT none H H1) : SqL K H1 a xs := by
  rcases h with (h | ⟨o, h⟩) | h
  · exact .inl (.inl (x.lst h))
  · exact .inl (.inr ⟨o, x.kp a _ (fun z => nomatch z) frz_nt h⟩)
  · exact .inr h
/-- a new object: what is kept, and where it stands -/
theorem newX {TT : List NTab} {H H1 : Hp} {p : Addr} {o : HO} {so : Option Addr} (x : Ext TT so H H1) (n : H1 p = none) : Ext TT so H (upd H1 p o) ∧ upd H1 p o p = some o := ⟨x.trans (Ext.new n), upd_same⟩
def spTake (TT : List NTab) : Sp := fun vs H Q _ => ∃ (so : Addr) (n : Int), vs = [.ref so, .int n] ∧ Src H so ∧ 0 < n ∧ n < 2 ^ 62 ∧ RetS TT so H Q fun v _ => ∃ m : Int, v = .int m ∧ 0 ≤ m ∧ m < n
theorem ok_take (T : Txt K mg) (TT : List NTab) : FnOk P w K mg base CX0 1 T.a_Ltake T.d_Ltake ["_law_source", "_law_top"] (spTake TT) := by
  refine T.F_Ltake.ok sc_Ltake (fun vs H Q E h => ?_) (fun cdv A outer s H vs Q E hr h => ?_)
  · obtain ⟨so, n, rfl, _⟩ := h
    rfl
  · obtain ⟨so, n, rfl, hs, hn, hn2, k⟩ := h
    have nd := sc_Ltake.nd
    refine ⟨_, pss_cons (ps_if (pt_cmpR op_gt (pe_ix ix_list (pv 0) pe_int (fun _ _ => rfl)) pe_int (nomark _))
        (pss_cons (ps_set (i := 2) nd rfl (Or.inl rfl) (pe_op op_mod (pe_callTy call_int1 (by rfl) T.n_int (by decide +kernel) (pa_cons (pe_ix ix_list (pv 0) pe_int (fun _ _ => rfl)) pa_nil)) (pv 1)))
        (pss_cons (ps_asg (pe_op op_fdivW (pe_ix ix_list (pv 0) pe_int (fun _ _ => rfl)) (pv 1)) (pg_sub (pv 0) pe_int set_list))
        (pss_one (ps_ret (pv 2))))) pss_nil)
      (pss_cons (ps_asg (pe_op op_mod (pe_callTy call_int1 (by rfl) T.n_int (by decide +kernel) (pa_cons (pe_op op_add (pe_op op_mul (pe_ix ix_list (pv 0) pe_int (fun _ _ => rfl)) pe_int) pe_int) pa_nil)) pe_int) (pg_sub (pv 0) pe_int set_list))
      (pss_one (ps_ret (pe_op op_mod (pe_callTy call_int1 (by rfl) T.n_int (by decide +kernel) (pa_cons (pe_op op_fdiv (pe_op op_mod (pe_callTy call_int1 (by rfl) T.n_int (by decide +kernel) (pa_cons (pe_op op_mulW (pe_ix ix_list (pv 0) pe_int (fun _ _ => rfl)) (pe_ix ix_list (pv 0) pe_int (fun _ _ => rfl))) pa_nil)) pe_int) pe_int) pa_nil)) (pv 1))))), ?_⟩
    have hs0 := hs
    obtain ⟨x, y, h, hx0, hxB, hy0, hyB⟩ := hs
    have n30 : n.natAbs < 2 ^ 62 := by omega
    refine ⟨_, rfl, so, _, 0, _, rfl, rfl, SqL.of h, rfl, _, _, rfl, rfl, _, rfl, ?_⟩
    refine iteB (fun h0 => ?_) (fun h0 => ?_)
    · have hx : 0 < x := of_decide_eq_true h0
      refine ⟨_, rfl, so, _, 0, _, rfl, rfl, SqL.of h, rfl, .inl ⟨_, rfl, _, rfl, _, _, rfl, rfl, hn, ?_⟩⟩
      refine ⟨_, rfl, so, _, 0, _, rfl, rfl, SqL.of h, rfl, _, rfl, _, _, rfl, rfl, wide_div hn n30 (by omega) (by omega), ?_⟩
      refine ⟨_, rfl, so, _, 0, 0, rfl, rfl, h, rfl, ?_⟩
      have d0 : 0 ≤ x / n := Int.ediv_nonneg hx0 (by omega)
      have d1 : x / n ≤ x := Int.ediv_le_self n hx0
      obtain ⟨e1, e2⟩ := (Ext.refl TT (some so) H).srcSet (x := x / n) (y := y) hs0 ⟨d0, wide_le d0 d1 hxB⟩ ⟨hy0, hyB⟩
      exact ⟨_, rfl, k _ _ e1 e2 ⟨_, rfl, Int.emod_nonneg _ (by omega), Int.emod_lt_of_pos _ hn⟩⟩
    · refine ⟨_, rfl, so, _, 1, _, rfl, rfl, SqL.of h, rfl, _, _, rfl, rfl, .inr (by omega), _, _, rfl, rfl, .inl ⟨_, rfl, _, _, rfl, rfl, by omega, ?_⟩⟩
      refine ⟨_, rfl, so, _, 1, 1, rfl, rfl, h, rfl, ?_⟩
      have m0 : 0 ≤ (y * 39373 + 7) % 2147483647 := Int.emod_nonneg _ (by omega)
      have m1 : (y * 39373 + 7) % 2147483647 < 2147483647 := Int.emod_lt_of_pos _ (by omega)
      obtain ⟨e1, e2⟩ := (Ext.refl TT (some so) H).srcSet (x := x) (y := (y * 39373 + 7) % 2147483647) hs0 ⟨hx0, hxB⟩ ⟨m0, m1⟩
      dsimp only [List.set]
      generalize (y * 39373 + 7) % 2147483647 = z at m0 m1 e1 e2 ⊢
      have zb : z.natAbs < 2 ^ 31 := by omega
      refine ⟨_, rfl, so, _, 1, _, rfl, rfl, SqL.of upd_same, rfl, _, rfl, so, _, 1, _, rfl, rfl, SqL.of upd_same, rfl, _, _, rfl, rfl, wide_mul (a := 31) (b := 31) zb zb (by decide) (by decide) (by decide), .inl ⟨_, rfl, _, _, rfl, rfl, by omega, ?_⟩⟩
      have q0 : 0 ≤ z * z % 2147483629 := Int.emod_nonneg _ (by omega)
      have q1 : z * z % 2147483629 < 2147483629 := Int.emod_lt_of_pos _ (by omega)
      refine ⟨_, _, rfl, rfl, ⟨by decide, by decide⟩, .inl ⟨_, rfl, _, rfl, _, _, rfl, rfl, hn, ?_⟩⟩
      exact k _ _ e1 e2 ⟨_, rfl, Int.emod_nonneg _ (by omega), Int.emod_lt_of_pos _ hn⟩
def spOne (TT : List NTab) : Sp := fun vs H Q _ => ∃ (so l : Addr) (xs : List V), vs = [.ref so, .ref l] ∧ Src H so ∧ H l = some (.lst xs) ∧ l ≠ so ∧ 0 < xs.length ∧ xs.length < 1000 ∧ RetS TT so H Q fun v _ => v ∈ xs
theorem atI_in {α : Type} {xs : List α} {m : Int} (h0 : 0 ≤ m) (h : m < xs.length) : ∃ v, atI xs m = some v ∧ v ∈ xs := by
  obtain ⟨k, rfl⟩ : ∃ k : Nat, m = (k : Int) := ⟨m.toNat, by omega⟩
  have hk : k < xs.length := by omega
  exact ⟨xs[k], atI_nat (List.getElem?_eq_getElem hk), List.getElem_mem hk⟩
theorem ok_one (T : Txt K mg) (TT : List NTab) : FnOk P w K mg base CX0 2 T.a_Lone T.d_Lone ["_law_source", "_law_things"] (spOne TT) := by
  refine T.F_Lone.ok sc_Lone (fun vs H Q E h => ?_) (fun cdv A outer s H vs Q E hr h => ?_)
  · obtain ⟨so, l, xs, rfl, _⟩ := h
    rfl
  · obtain ⟨so, l, xs, rfl, hs, hl, ne, h0, h1, k⟩ := h
    refine ⟨_, pss_one (ps_ret (pe_ix ix_list (pv 1) (pe_call (ok_take T TT) (hr.mono (by decide)) rfl T.g_Ltake T.F_Ltake.kp T.b_Ltake .nil pass0 (pa_cons (pv 0) (pa_cons (pe_callB call_len_seq (by rfl) T.n_len PySem.boot_len (pa_cons (pv 1) pa_nil)) pa_nil))) (fun _ _ => rfl))), ?_⟩
    refine ⟨_, rfl, _, rfl, _, rfl, l, _, rfl, .inl (SqL.of hl), so, _, rfl, hs, by omega, by omega, fun v H1 x1 s1 hv => ?_⟩
    obtain ⟨m, rfl, m0, m1⟩ := hv
    obtain ⟨v, hv, hm⟩ := atI_in m0 m1
    exact ⟨l, _, m, v, rfl, rfl, SqL.of (x1.lstS ne hl), hv, k _ _ x1 s1 hm⟩
theorem src_ne {H : Hp} {so l : Addr} (q : Src H so) (n : H l = none) : l ≠ so := fun z => by
  obtain ⟨_, _, e, _⟩ := q
  rw [← z, n] at e
  cases e
def spPool (K : PySem.W.Frag) (TT : List NTab) : Sp := fun vs H Q _ => ∃ (l : Addr) (ns : List Int) (k : Int), vs = [.ref l, .int k] ∧ 0 ≤ k ∧ k < 1000 ∧ SqL K H l (ns.map V.int) ∧ (∀ z ∈ ns, Builtin.Int.intBits z ≤ 1048576) ∧ Ret TT H Q fun v H' => ∃ so, v = .ref so ∧ Src H' so ∧ H so = none
theorem ok_pool (T : Txt K mg) (TT : List NTab) : FnOk P w K mg base CX0 1 T.a_Lpool T.d_Lpool ["_law_script", "_law_k"] (spPool K TT) := by
  refine T.F_Lpool.ok sc_Lpool (fun vs H Q E h => ?_) (fun cdv A outer s H vs Q E hr h => ?_)
  · obtain ⟨l, ns, k, rfl, _⟩ := h
    rfl
  · obtain ⟨l, ns, k, rfl, k0, k1, hl, hb, q⟩ := h
    have nd := sc_Lpool.nd
    refine ⟨_, pss_cons (ps_set (i := 2) nd rfl (Or.inl rfl) pe_int)
      (pss_cons (ps_if (pt_cmpR op_lt (pv 1) (pe_callB call_len_seq (by rfl) T.n_len PySem.boot_len (pa_cons (pv 0) pa_nil)) (nomark _)) (pss_one (ps_set (i := 2) nd rfl (Or.inl rfl) (pe_ix ix_list (pv 0) (pv 1) (fun _ _ => rfl))))
        (pss_one (ps_if (pt_truth (pv 0) (by intro _; rfl)) (pss_one (ps_set (i := 2) nd rfl (Or.inl rfl) (pe_ix ix_list (pv 0) pe_int (fun _ _ => rfl)))) pss_nil)))
      (pss_cons (ps_set (i := 3) nd rfl (Or.inl rfl) (pe_callB (call_max2 rfl) (by rfl) T.n_max (by decide +kernel) (pa_cons (pe_callTy call_int1 (by rfl) T.n_int (by decide +kernel) (pa_cons (pv 2) pa_nil)) (pa_cons (pe_callTy call_int1 (by rfl) T.n_int (by decide +kernel) (pa_cons (pe_op op_sub (pe_un un_neg pe_int) (pv 2)) pa_nil)) pa_nil))))
      (pss_cons (ps_set (i := 4) nd rfl (Or.inl rfl) (pe_op op_mod (pe_callTy call_int1 (by rfl) T.n_int (by decide +kernel) (pa_cons (pe_op op_mul (pe_op op_add (pe_op op_add (pe_op op_add (pe_op op_mod (pe_callTy call_int1 (by rfl) T.n_int (by decide +kernel) (pa_cons (pv 3) pa_nil)) pe_int)
          (pe_op op_mul (pe_op op_mul pe_int (pv 1)) (pv 1))) (pe_op op_mul pe_int (pv 1))) pe_int) pe_int) pa_nil)) pe_int))
      (pss_one (ps_ret (pe_lst (pa_cons (pe_op op_mul (pv 3) (pe_callTy call_int1 (by rfl) T.n_int (by decide +kernel) (pa_cons (pe_cmpR op_ge (pv 3) (pe_op op_pow pe_int pe_int) (nomark _)) pa_nil))) (pa_cons (pv 4) pa_nil)))))))), ?_⟩
    dsimp only
    refine seq_cut (fun σ H' => H = H' ∧ σ = [some (.ref l), some (.int k), some (.int 0), none, none]) (fun R join => join _ _ ⟨rfl, rfl⟩) ?_
    rintro σ _ ⟨rfl, rfl⟩
    refine seq_cut (fun σ H' => H = H' ∧ ∃ c : Int, c.natAbs < 2 ^ 1048576 ∧ σ = [some (.ref l), some (.int k), some (.int c), none, none]) (fun R join => ?_) ?_
    · refine ⟨_, rfl, _, rfl, l, _, rfl, .inl hl, _, _, rfl, rfl, _, rfl, ?_⟩
      refine iteB (fun h => ?_) (fun h => ?_)
      · have h0 : k < ((ns.map V.int).length : Nat) := of_decide_eq_true h
        rw [List.length_map] at h0
        obtain ⟨j, rfl⟩ : ∃ j : Nat, k = (j : Int) := ⟨k.toNat, by omega⟩
        have hj : j < ns.length := by omega
        refine ⟨_, rfl, _, rfl, l, _, _, .int ns[j], rfl, rfl, hl, atI_nat (by rw [List.getElem?_map, List.getElem?_eq_getElem hj]; rfl), ?_⟩
        exact join _ _ ⟨rfl, _, bits_lt (hb _ (List.getElem_mem hj)), rfl⟩
      · refine ⟨_, rfl, _, .inl ⟨_, hl, rfl⟩, ?_⟩
        cases ns with
        | nil => exact iteF' rfl (join _ _ ⟨rfl, 0, Nat.two_pow_pos _, rfl⟩)
        | cons c r =>
          refine iteT' rfl ⟨_, rfl, l, _, 0, .int c, rfl, rfl, hl, atI_nat (j := 0) rfl, ?_⟩
          exact join _ _ ⟨rfl, _, bits_lt (hb _ List.mem_cons_self), rfl⟩
    · rintro σ _ ⟨rfl, c, hcb, rfl⟩
      obtain ⟨B, hB⟩ : ∃ B : Int, B = (if (-1 - c) > c then (-1 - c) else c) := ⟨_, rfl⟩
      have B0 : 0 ≤ B := by rw [hB]; split <;> omega
      have B1 : B.natAbs ≤ (c).natAbs := by rw [hB]; split <;> omega
      have BB := big_lt hcb B1
      have kk : 0 ≤ 7919 * k ∧ 7919 * k < 2 ^ 62 := by omega
      refine ⟨_, rfl, .inl ⟨_, rfl, _, rfl, _, rfl, _, _, rfl, rfl, .inl ⟨_, rfl, c, -1 - c, rfl, ?_⟩⟩⟩
      rw [← hB]
      refine ⟨_, rfl, .inl ⟨_, rfl, _, _, rfl, rfl, (by show (0 : Int) < 2147483629; decide), _, rfl, _, _, rfl, rfl, .inl ⟨by decide, by decide⟩, _, rfl, _, _, rfl, rfl, .inl ⟨by omega, by omega⟩, _, _, rfl, rfl, _, rfl, _, _, rfl, rfl, .inl ⟨by decide, by decide⟩, _, _, rfl, rfl, _, _, rfl, rfl, _, _, rfl, rfl, .inr ⟨by decide, by decide⟩, .inl ⟨_, rfl, _, _, rfl, rfl, (by show (0 : Int) < 2147483647; decide), ?_⟩⟩⟩
      refine ⟨_, rfl, _, rfl, _, _, rfl, rfl, ⟨by decide, by decide, by decide⟩, _, _, rfl, rfl, .inr ⟨_, rfl, _, _, rfl, rfl, .inr ?_, _, rfl, (by show 2 ≤ sizeLine; decide), fun so nso => ?_⟩⟩
      · split <;> exact ⟨by decide, by decide⟩
      · refine q _ _ (Ext.new nso) ⟨so, rfl, ⟨_, _, upd_same, ?_, ?_, Int.emod_nonneg _ (by decide), Int.emod_lt_of_pos _ (by decide)⟩, nso⟩
        · split
          · rw [Int.mul_one]; exact B0
          · rw [Int.mul_zero]; exact Int.le_refl _
        · split
          · rw [Int.mul_one]; exact BB
          · rw [Int.mul_zero]; exact Nat.two_pow_pos _
end
end R
end

-- Err
section
set_option Elab.async false
set_option linter.all false
set_option maxRecDepth 100000
set_option maxHeartbeats 4000000
namespace R
open PySem PySem.Spec PyProof.Rows L2 LamX NdefX LamP
/-! ### errors -/
def spErrInit (K : PySem.W.Frag) : Sp := fun vs H Q _ => ∃ (a C : Addr) (v : V), vs = [.ref a, v] ∧ OexC K C ∧ PySem.W.findIn K (.ref C) "what" = some none ∧ H a = some (exo a C none) ∧
  ∀ dx, H dx = none → dx ≠ a → Q .non (upd (upd H dx (exd dx [("what", v)])) a (exo a C (some dx)))
/-- an error of the class at C is wished, its what as P tells -/
def Rz (TT : List NTab) (E : XK) (H : Hp) (C : Addr) (P : V → Hp → Prop) : Prop := ∀ v d H', Ext TT none H H' → H' d = some (.xd [("what", v)]) → P v H' → E (.ref C) (some d) H'
theorem Rz.step {TT : List NTab} {E : XK} {H H1 : Hp} {C : Addr} {P : V → Hp → Prop} (h : Rz TT E H C P) (x : Ext TT none H H1) : Rz TT E H1 C P := fun v d H' y => h v d H' (x.trans y)
def tErr (C : Addr) (ta : TA) : L2.St → Hp → XK → Prop := fun σ H Q => ta σ H fun vs H1 => ∃ v, vs = [v] ∧ ∀ d, H1 d = none → Q (.ref C) (some d) (upd H1 d (.xd [("what", v)]))
section
variable {P : Program} {w : World} {K : PySem.W.Frag} {mg : Str → Option Value} {base : Heap}
theorem ok_err_init (T : Txt K mg) : FnOk P w K mg base CX0 1 T.a_Refused_init T.d_Refused_init ["self", "what"] (spErrInit K) := by
  refine T.F_Refused_init.ok sc_Refused_init (fun vs H Q E h => ?_) (fun cdv A outer s H vs Q E hr h => ?_)
  · obtain ⟨a, C, v, rfl, _⟩ := h
    rfl
  · obtain ⟨a, C, v, rfl, hC, hw, ha, k⟩ := h
    refine ⟨_, pss_one (ps_ost (pv 0) (pv 1)), ?_⟩
    exact ⟨_, rfl, _, rfl, a, C, rfl, hC, hw, .inl ⟨ha, k⟩⟩
theorem pa_mono {X : Cx} {es : List Expr} {ta : TA} (ha : PA X es ta) : PA X es (fun σ H Q2 => ∃ Q1 : List V → Hp → Prop, ta σ H Q1 ∧ ∀ vs H1, Q1 vs H1 → Q2 vs H1) := by
  refine ⟨fun pos pins s σ H Q I h => ?_⟩
  obtain ⟨Q1, h1, m⟩ := h
  exact wpAny_mono (ha.run pos pins s σ H Q1 I h1) (fun us s' ⟨vs, H', I', r, q⟩ => ⟨vs, H', I', r, m _ _ q⟩) fun _ _ x => x
theorem pmk_err {X : Cx} {x : Str} {C : Addr} {e : Expr} {ta : TA} {p pos : Pos} (T : Txt X.K X.mg) (hE : ErrC X.K X.mg x T.a_Refused_init C) (hr : Room 2 X.A) (hg : Gl X x) (ha : PA X [e] ta)
    (hdb : (x == ("__debug__" : Str)) = false := by decide) (he : starEach (e :: []) X.env = (false, eval e X.env) :: starEach [] X.env := by rfl) (hpl : (backTo pos (starEach [] X.env)).any (·.1) = false := by rfl) :
    PMk X (.Call (.Name x p) [e] [] pos) (tErr C ta) := by
  have q := pmk_oex (pos := pos) (p := p) hE.ox hE.iC T.tI (ok_err_init (P := X.prog) (w := X.w) (base := X.base) T) hr T.b_Refused_init .nil pass0 hg hE.gC (pa_mono ha) hdb he hpl
  intro pins s σ H Q I h
  refine q pins s σ H Q I ?_
  refine ⟨_, h, fun vs H1 hv => ?_⟩
  obtain ⟨v, rfl, k⟩ := hv
  refine ⟨(by show 1 ≤ 1000; decide), fun a na => ?_⟩
  refine ⟨a, C, v, rfl, hE.ox, hE.nw, upd_same, fun dx nd ne => ?_⟩
  have nd1 : H1 dx = none := by
    rw [upd_ne ne] at nd
    exact nd
  refine ⟨rfl, dx, [("what", v)], upd_same, by rw [upd_ne ne]; exact upd_same, nd1, ?_⟩
  have e1 : upd (del (upd (upd (upd H1 a (exo a C none)) dx (exd dx [("what", v)])) a (exo a C (some dx))) a) dx (.xd [("what", v)]) = upd H1 dx (.xd [("what", v)]) := by
    funext b
    by_cases hb : b = dx
    · rw [hb, upd_same, upd_same]
    · rw [upd_ne hb, upd_ne hb]
      by_cases hba : b = a
      · rw [hba, del_same, na]
      · rw [del_ne hba, upd_ne hba, upd_ne hb, upd_ne hba]
  rw [e1]
  exact k dx nd1
/-- a number is refused unless it lies within lo to hi -/
def spCheckCount (T : Txt K mg) (TT : List NTab) : Sp := fun vs H Q E => ∃ n lo hi : Int, vs = [.int n, .int lo, .int hi] ∧ ((lo ≤ n ∧ n ≤ hi) → Q .non H) ∧ (¬ (lo ≤ n ∧ n ≤ hi) → Rz TT E H T.C_BadCount fun v _ => v = .int n)
theorem ok_check_count (T : Txt K mg) (TT : List NTab) : FnOk P w K mg base (L2.CX P w) 3 T.a_check_count T.d_check_count ["number", "least", "most"] (spCheckCount T TT) := by
  refine T.F_check_count.okX sc_check_count (fun vs H Q E h => ?_) (fun cdv A outer s H vs Q E hr h => ?_)
  · obtain ⟨n, lo, hi, rfl, _⟩ := h
    rfl
  · obtain ⟨n, lo, hi, rfl, k1, k2⟩ := h
    refine ⟨_, pss_one (ps_if (pt_not (pt_chain op_le op_le (pv 1) (pv 0) (pv 2)))
      (pss_one (ps_raise rfl (takes_of rfl rfl rfl rfl) (pmk_err (C := T.C_BadCount) T T.e_BadCount hr rfl (pa_cons (pv 0) pa_nil)))) pss_nil), ?_⟩
    refine ⟨_, rfl, _, rfl, _, _, rfl, rfl, _, rfl, ?_⟩
    refine iteB (fun h => ?_) (fun h => ?_)
    · refine ⟨_, rfl, _, _, rfl, rfl, _, rfl, ?_⟩
      refine iteB (fun h2 => ?_) (fun h2 => ?_)
      · have h' : ¬ (lo ≤ n ∧ n ≤ hi) := fun z => by simp at h2; omega
        exact ⟨_, rfl, _, rfl, fun d nd => k2 h' _ _ _ (Ext.new nd) upd_same rfl⟩
      · have h' : lo ≤ n ∧ n ≤ hi := ⟨by simpa using h, by simpa using h2⟩
        exact k1 h'
    · refine ⟨_, rfl, ?_⟩
      refine iteT' rfl ?_
      have h' : ¬ (lo ≤ n ∧ n ≤ hi) := fun z => by simp at h; omega
      exact ⟨_, rfl, _, rfl, fun d nd => k2 h' _ _ _ (Ext.new nd) upd_same rfl⟩
end
end R
end

-- Comb
section
set_option Elab.async false
set_option linter.all false
set_option maxRecDepth 100000
set_option maxHeartbeats 4000000
/-! Comb: math.comb, as a rule of the hand layer. -/
namespace CombX
open PySem PySem.Spec PyProof.Rows L2
/-- numbers that are not negative, of a moderate size -/
def rComb : List V → Hp → VK → Prop := fun vs H Q => ∃ n k : Int, vs = [.int n, .int k] ∧ (0 ≤ n ∧ n < 2 ^ 64) ∧ (0 ≤ k ∧ k ≤ 9000) ∧ Q (.int (PySem.W.mcComb n k)) H
theorem cr_comb {X : Cx} : CallR X (.builtin "math.comb") rComb := by
  rintro pins s σ H vs us Q I r ⟨n, k, rfl, hn, hk, q⟩
  obtain ⟨t, u, rfl⟩ := Vals.int2 r
  exact PySem.W.mc_comb hn.1 hk.1 hn.2 (.inl hk.2) fun _ => ⟨.int _, _, I.tok _, ⟨_, rfl⟩, q⟩
end CombX
end

-- Bin
section
set_option Elab.async false
set_option linter.all false
set_option maxRecDepth 100000
set_option maxHeartbeats 4000000
/-! Bin: binomials, sums, lots with one surplus: the mathematics. -/
namespace BinX
open PySem
def sumTo : Nat → (Nat → Nat) → Nat
  | 0, _ => 0
  | n + 1, g => sumTo n g + g n
theorem sumTo_congr {n : Nat} {f g : Nat → Nat} (h : ∀ i, i < n → f i = g i) : sumTo n f = sumTo n g := by
  induction n with
  | zero => rfl
  | succ n ih =>
    show sumTo n f + f n = sumTo n g + g n
    rw [ih fun i hi => h i (by omega), h n (by omega)]
theorem sumTo_zero {n : Nat} {f : Nat → Nat} (h : ∀ i, i < n → f i = 0) : sumTo n f = 0 := by
  induction n with
  | zero => rfl
  | succ n ih =>
    show sumTo n f + f n = 0
    rw [ih fun i hi => h i (by omega), h n (by omega)]
theorem sumTo_mul (x : Nat) (g : Nat → Nat) : ∀ n, sumTo n (fun b => x * g b) = x * sumTo n g
  | 0 => rfl
  | n + 1 => by
    show sumTo n (fun b => x * g b) + x * g n = x * (sumTo n g + g n)
    rw [sumTo_mul x g n, Nat.mul_add]
theorem sumTo_one {n j : Nat} {f : Nat → Nat} (hj : j < n) (h : ∀ i, i < n → i ≠ j → f i = 0) : sumTo n f = f j := by
  induction n with
  | zero => omega
  | succ n ih =>
    show sumTo n f + f n = f j
    by_cases e : j = n
    · subst e
      rw [sumTo_zero fun i hi => h i (by omega) (by omega), Nat.zero_add]
    · rw [ih (by omega) fun i hi => h i (by omega), h n (by omega) (fun z => e z.symm), Nat.add_zero]
theorem sumTo_add (f g : Nat → Nat) : ∀ n, sumTo n (fun i => f i + g i) = sumTo n f + sumTo n g
  | 0 => rfl
  | n + 1 => by
    show sumTo n (fun i => f i + g i) + (f n + g n) = sumTo n f + f n + (sumTo n g + g n)
    rw [sumTo_add f g n]
    omega
/-- a list's sum of sums, the other way round -/
theorem sum_swap {α : Type} (n : Nat) (F : α → Nat → Nat) : ∀ L : List α, (L.map fun e => sumTo n (F e)).sum = sumTo n fun i => (L.map fun e => F e i).sum
  | [] => (sumTo_zero fun _ _ => rfl).symm
  | e :: r => by
    rw [List.map_cons, List.sum_cons, sum_swap n F r, ← sumTo_add]
    exact sumTo_congr fun i _ => by rw [List.map_cons, List.sum_cons]
def chN (n k : Nat) : Nat := (PySem.W.mcComb n k).toNat
theorem chN_eq (n k : Nat) : PySem.W.mcComb (n : Int) (k : Int) = ((chN n k : Nat) : Int) := by
  have h : 0 ≤ PySem.W.mcComb (n : Int) (k : Int) := (PySem.W.mc_comb_known (a := (n : Int)) (b := (k : Int)) (by omega) (by omega)).1
  unfold chN
  omega
theorem chN_big : ∀ n k : Fin 41, chN n.val k.val < 2 ^ 40 := by decide +kernel
theorem chN_self : ∀ n : Fin 41, chN n.val n.val = 1 := by decide +kernel
/-- the binomial theorem, for one to six coats -/
theorem binom : ∀ x : Fin 41, ∀ q : Fin 6, sumTo (x.val + 1) (fun a => chN x.val a * q.val ^ (x.val - a)) = (q.val + 1) ^ x.val := by decide +kernel
/-! ### how many ways: x light cells and y dark ones, the coats' surpluses s -/
def stepN (g : Nat → Nat → Nat) (m : Int) (x y : Nat) : Nat := sumTo (x + 1) fun a => if m ≤ (a : Int) ∧ (a : Int) - m ≤ (y : Int) then chN x a * chN y ((a : Int) - m).toNat * g (x - a) (y - ((a : Int) - m).toNat) else 0
def wN : List Int → Nat → Nat → Nat
  | [], x, y => if x = 0 ∧ y = 0 then 1 else 0
  | m :: s, x, y => stepN (wN s) m x y
theorem step_zero {g : Nat → Nat → Nat} {m : Int} {x y : Nat} (h : ∀ x' y' : Nat, x' ≤ x → y' ≤ y → (x' : Int) - y' = (x : Int) - y - m → g x' y' = 0) : stepN g m x y = 0 := by
  unfold stepN
  refine sumTo_zero fun a ha => ?_
  by_cases e : m ≤ (a : Int) ∧ (a : Int) - m ≤ (y : Int)
  · rw [if_pos e, h (x - a) (y - ((a : Int) - m).toNat) (by omega) (by omega) (by omega), Nat.mul_zero]
  · rw [if_neg e]
/-- a row that does not add up has no way -/
theorem wN_off : ∀ (s : List Int) (x y : Nat), s.sum ≠ (x : Int) - y → wN s x y = 0
  | [], x, y, h => by
    unfold wN
    rw [if_neg]
    rintro ⟨rfl, rfl⟩
    exact h rfl
  | m :: s, x, y, h => step_zero fun x' y' _ _ e => wN_off s x' y' (by rw [List.sum_cons] at h; omega)
/-- nor one with a last number that is out of reach -/
theorem wN_far : ∀ (r : List Int) (m : Int) (x y : Nat), ((x : Int) < m ∨ m < -(y : Int)) → wN (r ++ [m]) x y = 0
  | [], m, x, y, h => by
    show stepN (wN []) m x y = 0
    unfold stepN
    refine sumTo_zero fun a ha => ?_
    rw [if_neg (by omega)]
  | e :: r, m, x, y, h => step_zero fun x' y' h1 h2 _ => wN_far r m x' y' (by omega)
/-! ### all rows over the numbers lo .. lo + n - 1 -/
def rngI (lo : Int) (n : Nat) : List Int := (List.range n).map fun i => lo + ((i : Nat) : Int)
def rowsI (lo : Int) (n : Nat) : Nat → List (List Int)
  | 0 => [[]]
  | k + 1 => (rowsI lo n k).flatMap fun r => (rngI lo n).map fun e => r ++ [e]
theorem flat_congr {α β : Type} {f g : α → List β} : ∀ {L : List α}, (∀ e ∈ L, f e = g e) → L.flatMap f = L.flatMap g
  | [], _ => rfl
  | e :: r, h => by rw [List.flatMap_cons, List.flatMap_cons, h e List.mem_cons_self, flat_congr fun b hb => h b (List.mem_cons_of_mem _ hb)]
theorem rows_front (lo : Int) (n : Nat) : ∀ k, rowsI lo n (k + 1) = (rngI lo n).flatMap fun e => (rowsI lo n k).map fun r => e :: r
  | 0 => by
    show [[]].flatMap (fun r => (rngI lo n).map fun e => r ++ [e]) = (rngI lo n).flatMap fun e => [[]].map fun r => e :: r
    generalize rngI lo n = R
    rw [List.flatMap_singleton]
    induction R with
    | nil => rfl
    | cons e R ih => rw [List.map_cons, List.flatMap_cons, ih] <;> rfl
  | k + 1 => by
    refine Eq.trans (congrArg (fun L : List (List Int) => L.flatMap fun r => (rngI lo n).map fun e => r ++ [e]) (rows_front lo n k)) ?_
    show ((rngI lo n).flatMap fun e => (rowsI lo n k).map fun r => e :: r).flatMap (fun r => (rngI lo n).map fun e => r ++ [e]) = _
    rw [List.flatMap_assoc]
    refine flat_congr fun e _ => ?_
    rw [List.flatMap_map]
    show (rowsI lo n k).flatMap (fun r => (rngI lo n).map fun e' => e :: r ++ [e']) = ((rowsI lo n k).flatMap fun r => (rngI lo n).map fun e' => r ++ [e']).map fun r => e :: r
    rw [List.map_flatMap]
    refine flat_congr fun r _ => ?_
    rw [List.map_map] <;> rfl
/-- over all rows, the last number as it is due -/
def allW (lo : Int) (n k x y : Nat) : Nat := ((rowsI lo n k).map fun r => wN (r ++ [(x : Int) - y - r.sum]) x y).sum
theorem sum_flatMap {α : Type} (f : α → List Nat) : ∀ L : List α, (L.flatMap f).sum = (L.map fun e => (f e).sum).sum
  | [] => rfl
  | e :: r => by rw [List.flatMap_cons, List.sum_append, sum_flatMap f r, List.map_cons, List.sum_cons]
theorem sum_mul_list {α : Type} (c : Nat) (f : α → Nat) : ∀ L : List α, (L.map fun e => c * f e).sum = c * (L.map f).sum
  | [] => rfl
  | e :: r => by rw [List.map_cons, List.sum_cons, sum_mul_list c f r, List.map_cons, List.sum_cons, Nat.mul_add]
theorem sum_zero_list {α : Type} {f : α → Nat} {L : List α} (h : ∀ e ∈ L, f e = 0) : (L.map f).sum = 0 := by
  induction L with
  | nil => rfl
  | cons e r ih => rw [List.map_cons, List.sum_cons, h e List.mem_cons_self, ih fun b hb => h b (List.mem_cons_of_mem _ hb)]
/-- over the numbers of the range, those from a down to a - y -/
theorem sum_range_shift {lo : Int} {n a y : Nat} (F : Nat → Nat) (h1 : lo ≤ (a : Int) - y) (h2 : (a : Int) < lo + n) :
    ((rngI lo n).map fun e => if e ≤ (a : Int) ∧ (a : Int) - e ≤ (y : Int) then F ((a : Int) - e).toNat else 0).sum = sumTo (y + 1) F := by
  unfold rngI
  rw [List.map_map]
  have key : ∀ k : Nat, k ≤ n → (((List.range k).map ((fun e => if e ≤ (a : Int) ∧ (a : Int) - e ≤ (y : Int) then F ((a : Int) - e).toNat else 0) ∘ fun i => lo + ((i : Nat) : Int))).sum =
      sumTo (y + 1) fun b => if ((a : Int) - b) < lo + k then F b else 0) := by
    intro k
    induction k with
    | zero =>
      intro _
      rw [List.range_zero, List.map_nil, List.sum_nil, sumTo_zero]
      intro b hb
      rw [if_neg (by omega)]
    | succ k ih =>
      intro hk
      rw [List.range_succ, List.map_append, List.sum_append, ih (by omega)]
      have split : (sumTo (y + 1) fun b => if ((a : Int) - b) < lo + (k + 1 : Nat) then F b else 0) = (sumTo (y + 1) fun b => if ((a : Int) - b) < lo + k then F b else 0) + sumTo (y + 1) fun b => if ((a : Int) - b) = lo + k then F b else 0 := by
        rw [← sumTo_add]
        refine sumTo_congr fun b _ => ?_
        by_cases c1 : ((a : Int) - b) < lo + k
        · rw [if_pos c1, if_pos (by omega), if_neg (by omega), Nat.add_zero]
        · by_cases c2 : ((a : Int) - b) = lo + k
          · rw [if_neg c1, if_pos (by omega), if_pos c2, Nat.zero_add]
          · rw [if_neg c1, if_neg (by omega), if_neg c2]
      rw [split]
      refine congrArg (fun z : Nat => (sumTo (y + 1) fun b => if ((a : Int) - b) < lo + k then F b else 0) + z) ?_
      show (if lo + ((k : Nat) : Int) ≤ (a : Int) ∧ (a : Int) - (lo + ((k : Nat) : Int)) ≤ (y : Int) then F ((a : Int) - (lo + ((k : Nat) : Int))).toNat else 0) + 0 = _
      rw [Nat.add_zero]
      by_cases c : lo + ((k : Nat) : Int) ≤ (a : Int) ∧ (a : Int) - (lo + ((k : Nat) : Int)) ≤ (y : Int)
      · rw [if_pos c, sumTo_one (j := ((a : Int) - (lo + ((k : Nat) : Int))).toNat) (by omega)]
        · rw [if_pos (by omega)]
        · intro b hb ne
          rw [if_neg (by omega)]
      · rw [if_neg c, sumTo_zero]
        intro b hb
        rw [if_neg (by omega)]
  rw [key n (Nat.le_refl _)]
  refine sumTo_congr fun b hb => ?_
  rw [if_pos (by omega)]
theorem all_ways {lo : Int} {n : Nat} : ∀ (k x y : Nat), k ≤ 5 → x ≤ 40 → y ≤ 40 → lo ≤ -(y : Int) → (x : Int) < lo + n → allW lo n k x y = (k + 1) ^ (x + y)
  | 0, x, y, _, hx, hy, _, _ => by
    show wN ([] ++ [(x : Int) - y - ([] : List Int).sum]) x y + 0 = 1 ^ (x + y)
    rw [Nat.one_pow, Nat.add_zero]
    show stepN (wN []) ((x : Int) - y - 0) x y = 1
    unfold stepN
    rw [sumTo_one (j := x) (by omega)]
    · rw [if_pos (by omega), chN_self ⟨x, by omega⟩, show ((x : Int) - ((x : Int) - y - 0)).toNat = y by omega, chN_self ⟨y, by omega⟩]
      show 1 * 1 * (if x - x = 0 ∧ y - y = 0 then 1 else 0) = 1
      rw [if_pos (by omega)]
    · intro a ha ne
      by_cases e : (x : Int) - y - 0 ≤ (a : Int) ∧ (a : Int) - ((x : Int) - y - 0) ≤ (y : Int)
      · rw [if_pos e]
        show _ * (if x - a = 0 ∧ _ then 1 else 0) = 0
        rw [if_neg (by omega), Nat.mul_zero]
      · rw [if_neg e]
  | k + 1, x, y, hk, hx, hy, hlo, hhi => by
    have step : allW lo n (k + 1) x y = ((rngI lo n).map fun e => sumTo (x + 1) fun a => if e ≤ (a : Int) ∧ (a : Int) - e ≤ (y : Int) then chN x a * chN y ((a : Int) - e).toNat * allW lo n k (x - a) (y - ((a : Int) - e).toNat) else 0).sum := by
      unfold allW
      rw [rows_front, List.map_flatMap, sum_flatMap]
      refine congrArg List.sum (List.map_congr_left fun e _ => ?_)
      rw [List.map_map]
      show ((rowsI lo n k).map fun r => stepN (wN (r ++ [(x : Int) - y - (e :: r).sum])) e x y).sum = _
      unfold stepN
      rw [sum_swap]
      refine sumTo_congr fun a ha => ?_
      by_cases c : e ≤ (a : Int) ∧ (a : Int) - e ≤ (y : Int)
      · rw [if_pos c, ← sum_mul_list]
        refine congrArg List.sum (List.map_congr_left fun r _ => ?_)
        rw [if_pos c, show (x : Int) - y - (e :: r).sum = ((x - a : Nat) : Int) - ((y - ((a : Int) - e).toNat : Nat) : Int) - r.sum by rw [List.sum_cons]; omega]
      · rw [if_neg c]
        refine sum_zero_list fun r _ => ?_
        rw [if_neg c]
    rw [step, sum_swap]
    have inner : ∀ a, a < x + 1 → ((rngI lo n).map fun e => if e ≤ (a : Int) ∧ (a : Int) - e ≤ (y : Int) then chN x a * chN y ((a : Int) - e).toNat * allW lo n k (x - a) (y - ((a : Int) - e).toNat) else 0).sum = chN x a * (k + 1) ^ (x - a) * (k + 2) ^ y := by
      intro a ha
      have e1 : ∀ e : Int, (if e ≤ (a : Int) ∧ (a : Int) - e ≤ (y : Int) then chN x a * chN y ((a : Int) - e).toNat * allW lo n k (x - a) (y - ((a : Int) - e).toNat) else 0) =
          (if e ≤ (a : Int) ∧ (a : Int) - e ≤ (y : Int) then (fun b => chN x a * (k + 1) ^ (x - a) * (chN y b * (k + 1) ^ (y - b))) ((a : Int) - e).toNat else 0) := by
        intro e
        by_cases c : e ≤ (a : Int) ∧ (a : Int) - e ≤ (y : Int)
        · rw [if_pos c, if_pos c, all_ways k (x - a) (y - ((a : Int) - e).toNat) (by omega) (by omega) (by omega) (by omega) (by omega), Nat.pow_add]
          show chN x a * chN y _ * ((k + 1) ^ (x - a) * (k + 1) ^ _) = chN x a * (k + 1) ^ (x - a) * (chN y _ * (k + 1) ^ _)
          rw [Nat.mul_assoc, Nat.mul_assoc, Nat.mul_left_comm (chN y _)]
        · rw [if_neg c, if_neg c]
      rw [show (fun e : Int => if e ≤ (a : Int) ∧ (a : Int) - e ≤ (y : Int) then chN x a * chN y ((a : Int) - e).toNat * allW lo n k (x - a) (y - ((a : Int) - e).toNat) else 0) = _ from funext e1]
      rw [sum_range_shift (fun b => chN x a * (k + 1) ^ (x - a) * (chN y b * (k + 1) ^ (y - b))) (by omega) (by omega), sumTo_mul]
      have := binom ⟨y, by omega⟩ ⟨k + 1, by omega⟩
      dsimp only at this
      rw [this]
    rw [sumTo_congr inner]
    have e2 : (sumTo (x + 1) fun a => chN x a * (k + 1) ^ (x - a) * (k + 2) ^ y) = (k + 2) ^ y * sumTo (x + 1) fun a => chN x a * (k + 1) ^ (x - a) := by
      rw [← sumTo_mul]
      exact sumTo_congr fun a _ => Nat.mul_comm _ _
    rw [e2]
    have := binom ⟨x, by omega⟩ ⟨k + 1, by omega⟩
    dsimp only at this
    rw [this, Nat.pow_add, Nat.mul_comm]
end BinX
end

-- DictW
section
set_option Elab.async false
set_option linter.all false
set_option maxRecDepth 100000
set_option maxHeartbeats 4000000
/-! DictW: a dict of counts by number, as a list of pairs; its weighted sums. -/
namespace DictX
open PySem PySem.Spec PyProof.Rows L2 NdefX R BinX
abbrev Wy := List (Nat × Nat)
def hasW (W : Wy) (k : Nat) : Bool := W.any fun p => decide (p.1 = k)
def getW (W : Wy) (k : Nat) : Nat := ((W.find? fun p => decide (p.1 = k)).map (·.2)).getD 0
def addW (W : Wy) (k v : Nat) : Wy := if hasW W k = true then W.map (fun p => if p.1 = k then (k, getW W k + v) else p) else W ++ [(k, v)]
def kvsW (W : Wy) : List (Key × V) := W.map fun p => (Sum.inl ((p.1 : Nat) : Int), V.int ((p.2 : Nat) : Int))
theorem inl_cast {a b : Nat} : ((Sum.inl ((a : Nat) : Int) : Key) = Sum.inl ((b : Nat) : Int)) ↔ a = b := by
  constructor
  · intro h
    injection h with h
    omega
  · rintro rfl
    rfl
theorem dec_cast (a b : Nat) : decide ((Sum.inl ((a : Nat) : Int) : Key) = Sum.inl ((b : Nat) : Int)) = decide (a = b) := by
  by_cases h : a = b
  · rw [decide_eq_true h, decide_eq_true (inl_cast.mpr h)]
  · rw [decide_eq_false h, decide_eq_false (fun z => h (inl_cast.mp z))]
theorem val_get (W : Wy) (k : Nat) : ((valV (kvsW W) (Sum.inl ((k : Nat) : Int))).getD (V.int 0)) = V.int ((getW W k : Nat) : Int) := by
  unfold valV getW kvsW
  induction W with
  | nil => rfl
  | cons p r ih =>
    rw [List.map_cons, List.find?_cons, List.find?_cons]
    dsimp only
    rw [dec_cast]
    by_cases h : p.1 = k
    · rw [decide_eq_true h] <;> rfl
    · rw [decide_eq_false h]
      exact ih
theorem put_add (W : Wy) (k v : Nat) : putK (kvsW W) (Sum.inl ((k : Nat) : Int)) (V.int ((getW W k + v : Nat) : Int)) = kvsW (addW W k v) := by
  have e : ((kvsW W).any fun kv => decide (kv.1 = (Sum.inl ((k : Nat) : Int) : Key))) = hasW W k := by
    unfold kvsW hasW
    rw [List.any_map]
    refine List.any_congr rfl fun p => ?_
    exact dec_cast p.1 k
  unfold putK addW
  rw [e]
  by_cases h : hasW W k = true
  · rw [if_pos h, if_pos h]
    unfold kvsW
    rw [List.map_map, List.map_map]
    refine List.map_congr_left fun p _ => ?_
    show (if (Sum.inl ((p.1 : Nat) : Int) : Key) = Sum.inl ((k : Nat) : Int) then ((Sum.inl ((p.1 : Nat) : Int) : Key), V.int ((getW W k + v : Nat) : Int)) else _) = _
    by_cases z : p.1 = k
    · rw [if_pos (inl_cast.mpr z)]
      show _ = ((Sum.inl (((if p.1 = k then (k, getW W k + v) else p).1 : Nat) : Int) : Key), V.int (((if p.1 = k then (k, getW W k + v) else p).2 : Nat) : Int))
      rw [if_pos z, z]
    · rw [if_neg (fun y => z (inl_cast.mp y))]
      show _ = ((Sum.inl (((if p.1 = k then (k, getW W k + v) else p).1 : Nat) : Int) : Key), V.int (((if p.1 = k then (k, getW W k + v) else p).2 : Nat) : Int))
      rw [if_neg z]
  · rw [if_neg h, if_neg h]
    have g0 : getW W k = 0 := by
      unfold getW
      have : W.find? (fun p => decide (p.1 = k)) = none := by
        rw [List.find?_eq_none]
        intro p hp z
        exact h (List.any_eq_true.mpr ⟨p, hp, z⟩)
      rw [this] <;> rfl
    rw [g0, Nat.zero_add]
    unfold kvsW
    rw [List.map_append] <;> rfl
def sumW (W : Wy) (g : Nat → Nat) : Nat := (W.map fun p => p.2 * g p.1).sum
theorem keys_map (W : Wy) (k x : Nat) : (W.map fun p => if p.1 = k then (k, x) else p).map (·.1) = W.map (·.1) := by
  rw [List.map_map]
  refine List.map_congr_left fun p _ => ?_
  show (if p.1 = k then (k, x) else p).1 = p.1
  split
  · rename_i z
    exact z.symm
  · rfl
theorem sum_put : ∀ (W : Wy) (k v : Nat), (W.map (·.1)).Nodup → hasW W k = true → ∀ g, sumW (W.map fun p => if p.1 = k then (k, getW W k + v) else p) g = sumW W g + v * g k
  | [], _, _, _, h, _ => by cases h
  | p :: r, k, v, nd, h, g => by
    have nd := List.nodup_cons.mp nd
    by_cases e : p.1 = k
    · have gk : getW (p :: r) k = p.2 := by
        unfold getW
        rw [List.find?_cons, decide_eq_true e] <;> rfl
      have rest : (r.map fun q => if q.1 = k then (k, getW (p :: r) k + v) else q) = r := by
        conv => rhs; rw [← List.map_id r]
        refine List.map_congr_left fun q hq => ?_
        rw [if_neg]
        · rfl
        · intro z
          refine nd.1 ?_
          show p.1 ∈ _
          rw [e, ← z]
          exact List.mem_map_of_mem hq
      unfold sumW
      rw [List.map_cons, rest, if_pos e, gk, List.map_cons, List.sum_cons, List.map_cons, List.sum_cons]
      show (p.2 + v) * g k + _ = p.2 * g p.1 + _ + v * g k
      rw [e, Nat.add_mul]
      omega
    · have hr : hasW r k = true := by
        unfold hasW at h ⊢
        rw [List.any_cons, decide_eq_false e, Bool.false_or] at h
        exact h
      have gk : getW (p :: r) k = getW r k := by
        unfold getW
        rw [List.find?_cons, decide_eq_false e]
      have ih := sum_put r k v nd.2 hr g
      unfold sumW at ih ⊢
      rw [List.map_cons, gk, if_neg e, List.map_cons, List.sum_cons, ih, List.map_cons, List.sum_cons]
      omega
theorem sum_add {W : Wy} (nd : (W.map (·.1)).Nodup) (k v : Nat) (g : Nat → Nat) : sumW (addW W k v) g = sumW W g + v * g k := by
  unfold addW
  by_cases h : hasW W k = true
  · rw [if_pos h, sum_put W k v nd h g]
  · rw [if_neg h]
    unfold sumW
    rw [List.map_append, List.sum_append]
    simp
theorem keys_add {W : Wy} {k v : Nat} {p : Nat × Nat} (h : p ∈ addW W k v) : p.1 = k ∨ ∃ q ∈ W, q.1 = p.1 := by
  unfold addW at h
  split at h
  · obtain ⟨q, hq, rfl⟩ := List.mem_map.mp h
    split
    · exact .inl rfl
    · exact .inr ⟨q, hq, rfl⟩
  · rcases List.mem_append.mp h with z | z
    · exact .inr ⟨p, z, rfl⟩
    · cases List.mem_singleton.mp z
      exact .inl rfl
theorem nodup_add {W : Wy} (nd : (W.map (·.1)).Nodup) (k v : Nat) : ((addW W k v).map (·.1)).Nodup := by
  unfold addW
  by_cases h : hasW W k = true
  · rw [if_pos h, keys_map]
    exact nd
  · rw [if_neg h, List.map_append, List.nodup_append]
    refine ⟨nd, by simp, fun a ha b hb e => ?_⟩
    obtain ⟨p, hp, rfl⟩ := List.mem_map.mp ha
    have hb : b = k := by simpa using hb
    exact h (List.any_eq_true.mpr ⟨p, hp, decide_eq_true (e.trans hb)⟩)
theorem nodup_few : ∀ (n : Nat) (L : List Nat), L.Nodup → (∀ x ∈ L, x < n) → L.length ≤ n
  | 0, L, _, h => by
    cases L with
    | nil => exact Nat.le_refl _
    | cons x r => exact absurd (h x List.mem_cons_self) (by omega)
  | n + 1, L, nd, h => by
    by_cases m : n ∈ L
    · have h1 := nodup_few n (L.erase n) (nd.erase n) (fun x hx => by
        have := (List.Nodup.mem_erase_iff nd).mp hx
        have := h x this.2
        omega)
      rw [List.length_erase_of_mem m] at h1
      omega
    · have := nodup_few n L nd (fun x hx => by
        have h2 := h x hx
        have : x ≠ n := fun z => m (z ▸ hx)
        omega)
      omega
/-- the keys are the light cells left, 0 to 40, with 0 to 40 dark cells: over less -/
structure WOk (W : Wy) (over : Int) : Prop where
  nd : (W.map (·.1)).Nodup
  ok : ∀ p ∈ W, p.1 ≤ 40 ∧ 0 ≤ (p.1 : Int) - over ∧ (p.1 : Int) - over ≤ 40
theorem WOk.few {W : Wy} {over : Int} (h : WOk W over) : W.length ≤ 41 := by
  have := nodup_few 41 (W.map (·.1)) h.nd (fun x hx => by
    obtain ⟨p, hp, rfl⟩ := List.mem_map.mp hx
    have := (h.ok p hp).1
    omega)
  rw [List.length_map] at this
  exact this
theorem WOk.add {W : Wy} {over : Int} (h : WOk W over) {k v : Nat} (hk : k ≤ 40 ∧ 0 ≤ (k : Int) - over ∧ (k : Int) - over ≤ 40) : WOk (addW W k v) over :=
  ⟨nodup_add h.nd k v, fun p hp => by
    rcases keys_add hp with e | ⟨q, hq, e⟩
    · rw [e]
      exact hk
    · rw [← e]
      exact h.ok q hq⟩
theorem sum_get : ∀ {W : Wy}, (W.map (·.1)).Nodup → ∀ k, sumW W (fun j => if j = k then 1 else 0) = getW W k
  | [], _, _ => rfl
  | p :: r, nd, k => by
    have nd := List.nodup_cons.mp nd
    unfold sumW getW
    rw [List.map_cons, List.sum_cons, List.find?_cons]
    dsimp only
    by_cases e : p.1 = k
    · rw [decide_eq_true e, if_pos e]
      have rest : (r.map fun q => q.2 * if q.1 = k then 1 else 0).sum = 0 := sum_zero_list fun q hq => by
        rw [if_neg, Nat.mul_zero]
        intro z
        refine nd.1 ?_
        show p.1 ∈ _
        rw [e, ← z]
        exact List.mem_map_of_mem hq
      rw [rest, Nat.mul_one] <;> rfl
    · rw [decide_eq_false e, if_neg e, Nat.mul_zero, Nat.zero_add]
      exact sum_get nd.2 k
/-- a window of a sum, nothing outside -/
theorem sum_window {f : Nat → Nat} {b k n : Nat} (h1 : ∀ a, a < b → f a = 0) (h2 : ∀ a, b + k ≤ a → a < n → f a = 0) (hn : b + k ≤ n) : sumTo n f = sumTo k fun t => f (b + t) := by
  have e1 : ∀ k, sumTo (b + k) f = sumTo k fun t => f (b + t) := by
    intro k
    induction k with
    | zero => exact sumTo_zero h1
    | succ k ih =>
      show sumTo (b + k) f + f (b + k) = _
      rw [ih] <;> rfl
  have e2 : ∀ j, b + k + j ≤ n → sumTo (b + k + j) f = sumTo (b + k) f := by
    intro j
    induction j with
    | zero => intro _; rfl
    | succ j ih =>
      intro hj
      show sumTo (b + k + j) f + f (b + k + j) = _
      rw [ih (by omega), h2 _ (by omega) (by omega), Nat.add_zero]
  rw [← e1, ← e2 (n - (b + k)) (by omega), show b + k + (n - (b + k)) = n by omega]
/-- what one more coat comes to, as the program's range runs -/
theorem step_range {g : Nat → Nat → Nat} {m : Int} {x y lo : Nat} {hi : Int} (hlo : (lo : Int) = (if m > 0 then m else 0)) (hhi : hi = (if (y : Int) + m < (x : Int) then (y : Int) + m else (x : Int)) + 1) :
    stepN g m x y = sumTo (hi - (lo : Int)).toNat fun t => chN x (lo + t) * chN y (((lo + t : Nat) : Int) - m).toNat * g (x - (lo + t)) (y - (((lo + t : Nat) : Int) - m).toNat) := by
  have hl : (lo : Int) = m ∧ 0 < m ∨ lo = 0 ∧ m ≤ 0 := by
    split at hlo
    · exact .inl ⟨hlo, by omega⟩
    · exact .inr ⟨by omega, by omega⟩
  have hh : hi = (y : Int) + m + 1 ∧ (y : Int) + m < x ∨ hi = (x : Int) + 1 ∧ (x : Int) ≤ (y : Int) + m := by
    split at hhi
    · exact .inl ⟨hhi, by assumption⟩
    · exact .inr ⟨hhi, by omega⟩
  unfold stepN
  by_cases c : (lo : Int) < hi
  · have hlow : ∀ a, a < lo → (if m ≤ (a : Int) ∧ (a : Int) - m ≤ (y : Int) then chN x a * chN y ((a : Int) - m).toNat * g (x - a) (y - ((a : Int) - m).toNat) else 0) = 0 := fun a ha => if_neg (by omega)
    have hhigh : ∀ a, lo + (hi - (lo : Int)).toNat ≤ a → a < x + 1 → (if m ≤ (a : Int) ∧ (a : Int) - m ≤ (y : Int) then chN x a * chN y ((a : Int) - m).toNat * g (x - a) (y - ((a : Int) - m).toNat) else 0) = 0 := fun a ha hx => if_neg (by omega)
    rw [sum_window hlow hhigh (by omega)]
    refine sumTo_congr fun t ht => ?_
    rw [if_pos (by omega)]
  · rw [show (hi - (lo : Int)).toNat = 0 by omega]
    refine sumTo_zero fun a ha => if_neg (by omega)
/-! ### an object that is locked for a while -/
theorem mut_so {TT : List NTab} {D : Addr} {H H1 : Hp} {u o : HO} (x : Ext TT (some D) H H1) (h1 : H1 D = some u) (nt : ∀ ps, u ≠ .tbl ps) (nc : ∀ c q, u ≠ LamX.CodeO c q) (ns : ¬ Src H D) : Ext TT (some D) H (upd H1 D o) :=
  ⟨fun b w nb t e => by
    rw [upd_ne (fun z => nb (by rw [z]))]
    exact x.kp b w nb t e, fun h => by
    have q := x.tb h
    intro t ht
    obtain ⟨ps, a1, a2, a3⟩ := q t ht
    refine ⟨ps, by rw [upd_ne (ne_of a1 h1 (Ne.symm (nt ps)))]; exact a1, a2, fun pos cv hc => ?_⟩
    obtain ⟨c, e1, e2⟩ := a3 pos cv hc
    exact ⟨c, e1, by rw [upd_ne (ne_of e2 h1 (Ne.symm (nc c _)))]; exact e2⟩, fun b e q => by
    cases e
    exact absurd q ns, fun b e => x.fr b (upd_none' e)⟩
theorem un_lock {TT : List NTab} {d : Addr} {H H1 : Hp} {u v : HO} (x : Ext TT (some d) H H1) (h : H d = some u) (h1 : H1 d = some v) (nt : ∀ ps, v ≠ .tbl ps) (nc : ∀ c q, v ≠ LamX.CodeO c q) : Ext TT none H (upd H1 d u) :=
  ⟨fun b w _ t e => by
    by_cases z : b = d
    · subst z
      rw [upd_same, ← h, e]
    · rw [upd_ne z]
      exact x.kp b w (fun y => z (Option.some.inj y)) t e, fun h0 => by
    have q := x.tb h0
    intro t ht
    obtain ⟨ps, a1, a2, a3⟩ := q t ht
    refine ⟨ps, by rw [upd_ne (ne_of a1 h1 (Ne.symm (nt ps)))]; exact a1, a2, fun pos cv hc => ?_⟩
    obtain ⟨c, e1, e2⟩ := a3 pos cv hc
    exact ⟨c, e1, by rw [upd_ne (ne_of e2 h1 (Ne.symm (nc c _)))]; exact e2⟩, fun _ e => (nomatch e), fun b e => x.fr b (upd_none' e)⟩
end DictX
end

-- WaysOn
section
set_option Elab.async false
set_option linter.all false
set_option maxRecDepth 100000
set_option maxHeartbeats 4000000
namespace R
open PySem PySem.Spec PyProof.Rows L2 LamX NdefX LamP CombX BinX DictX
def nV (n : Nat) : V := .int (n : Int)
section
variable {P : Program} {w : World} {K : PySem.W.Frag} {mg : Str → Option Value} {base : Heap}
/-- what is told of the ways with one more coat laid -/
def Next (W W' : Wy) (over more : Int) : Prop := WOk W' (over - more) ∧ ∀ g : Nat → Nat → Nat, sumW W' (fun k => g k ((k : Int) - (over - more)).toNat) = sumW W fun k => stepN g more k ((k : Int) - over).toNat
def spWaysOn (TT : List NTab) : Sp := fun vs H Q _ => ∃ (d : Addr) (over more : Int) (W : Wy), vs = [.ref d, .int over, .int more] ∧ H d = some (.dK (kvsW W)) ∧ WOk W over ∧ more.natAbs < 2 ^ 61 ∧
  ∀ (D : Addr) (H' : Hp) (W' : Wy), Ext TT none H H' → H' D = some (.dK (kvsW W')) → Next W W' over more → Q (.ref D) H'
theorem dk_nt {kvs : List (Key × V)} (ps : Array Value) : (HO.dK kvs) ≠ .tbl ps := fun z => by cases z
theorem dk_nc {kvs : List (Key × V)} (c : Addr) (q : Str) : (HO.dK kvs) ≠ CodeO c q := fun z => by
  unfold CodeO at z
  cases z
theorem frz_nc {o : Obj} {u : HO} (c : Addr) (q : Str) : (HO.frz o u) ≠ CodeO c q := fun z => by
  unfold CodeO at z
  cases z
theorem kvs_at {W : Wy} {i : Nat} : (kvsW W)[i]? = (W[i]?).map fun p => (Sum.inl ((p.1 : Nat) : Int), V.int ((p.2 : Nat) : Int)) := by
  unfold kvsW
  rw [List.getElem?_map]
theorem ok_ways_on (T : Txt K mg) (TT : List NTab) : FnOk P w K mg base CX0 1 T.a_ways_on T.d_ways_on ["ways", "over", "more"] (spWaysOn TT) := by
  refine T.F_ways_on.ok sc_ways_on (fun vs H Q E h => ?_) (fun cdv A outer s H vs Q E hr h => ?_)
  · obtain ⟨d, over, more, W, rfl, _⟩ := h
    rfl
  · obtain ⟨d, over, more, W, rfl, hd, hW, hm, k⟩ := h
    have nd := sc_ways_on.nd
    refine ⟨_, (pss_cons (ps_set (i := 3) nd rfl (Or.inl rfl) pe_dnewK)
        (pss_cons (ps_lock (ps_for PassesOwn.never rfl (pi_items (pv 0)) (pg_tup rfl (pgs_cons (pg_name (i := 4) nd rfl (Or.inl rfl)) (pgs_cons (pg_name (i := 5) nd rfl (Or.inl rfl)) pgs_nil)))
          (pss_cons (ps_set (i := 6) nd rfl (Or.inl rfl) (pe_op op_sub (pv 4) (pv 1)))
        (pss_one (ps_for PassesOwn.never rfl (pi_range2 (by rfl) T.n_range (pa_cons (pe_callB (call_max2 rfl) (by rfl) T.n_max (by decide +kernel) (pa_cons pe_int (pa_cons (pv 2) pa_nil))) (pa_cons (pe_op op_add (pe_callB (call_min2 rfl) (by rfl) T.n_min (by decide +kernel) (pa_cons (pv 4) (pa_cons (pe_op op_add (pv 6) (pv 2)) pa_nil))) pe_int) pa_nil))) (pg_name (i := 7) nd rfl (Or.inl rfl))
          (pss_one (ps_dput (hu_of hr) (pv 3) (pe_op op_sub (pv 4) (pv 7)) (pe_op op_add (pe_dget2 (hu_of hr) (pv 3) (pe_op op_sub (pv 4) (pv 7)) pe_int ⟨rfl, rfl, rfl, rfl⟩) (pe_op op_mul (pe_op op_mul (pv 5) (pe_callBfun cr_comb (by rfl) T.m_comb (pa_cons (pv 4) (pa_cons (pv 7) pa_nil)))) (pe_callBfun cr_comb (by rfl) T.m_comb (pa_cons (pv 6) (pa_cons (pe_op op_sub (pv 7) (pv 2)) pa_nil))))) rfl)))))))
        (pss_one (ps_ret (pv 3))))), ?_⟩
    have few := hW.few
    have gen : ∀ A c B E : Nat, ((A : Nat) : Int) + (c : Int) * (B : Int) * (E : Int) = ((A + c * B * E : Nat) : Int) := fun A c B E => by rw [Int.natCast_add, Int.natCast_mul, Int.natCast_mul]
    refine fun D nD => ?_
    obtain ⟨x1, hD⟩ := newX (TT := TT) (so := some d) (o := .dK []) (Ext.refl _ _ H) nD
    have dD : d ≠ D := ne_of_none hd nD
    have hd1 : upd H D (.dK []) d = some (.dK (kvsW W)) := (upd_ne dD).trans hd
    have nsd : ¬ Src H d := fun ⟨_, _, z, _⟩ => by rw [hd] at z; cases z
    have ns0 : (some d : Option Addr) ≠ some D := fun z => dD (Option.some.inj z)
    generalize upd H D (.dK []) = H1 at x1 hD hd1 ⊢
    refine ⟨d, _, hd1, trivial, fun od => ?_⟩
    have x2 := mut_so (o := .frz od (.dK (kvsW W))) x1 hd1 dk_nt dk_nc nsd
    have hD2 : upd H1 d (.frz od (.dK (kvsW W))) D = some (.dK (kvsW [])) := (upd_ne (Ne.symm dD)).trans hD
    have hd2 : upd H1 d (.frz od (.dK (kvsW W))) d = some (.frz od (.dK (kvsW W))) := upd_same
    generalize upd H1 d (.frz od (.dK (kvsW W))) = H2 at x2 hD2 hd2 ⊢
    have lenK : (kvsW W).length = W.length := by unfold kvsW; rw [List.length_map]
    refine ⟨_, rfl, d, od, kvsW W, rfl, hd2, for_it walk_items (fun i σ H' => ∃ (u4 u5 u6 u7 : Option V) (F : Wy), σ = [some (.ref d), some (.int over), some (.int more), some (.ref D), u4, u5, u6, u7] ∧ Ext TT (some d) H H' ∧ H' d = some (.frz od (.dK (kvsW W))) ∧ H' D = some (.dK (kvsW F)) ∧ Next (W.take i) F over more)
      ⟨none, none, none, none, [], rfl, x2, hd2, hD2, ⟨⟨List.nodup_nil, (fun _ z => nomatch z)⟩, fun g => rfl⟩⟩ (fun i σ H' _ ⟨_, _, _, _, _, _, _, h, _⟩ => h) ?_ ?_⟩
    · rintro i x σ H3 H4 hi ⟨u4, u5, u6, u7, F, rfl, x3, hd3, hD3, nx⟩ ⟨t, v1, v2, rfl, nt, rfl, e1, e2⟩
      rw [lenK] at hi
      have ek : (kvsW W)[i]? = some (Sum.inl ((W[i].1 : Nat) : Int), V.int ((W[i].2 : Nat) : Int)) := by rw [kvs_at, List.getElem?_eq_getElem hi] <;> rfl
      have e1 : ((kvsW W)[i]?).map (fun kv => kV kv.1) = some v1 := e1
      have e2 : ((kvsW W)[i]?).map Prod.snd = some v2 := e2
      rw [ek] at e1 e2
      have e1 : v1 = V.int ((W[i].1 : Nat) : Int) := (Option.some.inj e1).symm
      have e2 : v2 = V.int ((W[i].2 : Nat) : Int) := (Option.some.inj e2).symm
      subst e1
      subst e2
      have hp := hW.ok _ (List.getElem_mem hi)
      have take : W.take (i + 1) = W.take i ++ [W[i]] := by rw [List.take_succ, List.getElem?_eq_getElem hi] <;> rfl
      obtain ⟨x, hx⟩ : ∃ x, x = W[i].1 := ⟨_, rfl⟩
      obtain ⟨c, hc⟩ : ∃ c, c = W[i].2 := ⟨_, rfl⟩
      rw [← hx] at hp
      have x4 := x3.trans (Ext.new (o := .tup [.int ((W[i].1 : Nat) : Int), .int ((W[i].2 : Nat) : Int)]) nt)
      have hd4 : upd H3 t (.tup [.int ((W[i].1 : Nat) : Int), .int ((W[i].2 : Nat) : Int)]) d = some (.frz od (.dK (kvsW W))) := (upd_ne (ne_of_none hd3 nt)).trans hd3
      have hD4 : upd H3 t (.tup [.int ((W[i].1 : Nat) : Int), .int ((W[i].2 : Nat) : Int)]) D = some (.dK (kvsW F)) := (upd_ne (ne_of_none hD3 nt)).trans hD3
      refine ⟨t, _, rfl, SqT.of upd_same, rfl, _, _, rfl, _, _, rfl, rfl, ?_⟩
      generalize upd H3 t (.tup [.int ((W[i].1 : Nat) : Int), .int ((W[i].2 : Nat) : Int)]) = H4 at x4 hd4 hD4 ⊢
      rw [← hx, ← hc]
      obtain ⟨y, hy⟩ : ∃ y : Nat, (x : Int) - over = (y : Int) := ⟨((x : Int) - over).toNat, by omega⟩
      have hy2 : ((x : Int) - over).toNat = y := by omega
      obtain ⟨lo, hlo⟩ : ∃ lo : Nat, (lo : Int) = (if more > 0 then more else 0) := ⟨(if more > 0 then more else 0).toNat, by split <;> omega⟩
      obtain ⟨hi', hhi⟩ : ∃ hi : Int, hi = (if (y : Int) + more < (x : Int) then (y : Int) + more else (x : Int)) + 1 := ⟨_, rfl⟩
      have bnd : ∀ a : Nat, (lo : Int) ≤ (a : Int) → (a : Int) < hi' → a ≤ x ∧ more ≤ (a : Int) ∧ (a : Int) - more ≤ (y : Int) := fun a h1 h2 => by
        split at hlo <;> split at hhi <;> omega
      have eHi : (if (x : Int) - over + more < (x : Int) then (x : Int) - over + more else (x : Int)) + 1 = hi' := by rw [hy]; exact hhi.symm
      have hb1 : -(2 ^ 62) ≤ hi' ∧ hi' < 2 ^ 62 := by
        split at hhi <;> omega
      have hb2 : (lo : Int) < 2 ^ 62 := by
        split at hlo <;> omega
      refine ⟨_, rfl, _, rfl, _, _, rfl, rfl, _, rfl, _, _, rfl, _, rfl, _, rfl, _, rfl, _, _, rfl, rfl, _, _, rfl, _, _, rfl, rfl, (lo : Int), hi', ?_, ⟨by omega, hb2, hb1.1, hb1.2⟩, for_range (lo := (lo : Int)) (n := (hi' - (lo : Int)).toNat) (fun j σ H' => ∃ (u7 : Option V) (F' : Wy), σ = [some (.ref d), some (.int over), some (.int more), some (.ref D), some (.int (x : Int)), some (.int (c : Int)), some (.int ((x : Int) - over)), u7] ∧ Ext TT (some d) H H' ∧ H' d = some (.frz od (.dK (kvsW W))) ∧ H' D = some (.dK (kvsW F')) ∧ WOk F' (over - more) ∧
          ∀ g : Nat → Nat → Nat, sumW F' (fun k => g k ((k : Int) - (over - more)).toNat) = sumW (W.take i) (fun k => stepN g more k ((k : Int) - over).toNat) + c * sumTo j fun t => chN x (lo + t) * chN y (((lo + t : Nat) : Int) - more).toNat * g (x - (lo + t)) (y - (((lo + t : Nat) : Int) - more).toNat)) ⟨u7, F, rfl, x4, hd4, hD4, nx.1, fun g => by rw [nx.2 g] <;> rfl⟩ ?_ ?_⟩
      · show [V.int _, V.int _] = [V.int _, V.int _]
        rw [hlo, eHi]
      · rintro j σ H5 hj ⟨u7, F', rfl, x5, hd5, hD5, ok5, sum5⟩
        have ea : (lo : Int) + (j : Int) = ((lo + j : Nat) : Int) := by omega
        obtain ⟨a1, a2, a3⟩ := bnd (lo + j) (by omega) (by omega)
        have eb : ((lo + j : Nat) : Int) - more = (((((lo + j : Nat) : Int) - more).toNat : Nat) : Int) := by omega
        have ek : (x : Int) - ((lo + j : Nat) : Int) = ((x - (lo + j) : Nat) : Int) := by omega
        have c1 := chN_big ⟨x, by omega⟩ ⟨lo + j, by omega⟩
        have c2 := chN_big ⟨y, by omega⟩ ⟨(((lo + j : Nat) : Int) - more).toNat, by omega⟩
        dsimp only at c1 c2
        rw [ea]
        have lenF : (kvsW F').length < sizeLine := by
          unfold kvsW
          rw [List.length_map]
          exact small1000 (by have := ok5.few; omega)
        refine ⟨_, rfl, D, rfl, .inl ⟨_, .inl hD5⟩, _, rfl, _, rfl, _, _, rfl, rfl, _, DGet.k (k := Sum.inl ((x : Int) - ((lo + j : Nat) : Int))) hD5, ?_⟩
        rw [ek, val_get]
        refine ⟨_, rfl, _, rfl, _, rfl, (x : Int), ((lo + j : Nat) : Int), rfl, ⟨by omega, by omega⟩, ⟨by omega, by omega⟩, ?_⟩
        rw [chN_eq]
        refine ⟨_, _, rfl, rfl, .inr ⟨by omega, by omega⟩, ?_⟩
        refine ⟨_, rfl, _, rfl, _, rfl, _, _, rfl, rfl, (x : Int) - over, ((lo + j : Nat) : Int) - more, rfl, ⟨by omega, by omega⟩, ⟨by omega, by omega⟩, ?_⟩
        rw [hy, eb, chN_eq]
        refine ⟨_, _, rfl, rfl, .inr ⟨by omega, by omega⟩, _, _, rfl, rfl, ?_⟩
        refine ⟨_, rfl, _, rfl, _, rfl, _, _, rfl, rfl, D, _, rfl, DPut.k (k := Sum.inl ((x : Int) - ((lo + j : Nat) : Int))) hD5 lenF, ?_⟩
        rw [ek]
        have eadd : ((getW F' (x - (lo + j)) : Nat) : Int) + ((c : Nat) : Int) * ((chN x (lo + j) : Nat) : Int) * ((chN y (((lo + j : Nat) : Int) - more).toNat : Nat) : Int) = ((getW F' (x - (lo + j)) + c * chN x (lo + j) * chN y (((lo + j : Nat) : Int) - more).toNat : Nat) : Int) := gen _ _ _ _
        have eput := put_add F' (x - (lo + j)) (c * chN x (lo + j) * chN y (((lo + j : Nat) : Int) - more).toNat)
        rw [← eadd] at eput
        have hput : upd H5 D (.dK (putK (kvsW F') (Sum.inl ((x - (lo + j) : Nat) : Int)) (V.int (((getW F' (x - (lo + j)) : Nat) : Int) + ((c : Nat) : Int) * ((chN x (lo + j) : Nat) : Int) * ((chN y (((lo + j : Nat) : Int) - more).toNat : Nat) : Int))))) D = some (.dK (kvsW (addW F' (x - (lo + j)) (c * chN x (lo + j) * chN y (((lo + j : Nat) : Int) - more).toNat)))) := by rw [upd_same, eput]
        have xput := x5.mut (o := .dK (putK (kvsW F') (Sum.inl ((x - (lo + j) : Nat) : Int)) (V.int (((getW F' (x - (lo + j)) : Nat) : Int) + ((c : Nat) : Int) * ((chN x (lo + j) : Nat) : Int) * ((chN y (((lo + j : Nat) : Int) - more).toNat : Nat) : Int))))) nD hD5 dk_nt dk_nc ns0
        refine ⟨_, _, rfl, xput, (upd_ne dD).trans hd5, hput, ok5.add ⟨by omega, by omega, by omega⟩, fun g => ?_⟩
        rw [DictX.sum_add ok5.nd, sum5 g]
        show _ + _ = sumW (W.take i) _ + c * (sumTo j _ + _)
        rw [Nat.mul_add, Nat.add_assoc]
        refine congrArg (fun z => sumW (W.take i) (fun k => stepN g more k ((k : Int) - over).toNat) + (c * (sumTo j fun t => chN x (lo + t) * chN y (((lo + t : Nat) : Int) - more).toNat * g (x - (lo + t)) (y - (((lo + t : Nat) : Int) - more).toNat)) + z)) ?_
        rw [show (((x - (lo + j) : Nat) : Int) - (over - more)).toNat = y - (((lo + j : Nat) : Int) - more).toNat by omega, Nat.mul_assoc, Nat.mul_assoc]
        simp only [Nat.mul_assoc]
      · rintro σ H5 ⟨u7, F', rfl, x5, hd5, hD5, ok5, sum5⟩
        refine ⟨_, _, _, u7, F', rfl, x5, hd5, hD5, ok5, fun g => ?_⟩
        rw [sum5 g, take]
        unfold sumW
        rw [List.map_append, List.sum_append]
        refine congrArg (fun z => ((W.take i).map fun p => p.2 * stepN g more p.1 ((p.1 : Int) - over).toNat).sum + z) ?_
        show _ = W[i].2 * stepN g more W[i].1 ((W[i].1 : Int) - over).toNat + 0
        rw [Nat.add_zero, ← hx, ← hc, hy2, step_range (g := g) hlo hhi]
    · rintro σ H3 ⟨u4, u5, u6, u7, F, rfl, x3, hd3, hD3, nx⟩
      rw [lenK, List.take_length] at nx
      refine ⟨hd3, ?_⟩
      refine ⟨_, rfl, ?_⟩
      exact k D _ F (un_lock x3 hd hd3 frz_nt frz_nc) ((upd_ne (Ne.symm dD)).trans hD3) nx
end
end R
end

-- SideLot
section
set_option Elab.async false
set_option linter.all false
set_option maxRecDepth 100000
set_option maxHeartbeats 4000000
namespace R
open PySem PySem.Spec PyProof.Rows L2 LamX NdefX LamP CombX BinX DictX
def Cells (n : Int) : Prop := 0 ≤ n ∧ n ≤ 40
section
variable {P : Program} {w : World} {K : PySem.W.Frag} {mg : Str → Option Value} {base : Heap}
def spSideLot (T : Txt K mg) (TT : List NTab) : Sp := fun vs H Q E => ∃ (l d : Int) (t : Addr) (s : List Int), vs = [.int l, .int d, .ref t] ∧ H t = some (.tup (s.map V.int)) ∧ (∀ m ∈ s, m.natAbs < 2 ^ 61) ∧
  (¬ Cells l → Rz TT E H T.C_BadCount fun v _ => v = .int l) ∧ (Cells l → ¬ Cells d → Rz TT E H T.C_BadCount fun v _ => v = .int d) ∧ (Cells l → Cells d → ¬ (1 ≤ s.length ∧ s.length ≤ 6) → Rz TT E H T.C_BadAnswer fun v _ => v = .ref t) ∧
  (Cells l → Cells d → 1 ≤ s.length → s.length ≤ 6 → RetV TT H Q (nV (wN s l.toNat d.toNat)))
theorem ok_side_lot (T : Txt K mg) (TT : List NTab) : FnOk P w K mg base (L2.CX P w) 4 T.a_side_lot T.d_side_lot ["light", "dark", "surplus"] (spSideLot T TT) := by
  refine T.F_side_lot.okX sc_side_lot (fun vs H Q E h => ?_) (fun cdv A outer s H vs Q E hr h => ?_)
  · obtain ⟨l, d, t, s, rfl, _⟩ := h
    rfl
  · obtain ⟨l, d, t, ss, rfl, ht, hs, k1, k2, k3, k4⟩ := h
    have nd := sc_side_lot.nd
    have px : Passes (L2.CX P w) (cxOf (L2.CX P w) P w K mg base N_side_lot "side_lot" (defScope s_side_lot) T.a_side_lot cdv A outer s H E) E := passes_call (takes_of rfl rfl rfl rfl) (fun _ _ _ _ h => h)
    refine ⟨_, (pss_cons (ps_expr (pe_call (ok_check_count T TT) (hr.mono (by decide)) rfl T.g_check_count T.F_check_count.kp T.b_check_count .nil px (pa_cons (pv 0) (pa_cons pe_int (pa_cons (pe_glob (v := .int 40) rfl T.c_MOST_CELLS ⟨_, rfl⟩) pa_nil)))))
        (pss_cons (ps_expr (pe_call (ok_check_count T TT) (hr.mono (by decide)) rfl T.g_check_count T.F_check_count.kp T.b_check_count .nil px (pa_cons (pv 1) (pa_cons pe_int (pa_cons (pe_glob (v := .int 40) rfl T.c_MOST_CELLS ⟨_, rfl⟩) pa_nil)))))
        (pss_cons (ps_if (pt_not (pt_chain op_le op_le pe_int (pe_callB call_len_seq (by rfl) T.n_len PySem.boot_len (pa_cons (pv 2) pa_nil)) (pe_glob (v := .int 6) rfl T.c_MOST_COATS ⟨_, rfl⟩))) (pss_one (ps_raise rfl (takes_of rfl rfl rfl rfl) (pmk_err (C := T.C_BadAnswer) T T.e_BadAnswer (hr.mono (by decide)) rfl (pa_cons (pv 2) pa_nil)))) pss_nil)
        (pss_cons (ps_set (i := 3) nd rfl (Or.inl rfl) (pe_disp (pps_cons (pv 0) pe_int pps_nil) (by rfl) (by rfl) (fun z => by cases z) (by decide)))
        (pss_cons (ps_set (i := 4) nd rfl (Or.inl rfl) (pe_op op_sub (pv 0) (pv 1)))
        (pss_cons (ps_for (passes_of rfl) rfl (pi_tup (pv 2)) (pg_name (i := 5) nd rfl (Or.inl rfl))
          (pss_cons (ps_set (i := 3) nd rfl (Or.inl rfl) (pe_call (ok_ways_on T TT) (hr.mono (by decide)) rfl T.g_ways_on T.F_ways_on.kp T.b_ways_on .nil pass0 (pa_cons (pv 3) (pa_cons (pv 4) (pa_cons (pv 5) pa_nil)))))
        (pss_one (ps_aug (i := 4) nd rfl (Or.inl rfl) (pv 5) ip_sub))))
        (pss_one (ps_ret (pe_ifExp (pt_cmpR op_eq (pv 4) pe_int (nomark _)) (pe_dget2 (hu_of hr) (pv 3) pe_int pe_int ⟨rfl, rfl, rfl, rfl⟩) pe_int))))))))), ?_⟩
    refine ⟨_, rfl, l, 0, 40, rfl, fun h1 => ?_, fun h1 => k1 h1⟩
    refine ⟨_, rfl, d, 0, 40, rfl, fun h2 => ?_, fun h2 => k2 h1 h2⟩
    have lenS : (ss.map V.int).length = ss.length := List.length_map _
    dsimp only
    refine seq_cut (fun σ H' => σ = [some (.int l), some (.int d), some (.ref t), none, none, none] ∧ H = H' ∧ 1 ≤ ss.length ∧ ss.length ≤ 6) (fun R join => ?_) ?_
    · refine ⟨_, rfl, t, _, rfl, .inr (SqT.of ht), ?_⟩
      rw [lenS]
      refine ⟨_, _, rfl, rfl, _, rfl, ?_⟩
      refine iteB (fun h => ?_) (fun h => ?_)
      · refine ⟨_, _, rfl, rfl, _, rfl, ?_⟩
        refine iteB (fun h3 => ?_) (fun h3 => ?_)
        · have h' : ¬ (1 ≤ ss.length ∧ ss.length ≤ 6) := fun z => by simp at h3; omega
          exact ⟨_, rfl, _, rfl, fun d nd => k3 h1 h2 h' _ _ _ (Ext.new nd) upd_same rfl⟩
        · refine join _ _ ⟨rfl, rfl, ?_, ?_⟩
          · simp at h; omega
          · simp at h3; omega
      · refine ⟨_, rfl, ?_⟩
        refine iteT' rfl ?_
        have h' : ¬ (1 ≤ ss.length ∧ ss.length ≤ 6) := fun z => by simp at h; omega
        exact ⟨_, rfl, _, rfl, fun d nd => k3 h1 h2 h' _ _ _ (Ext.new nd) upd_same rfl⟩
    · rintro σ _ ⟨rfl, rfl, s1, s6⟩
      have k := k4 h1 h2 s1 s6
      have b1 : 0 ≤ l ∧ l ≤ 40 := h1
      have b2 : 0 ≤ d ∧ d ≤ 40 := h2
      obtain ⟨x, rfl⟩ : ∃ x : Nat, l = (x : Int) := ⟨l.toNat, by omega⟩
      obtain ⟨y, rfl⟩ : ∃ y : Nat, d = (y : Int) := ⟨d.toNat, by omega⟩
      simp only [Int.toNat_natCast] at k
      refine fun D nD => ⟨_, rfl, upd_same, [(Sum.inl (x : Int), V.int 1)], rfl, (by show 1 ≤ 15; decide), ?_⟩
      obtain ⟨x1, hD⟩ := newX (TT := TT) (so := none) (o := .dK (kvsW [(x, 1)])) (Ext.refl _ _ H) nD
      have emerge : upd (upd H D (.dK [])) D (.dK (mergeK [] [((Sum.inl (x : Int) : Key), V.int 1)])) = upd H D (.dK (kvsW [(x, 1)])) := by
        rw [upd_upd] <;> rfl
      rw [emerge]
      generalize upd H D (.dK (kvsW [(x, 1)])) = H1 at x1 hD ⊢
      refine ⟨_, rfl, _, rfl, _, _, rfl, rfl, ?_⟩
      have ok0 : WOk [(x, 1)] ((x : Int) - y) := ⟨by simp, fun p hp => by
        cases List.mem_singleton.mp hp
        dsimp only
        omega⟩
      have sum0 : sumW [(x, 1)] (fun k => wN ss k ((k : Int) - ((x : Int) - y)).toNat) = wN ss x y := by
        show 1 * wN ss x ((x : Int) - ((x : Int) - y)).toNat + 0 = _
        rw [show ((x : Int) - ((x : Int) - y)).toNat = y by omega, Nat.one_mul, Nat.add_zero]
      refine ⟨_, rfl, t, rfl, ⟨_, SqT.of (x1.tup ht)⟩, for_tup (xs := ss.map V.int) (fun i σ H' => ∃ (dd : Addr) (u5 : Option V) (W : Wy) (over : Int), σ = [some (.int (x : Int)), some (.int (y : Int)), some (.ref t), some (.ref dd), some (.int over), u5] ∧ Ext TT none H H' ∧ H' dd = some (.dK (kvsW W)) ∧ WOk W over ∧
          sumW W (fun k => wN (ss.drop i) k ((k : Int) - over).toNat) = wN ss x y) ⟨D, none, [(x, 1)], (x : Int) - y, rfl, x1, hD, ok0, sum0⟩ ?_ ?_ ?_⟩
      · rintro i σ H2 _ ⟨dd, u5, W, over, rfl, x2, _⟩
        exact SqT.of (x2.tup ht)
      · rintro i v σ H2 hv ⟨dd, u5, W, over, rfl, x2, hdd, ok2, sum2⟩
        rw [List.getElem?_map] at hv
        cases em : ss[i]? with
        | none => rw [em] at hv; cases hv
        | some m =>
          rw [em] at hv
          cases hv
          have hm := hs m (List.mem_of_getElem? em)
          refine ⟨_, rfl, _, rfl, _, rfl, dd, over, m, W, rfl, hdd, ok2, hm, fun D3 H3 W3 x3 h3 nx => ?_⟩
          refine ⟨_, rfl, _, rfl, _, _, rfl, rfl, ?_⟩
          refine ⟨D3, _, W3, over - m, rfl, x2.trans x3, h3, nx.1, ?_⟩
          rw [nx.2 (wN (ss.drop (i + 1))), ← sum2]
          have ed : ss.drop i = m :: ss.drop (i + 1) := by
            obtain ⟨hi, e⟩ := List.getElem?_eq_some_iff.mp em
            rw [List.drop_eq_getElem_cons hi, e]
          rw [ed] <;> rfl
      · rintro σ H2 ⟨dd, u5, W, over, rfl, x2, hdd, ok2, sum2⟩
        rw [lenS, List.drop_length] at sum2
        refine ⟨_, rfl, rfl, _, rfl, ?_⟩
        refine iteB (fun h => ?_) (fun h => ?_)
        · have e0 : over = 0 := by simpa using h
          subst e0
          refine ⟨_, rfl, dd, rfl, .inl ⟨_, .inl hdd⟩, _, DGet.k (k := Sum.inl ((0 : Nat) : Int)) hdd, ?_⟩
          rw [val_get]
          have e1 : sumW W (fun k => wN [] k ((k : Int) - 0).toNat) = getW W 0 := by
            rw [← sum_get ok2.nd 0]
            refine congrArg List.sum (List.map_congr_left fun p _ => ?_)
            refine congrArg (p.2 * ·) ?_
            show (if p.1 = 0 ∧ ((p.1 : Int) - 0).toNat = 0 then 1 else 0) = if p.1 = 0 then 1 else 0
            by_cases z : p.1 = 0
            · rw [if_pos z, if_pos (by omega)]
            · rw [if_neg z, if_neg (by omega)]
          rw [← e1, sum2]
          exact k _ x2
        · have e0 : over ≠ 0 := by simpa using h
          have e1 : sumW W (fun k => wN [] k ((k : Int) - over).toNat) = 0 := sum_zero_list fun p hp => by
            have := ok2.ok p hp
            show p.2 * (if p.1 = 0 ∧ ((p.1 : Int) - over).toNat = 0 then 1 else 0) = 0
            rw [if_neg (by omega), Nat.mul_zero]
          rw [e1] at sum2
          rw [← sum2] at k
          exact k _ x2
end
end R
end

-- Blk
section
set_option Elab.async false
set_option linter.all false
set_option maxRecDepth 100000
set_option maxHeartbeats 4000000
/-! Blk: rules that speak of the written part, with that part named: for the insides of comprehensions. -/
namespace BlkX
open PySem PySem.Spec PyProof.Rows L2
variable {X : Cx} (K : PySem.W.Frag)
theorem ixl (h : X.K = K := by rfl) : IxR X (rIxL K) := h ▸ ix_list
theorem ixt (h : X.K = K := by rfl) : IxR X (rIxT K) := h ▸ ix_tup
theorem csum (hc : X.calm = true := by rfl) (h : X.K = K := by rfl) : CallR X (.builtin "sum") (rSum K) := h ▸ cr_sum hc
theorem call (hc : X.calm = true := by rfl) (h : X.K = K := by rfl) : CallR X (.builtin "all") (rAll K) := h ▸ cr_all hc
theorem cany (hc : X.calm = true := by rfl) (h : X.K = K := by rfl) : CallR X (.builtin "any") (rAny K) := h ▸ cr_any hc
def rLen : List V → Hp → VK → Prop := fun xs H Q => ∃ p ys, xs = [.ref p] ∧ (SqL K H p ys ∨ SqT K H p ys) ∧ Q (.int ys.length) H
theorem clen (h : X.K = K := by rfl) : CallR X (.builtin "len") (rLen K) := by
  subst h
  exact call_len_seq
def rTupO : List V → Hp → VK → Prop := fun xs H Q => ∃ p ys, xs = [.ref p] ∧ ((SqL K H p ys ∧ ∀ l, H l = none → Q (.ref l) (upd H l (.tup ys))) ∨ (SqT K H p ys ∧ Q (.ref p) H))
theorem ctup (h : X.K = K := by rfl) : CallR X (.type "tuple") (rTupO K) := by
  subst h
  exact call_tuple_of
theorem pil {tg l : Expr} {tl : TE} (hl : PE X l tl) (h : X.K = K := by rfl) : PI X tg l (iList K tl) := h ▸ pi_list hl
theorem pit {tg l : Expr} {tl : TE} (hl : PE X l tl) (h : X.K = K := by rfl) : PI X tg l (iTup K tl) := h ▸ pi_tup hl
theorem sll (h : X.K = K := by rfl) : SlR X (rSlL K) := h ▸ sl_list
theorem slt (h : X.K = K := by rfl) : SlR X (rSlA K) := h ▸ sl_tupA
theorem catT (h : X.K = K := by rfl) : OpR X (binaryOp .Add) (rCatT K) := h ▸ op_catT
def tTru (ta : TE) : TT := fun σ H Q => ta σ H fun x H' => ∃ k, TruV K x H' k ∧ Q k H'
theorem ptru {a : Expr} {ta : TE} (ha : PE X a ta) (he : ∀ whole, isTrue a X.env whole = (do let v ← whole; standAt a.pos; holding [v] (truthy v)) := by intro _; rfl) (h : X.K = K := by rfl) : PT X a (tTru K ta) := h ▸ pt_truth ha he
end BlkX
end

-- TupSum
section
set_option Elab.async false
set_option linter.all false
set_option maxRecDepth 100000
set_option maxHeartbeats 4000000
/-! TupSum: sum(t), t a tuple of whole numbers; a tuple behind a tuple; data of rows of numbers. -/
namespace TupX
open PySem PySem.Spec PyProof.Rows L2 NdefX R
def rSumT (K : PySem.W.Frag) : List V → Hp → VK → Prop := fun vs H Q => ∃ (t : Addr) (ns : List Int), vs = [V.ref t] ∧ SqT K H t (ns.map V.int) ∧ Q (.int ns.sum) H
theorem csumT {X : Cx} (K : PySem.W.Frag) (hc : X.calm = true := by rfl) (hK : X.K = K := by rfl) : CallR X (.builtin "sum") (rSumT K) := by
  subst hK
  rintro pins s σ H vs us Q I r ⟨t, ns, rfl, ht, q⟩
  obtain ⟨its, vi, at_, _⟩ := I.tuple ht
  cases Vals.ref1 r
  obtain ⟨prs, e⟩ := (Vals.ints vi).allInts.items
  have total : numsOf (intItems prs).toList = ns := by
    rw [← e]
    exact (Vals.ints vi).numsOf
  rw [nums_intItems] at total
  have tup : s.heap.IsTuple t (intItems prs) := by
    rw [← e]
    obtain ⟨o, h1, h2, n, h3⟩ := at_
    exact ⟨o, h1, h2, n, h3⟩
  refine PySem.W.ktm_sumG (I.ok.hd hc) tup (fun h' tk t' up => ⟨.int ns.sum, H, I.kept up, ⟨t', ?_⟩, q⟩)
  rw [preSum_eq, List.take_of_length_le (by simp), total]
/-- a row of whole numbers, as data -/
def rowD (r : List Nat) : PyData := .tuple (r.map fun (n : Nat) => .int (n : Int))
def rowsD (L : List (List Nat)) : List PyData := L.map rowD
theorem tps_nats {H : Hp} : ∀ {vs : List V} {r : List Nat}, Tps H vs (r.map fun (n : Nat) => PyData.int (n : Int)) → vs = (r.map Int.ofNat).map V.int
  | _, [], h => by
    cases h
    rfl
  | _, n :: r, h => by
    cases h with
    | cons h1 h2 =>
      cases h1
      rw [tps_nats h2] <;> rfl
theorem nats_tps {H : Hp} : ∀ r : List Nat, Tps H ((r.map Int.ofNat).map V.int) (r.map fun (n : Nat) => PyData.int (n : Int))
  | [] => .nil
  | n :: r => .cons (.int _) (nats_tps r)
theorem row_at {H : Hp} {v : V} {r : List Nat} (h : Tp H v (rowD r)) : ∃ a, v = .ref a ∧ H a = some (.tup ((r.map Int.ofNat).map V.int)) := by
  cases h with
  | tup h t =>
    rw [tps_nats t] at h
    exact ⟨_, rfl, h⟩
theorem row_tp {H : Hp} {a : Addr} {r : List Nat} (h : H a = some (.tup ((r.map Int.ofNat).map V.int))) : Tp H (.ref a) (rowD r) := .tup h (nats_tps r)
theorem sum_nats : ∀ r : List Nat, (r.map Int.ofNat).sum = ((r.sum : Nat) : Int)
  | [] => rfl
  | n :: r => by
    rw [List.map_cons, List.sum_cons, sum_nats r, List.sum_cons, Int.natCast_add] <;> rfl
/-- a row of whole numbers of any sign, as data -/
def rowI (r : List Int) : PyData := .tuple (r.map PyData.int)
def rowsI' (L : List (List Int)) : List PyData := L.map rowI
theorem rowI_at {H : Hp} {v : V} {r : List Int} (h : Tp H v (rowI r)) : ∃ a, v = .ref a ∧ H a = some (.tup (r.map V.int)) := by
  cases h with
  | tup h t =>
    rw [Tps.ints_of t] at h
    exact ⟨_, rfl, h⟩
theorem rowI_tp {H : Hp} {a : Addr} {r : List Int} (h : H a = some (.tup (r.map V.int))) : Tp H (.ref a) (rowI r) := .tup h (Tps.ints r)
/-- a list of such rows -/
def IsRowsI (H : Hp) (l : Addr) (L : List (List Int)) : Prop := ∃ vs, H l = some (.lst vs) ∧ Tps H vs (rowsI' L)
theorem rowsI_len {H : Hp} {vs : List V} {L : List (List Int)} (h : Tps H vs (rowsI' L)) : vs.length = L.length := by
  rw [h.length]
  unfold rowsI'
  rw [List.length_map]
theorem rowsI_get {H : Hp} {vs : List V} {L : List (List Int)} {j : Nat} {x : V} (h : Tps H vs (rowsI' L)) (e : vs[j]? = some x) : ∃ r, L[j]? = some r ∧ Tp H x (rowI r) := by
  obtain ⟨d, h1, h2⟩ := h.get e
  unfold rowsI' at h1
  rw [List.getElem?_map] at h1
  cases er : L[j]? with
  | none => rw [er] at h1; cases h1
  | some r =>
    rw [er] at h1
    cases h1
    exact ⟨r, rfl, h2⟩
theorem rowsI_append (A B : List (List Int)) : rowsI' (A ++ B) = rowsI' A ++ rowsI' B := by
  unfold rowsI'
  rw [List.map_append]
/-- t + u, whichever is empty -/
def rCatK (K : PySem.W.Frag) : R2 := rCatA K
theorem catAK {X : Cx} (K : PySem.W.Frag) (h : X.K = K := by rfl) : OpR X (binaryOp .Add) (rCatA K) := h ▸ op_catA
/-- a tuple and a tuple behind it: whichever way, a tuple of both -/
theorem cat_tup {K : PySem.W.Frag} {TT : List NTab} {H : Hp} {l b : Addr} {xs zs : List V} {Q : VK} (hx : H l = some (.tup xs)) (hz : H b = some (.tup zs)) (small : xs.length + zs.length ≤ sizeLine)
    (h : ∀ q G, Ext TT none H G → G q = some (.tup (xs ++ zs)) → Q (.ref q) G) : rCatA K (.ref l) (.ref b) H Q := by
  refine ⟨l, b, xs, zs, rfl, rfl, SqT.of hx, SqT.of hz, small, fun e => ?_, fun _ e => ?_, fun _ _ p np => ?_⟩
  · subst e
    exact h b H (Ext.refl ..) hz
  · subst e
    rw [List.append_nil] at h
    exact h l H (Ext.refl ..) hx
  · exact h p _ (Ext.new np) upd_same
end TupX
end

-- Keys
section
set_option Elab.async false
set_option linter.all false
set_option maxRecDepth 100000
set_option maxHeartbeats 4000000
namespace R
open PySem PySem.Spec PyProof.Rows L2 LamX NdefX LamP CombX BinX DictX BlkX TupX
/-! ### all rows that the law lists -/
def lastOk (u d : Nat) (due : Int) (r : List Int) : Bool := decide (-(d : Int) ≤ due - r.sum) && decide (due - r.sum ≤ (u : Int))
def keysI (u d c : Nat) (due : Int) : List (List Int) := ((rowsI (-(d : Int)) (u + d + 1) (c - 1)).filter (lastOk u d due)).map fun r => r ++ [due - r.sum]
theorem rng_len (lo : Int) (n : Nat) : (rngI lo n).length = n := by unfold rngI; simp
theorem flat_len {α β : Type} {f : α → List β} {n : Nat} : ∀ {L : List α}, (∀ e, (f e).length = n) → (L.flatMap f).length = L.length * n
  | [], _ => by simp
  | e :: r, h => by rw [List.flatMap_cons, List.length_append, h e, flat_len h, List.length_cons, Nat.add_mul, Nat.one_mul, Nat.add_comm]
theorem rowsI_len (lo : Int) (n : Nat) : ∀ k, (rowsI lo n k).length = n ^ k
  | 0 => rfl
  | k + 1 => by
    show ((rowsI lo n k).flatMap fun r => (rngI lo n).map fun e => r ++ [e]).length = _
    rw [flat_len (n := n) (fun e => by rw [List.length_map, rng_len]), rowsI_len lo n k, Nat.pow_succ]
theorem rowI_len (lo : Int) (n : Nat) : ∀ k, ∀ r ∈ rowsI lo n k, r.length = k
  | 0, r, h => by
    cases List.mem_singleton.mp h
    rfl
  | k + 1, r, h => by
    obtain ⟨q, hq, hr⟩ := List.mem_flatMap.mp (show r ∈ (rowsI lo n k).flatMap fun r => (rngI lo n).map fun e => r ++ [e] from h)
    obtain ⟨e, _, rfl⟩ := List.mem_map.mp hr
    rw [List.length_append, rowI_len lo n k q hq] <;> rfl
theorem take_flatI {lo : Int} {n j : Nat} {L : List (List Int)} {r : List Int} (h : L[j]? = some r) : (L.take (j + 1)).flatMap (fun r => (rngI lo n).map fun e => r ++ [e]) = (L.take j).flatMap (fun r => (rngI lo n).map fun e => r ++ [e]) ++ (rngI lo n).map fun e => r ++ [e] := by
  rw [List.take_succ, h, List.flatMap_append]
  simp
theorem rng_take (lo : Int) (n q : Nat) : rngI lo (q + 1) = rngI lo q ++ [lo + (q : Int)] := by
  unfold rngI
  rw [List.range_succ, List.map_append] <;> rfl
section
variable {P : Program} {w : World} {K : PySem.W.Frag} {mg : Str → Option Value} {base : Heap}
def spKeys (TT : List NTab) : Sp := fun vs H Q _ => ∃ (u d c : Nat) (due : Int), vs = [nV u, nV d, nV c, .int due] ∧ u ≤ 40 ∧ d ≤ 40 ∧ 1 ≤ c ∧ c ≤ 6 ∧ (u + d + 1) ^ (c - 1) ≤ 300 ∧ ∀ (l : Addr) (H' : Hp), Ext TT none H H' → IsRowsI H' l (keysI u d c due) → Q (.ref l) H'
theorem ok_keys (T : Txt K mg) (TT : List NTab) : FnOk P w K mg base CX0 1 T.a_Lkeys T.d_Lkeys ["_law_ups", "_law_downs", "_law_shades", "_law_due"] (spKeys TT) := by
  refine T.F_Lkeys.ok sc_Lkeys (fun vs H Q E h => ?_) (fun cdv A outer s H vs Q E hr h => ?_)
  · obtain ⟨u, d, c, due, rfl, _⟩ := h
    rfl
  · obtain ⟨u, d, c, due, rfl, hu, hd, hc1, hc2, hfew, k⟩ := h
    have nd := sc_Lkeys.nd
    refine ⟨_, (pss_cons (ps_set (i := 4) nd rfl (Or.inl rfl) (pe_lst (pa_cons (pe_tup pa_nil) pa_nil)))
        (pss_cons (ps_for PassesOwn.never rfl (pi_range1 (by rfl) T.n_range (pa_cons (pe_op op_sub (pv 2) pe_int) pa_nil)) (pg_name (i := 5) nd rfl (Or.inl rfl))
          (pss_cons (ps_set (i := 6) nd rfl (Or.inl rfl) (pe_lst pa_nil))
        (pss_cons (ps_for PassesOwn.never rfl (pi_list (pv 4)) (pg_name (i := 7) nd rfl (Or.inr rfl))
          (pss_one (ps_expr (pe_bm PySem.F.plainAttrs_list PySem.F.slot_list_extend PySem.F.type_list_extend mt_extend (pv 6) (pa_cons (pe_lc (own := [("_law_d", 8)]) (g := gName 8) (tt := tYes) rfl nd (pi_range2 (by rfl) T.n_range (pa_cons (pe_un un_neg (pv 1)) (pa_cons (pe_op op_add (pv 0) pe_int) pa_nil))) (blkOk_by (own := [("_law_d", 8)]) (N := N_Lkeys) (sc := defScope s_Lkeys) (by decide +kernel)) (fun _ _ _ _ _ => (pg_name (i := 8) nd rfl (Or.inl rfl))) (fun _ _ _ _ _ => pts_nil) (fun _ _ _ _ _ => (pe_op (TupX.catAK K) (pv 7) (pe_tup (pa_cons (pv 8) pa_nil))))) pa_nil)))))
        (pss_one (ps_set (i := 4) nd rfl (Or.inl rfl) (pv 6))))))
        (pss_one (ps_ret (pe_lc (own := [("_law_row", 7)]) (g := gName 7) rfl nd (pi_list (pv 4)) (blkOk_by (own := [("_law_row", 7)]) (N := N_Lkeys) (sc := defScope s_Lkeys) (by decide +kernel)) (fun _ _ _ _ _ => (pg_name (i := 7) nd rfl (Or.inl rfl))) (fun _ _ _ _ _ => (pts_one (pt_chain op_le op_le (pe_un un_neg (pv 1)) (pe_op op_sub (pv 3) (pe_callB (TupX.csumT K) (by rfl) T.n_sum (by decide +kernel) (pa_cons (pv 7) pa_nil))) (pv 0)))) (fun _ _ _ _ _ => (pe_op (TupX.catAK K) (pv 7) (pe_tup (pa_cons (pe_op op_sub (pv 3) (pe_callB (TupX.csumT K) (by rfl) T.n_sum (by decide +kernel) (pa_cons (pv 7) pa_nil))) pa_nil))))))))), ?_⟩
    have one : 1 ≤ sizeLine := by decide
    have zer : 0 ≤ sizeLine := Nat.zero_le _
    obtain ⟨n, hn⟩ : ∃ n, n = u + d + 1 := ⟨_, rfl⟩
    obtain ⟨lo, hlo⟩ : ∃ lo : Int, lo = -(d : Int) := ⟨_, rfl⟩
    rw [← hn] at hfew
    have few : ∀ i, i ≤ c - 1 → (rowsI lo n i).length ≤ 300 := fun i hi => by
      rw [rowsI_len]
      exact Nat.le_trans (Nat.pow_le_pow_right (by omega) hi) hfew
    refine ⟨zer, fun p0 n0 => ⟨one, fun l0 nl0 => ?_⟩⟩
    obtain ⟨x0, h0⟩ := newX (TT := TT) (so := none) (o := .lst [V.ref p0]) (Ext.new (T := TT) (so := none) (o := .tup []) n0) nl0
    have r0 : IsRowsI _ l0 (rowsI lo n 0) := ⟨_, h0, .cons (.tup (xs := []) (ds := []) ((upd_ne (ne_of_none upd_same nl0)).trans upd_same) .nil) .nil⟩
    generalize upd _ l0 _ = H0 at x0 h0 r0 ⊢
    refine ⟨_, rfl, _, _, rfl, rfl, (c : Int) - 1, rfl, by omega, by omega, for_range (lo := 0) (n := ((c : Int) - 1).toNat) (fun i σ H' => ∃ (l : Addr) (u5 u6 u7 : Option V), σ = [some (nV u), some (nV d), some (nV c), some (.int due), some (.ref l), u5, u6, u7, none] ∧ Ext TT none H H' ∧ IsRowsI H' l (rowsI lo n i)) ⟨l0, none, none, none, rfl, x0, r0⟩ ?_ ?_⟩
    · rintro i σ H1 hi ⟨l, u5, u6, u7, rfl, x1, vs, hl, hvs⟩
      have fi1 := few (i + 1) (by omega)
      have lv := TupX.rowsI_len hvs
      refine ⟨zer, fun l2 nl2 => ?_⟩
      obtain ⟨x2, h2⟩ := newX (TT := TT) (so := none) (o := .lst []) (Ext.refl _ _ H1) nl2
      refine ⟨_, rfl, l, rfl, ⟨_, SqL.of (x2.lst hl)⟩, for_list (xs := vs) (fun j σ H' => ∃ (u7 : Option V), σ = [some (nV u), some (nV d), some (nV c), some (.int due), some (.ref l), some (.int (0 + (i : Int))), some (.ref l2), u7, none] ∧ Ext TT none H1 H' ∧ IsRowsI H' l2 (((rowsI lo n i).take j).flatMap fun r => (rngI lo n).map fun e => r ++ [e])) ⟨u7, rfl, x2, ⟨[], h2, .nil⟩⟩ ?_ ?_ ?_⟩
      · rintro j σ H2 _ ⟨u7, rfl, x2, _⟩
        exact SqL.of (x2.lst hl)
      · rintro j x σ H2 hx ⟨u7, rfl, x2, ws, hw, hws⟩
        obtain ⟨r, er, hr0⟩ := rowsI_get hvs hx
        have rmem := List.mem_of_getElem? er
        have rl := rowI_len lo n i r rmem
        obtain ⟨b, rfl, hb⟩ := rowI_at (hr0.mono x2.tk)
        refine ⟨_, rfl, Or.inl ⟨rfl, _, SqL.of hw⟩, ?_⟩
        refine ⟨_, rfl, _, rfl, _, rfl, _, _, rfl, rfl, lo, (u : Int) + 1, ?_, ⟨by omega, by omega, by omega, by omega⟩, fun D hD => ?_⟩
        · rw [hlo] <;> rfl
        rw [show ((u : Int) + 1 - lo).toNat = n by omega]
        refine lc_it walk_range (fun q H' => Ext TT none H2 H' ∧ IsRowsI H' D ((rngI lo q).map fun e => r ++ [e])) ⟨Ext.new hD, ⟨[], upd_same, .nil⟩⟩ (fun _ _ _ _ => trivial) (fun q x H4 H3 hq e y => ?_) (fun H3 e => ?_)
        · obtain ⟨rfl, rfl⟩ := y
          obtain ⟨x3, zs, hz, hzs⟩ := e
          have lz := TupX.rowsI_len hzs
          refine ⟨rfl, ?_⟩
          dsimp only [tYes]
          refine iteT ?_
          refine ⟨_, rfl, _, rfl, one, fun p np => ?_⟩
          have hb3 : upd H3 p (.tup [.int (lo + (q : Int))]) b = some (.tup (r.map V.int)) := (upd_ne (ne_of_none (x3.tup hb) np)).trans (x3.tup hb)
          refine cat_tup (TT := TT) hb3 upd_same (by rw [List.length_map, rl]; exact Nat.le_of_lt (small1000 (by simp only [List.length_cons, List.length_nil]; omega))) (fun q2 G xG hG => ?_)
          have x4 := (Ext.new (T := TT) (so := none) (o := .tup [.int (lo + (q : Int))]) np).trans xG
          have hD4 := x4.lst hz
          refine ⟨_, hD4, small1000 (by rw [lz, List.length_map, rng_len]; omega), (x3.trans x4).mutL hD hD4 (fun z => nomatch z), _, upd_same, ?_⟩
          rw [rng_take lo n q, List.map_append, rowsI_append]
          refine ((hzs.mono x4.tk).mono (TK.lst hD4)).append (.cons ?_ .nil)
          refine (rowI_tp ?_).mono (TK.lst hD4)
          rw [hG, List.map_append] <;> rfl
        · obtain ⟨x3, zs, hz, hzs⟩ := e
          have lz := TupX.rowsI_len hzs
          have hw3 := x3.lst hw
          have lw := TupX.rowsI_len hws
          have full : (((rowsI lo n i).take j).flatMap fun r => (rngI lo n).map fun e => r ++ [e]).length ≤ 300 := by
            rw [flat_len (n := n) (fun e => by rw [List.length_map, rng_len]), List.length_take]
            rw [rowsI_len] at fi1 ⊢
            rw [Nat.pow_succ] at fi1
            exact Nat.le_trans (Nat.mul_le_mul_right n (Nat.min_le_right _ _)) fi1
          refine ⟨l2, D, ws, zs, rfl, rfl, hw3, hz, ?_, _, rfl, (x2.trans x3).mutL nl2 hw3 (fun z => nomatch z), _, upd_same, ?_⟩
          · rw [lw, lz, List.length_map, rng_len]
            exact Nat.le_of_lt (small1000 (by omega))
          · rw [take_flatI er, rowsI_append]
            exact ((hws.mono x3.tk).mono (TK.lst hw3)).append (hzs.mono (TK.lst hw3))
      · rintro σ H2 ⟨u7, rfl, x2, hw⟩
        rw [lv, List.take_length] at hw
        exact ⟨_, rfl, l2, _, _, _, rfl, x1.trans x2, hw⟩
    · rintro σ H1 ⟨l, u5, u6, u7, rfl, x1, vs, hl, hvs⟩
      rw [show ((c : Int) - 1).toNat = c - 1 by omega] at hvs
      have lv := TupX.rowsI_len hvs
      have fi := few (c - 1) (Nat.le_refl _)
      refine ⟨_, rfl, l, rfl, ⟨_, SqL.of hl⟩, fun D hD => lc_it (walk_list (xs := vs)) (fun j H' => Ext TT none H1 H' ∧ IsRowsI H' D ((((rowsI lo n (c - 1)).take j).filter (lastOk u d due)).map fun r => r ++ [due - r.sum])) ⟨Ext.new hD, ⟨[], upd_same, .nil⟩⟩ ?_ (fun j x H3 H2 hj e y => ?_) (fun H2 e => ?_)⟩
      · rintro j H' _ ⟨x2, _⟩
        exact SqL.of (x2.lst hl)
      · obtain ⟨rfl, y⟩ := y
        obtain ⟨x2, zs, hz, hzs⟩ := e
        obtain ⟨r, er, hr0⟩ := rowsI_get hvs y
        have rmem := List.mem_of_getElem? er
        have rl := rowI_len lo n (c - 1) r rmem
        obtain ⟨b, rfl, hb⟩ := rowI_at (hr0.mono x2.tk)
        have lz := TupX.rowsI_len hzs
        have lf : (((rowsI lo n (c - 1)).take j).filter (lastOk u d due)).length ≤ 300 := Nat.le_trans (List.length_filter_le _ _) (by rw [List.length_take]; omega)
        have tk : (rowsI lo n (c - 1)).take (j + 1) = (rowsI lo n (c - 1)).take j ++ [r] := by rw [List.take_succ, er] <;> rfl
        have yes : lastOk u d due r = true → ((((rowsI lo n (c - 1)).take (j + 1)).filter (lastOk u d due)).map fun r => r ++ [due - r.sum]) = ((((rowsI lo n (c - 1)).take j).filter (lastOk u d due)).map fun r => r ++ [due - r.sum]) ++ [r ++ [due - r.sum]] := fun h => by
          rw [tk, List.filter_append, List.filter_cons, if_pos h, List.map_append] <;> rfl
        have no : ¬ lastOk u d due r = true → ((((rowsI lo n (c - 1)).take (j + 1)).filter (lastOk u d due)).map fun r => r ++ [due - r.sum]) = ((((rowsI lo n (c - 1)).take j).filter (lastOk u d due)).map fun r => r ++ [due - r.sum]) := fun h => by
          rw [tk, List.filter_append, List.filter_cons, if_neg h, List.filter_nil, List.append_nil]
        refine ⟨rfl, ?_⟩
        refine ⟨_, rfl, _, rfl, _, rfl, _, rfl, b, r, rfl, SqT.of hb, _, _, rfl, rfl, _, _, rfl, rfl, _, rfl, ?_⟩
        refine iteB (fun g1 => ?_) (fun g1 => ?_)
        · refine ⟨_, rfl, _, _, rfl, rfl, _, rfl, ?_⟩
          refine iteB (fun g2 => ?_) (fun g2 => ?_)
          · have g : lastOk u d due r = true := by
              unfold lastOk
              rw [g1, g2] <;> rfl
            refine ⟨_, rfl, _, rfl, _, rfl, b, r, rfl, SqT.of hb, _, _, rfl, rfl, one, fun p np => ?_⟩
            have hb3 : upd H2 p (.tup [.int (due - r.sum)]) b = some (.tup (r.map V.int)) := (upd_ne (ne_of_none hb np)).trans hb
            refine cat_tup (TT := TT) hb3 upd_same (by rw [List.length_map, rl]; exact Nat.le_of_lt (small1000 (by simp only [List.length_cons, List.length_nil]; omega))) (fun q2 G xG hG => ?_)
            have x4 := (Ext.new (T := TT) (so := none) (o := .tup [.int (due - r.sum)]) np).trans xG
            have hD4 := x4.lst hz
            refine ⟨_, hD4, small1000 (by rw [lz, List.length_map]; omega), (x2.trans x4).mutL hD hD4 (fun z => nomatch z), _, upd_same, ?_⟩
            rw [yes g, rowsI_append]
            refine ((hzs.mono x4.tk).mono (TK.lst hD4)).append (.cons ?_ .nil)
            refine (rowI_tp ?_).mono (TK.lst hD4)
            rw [hG, List.map_append] <;> rfl
          · have g : ¬ lastOk u d due r = true := by
              unfold lastOk
              rw [g1, g2]
              decide
            refine ⟨x2, zs, hz, ?_⟩
            rw [no g]
            exact hzs
        · refine ⟨_, rfl, ?_⟩
          refine iteF' rfl ?_
          have g : ¬ lastOk u d due r = true := by
            unfold lastOk
            intro z
            rw [Bool.and_eq_true] at z
            have z1 := z.1
            rw [show decide (-(d : Int) ≤ due - r.sum) = false from g1] at z1
            cases z1
          refine ⟨x2, zs, hz, ?_⟩
          rw [no g]
          exact hzs
      · obtain ⟨x2, zs, hz, hzs⟩ := e
        rw [lv, List.take_length] at hzs
        refine k D H2 (x1.trans x2) ⟨zs, hz, ?_⟩
        unfold keysI
        rw [← hn, ← hlo]
        exact hzs
end
end R
end

-- Whole
section
set_option Elab.async false
set_option linter.all false
set_option maxRecDepth 100000
set_option maxHeartbeats 4000000
namespace R
open PySem PySem.Spec PyProof.Rows L2 LamX NdefX LamP CombX BinX DictX BlkX TupX
theorem sum_filter {α : Type} {f : α → Nat} {p : α → Bool} : ∀ {L : List α}, (∀ e ∈ L, ¬ p e = true → f e = 0) → ((L.filter p).map f).sum = (L.map f).sum
  | [], _ => rfl
  | e :: r, h => by
    have ih := sum_filter (f := f) (p := p) (L := r) (fun b hb => h b (List.mem_cons_of_mem _ hb))
    rw [List.filter_cons, List.map_cons, List.sum_cons]
    by_cases g : p e = true
    · rw [if_pos g, List.map_cons, List.sum_cons, ih]
    · rw [if_neg g, ih, h e List.mem_cons_self g, Nat.zero_add]
theorem keys_sum {u d c : Nat} (hu : u ≤ 40) (hd : d ≤ 40) (hc : 1 ≤ c ∧ c ≤ 6) : ((keysI u d c ((u : Int) - d)).map fun s => wN s u d).sum = c ^ (u + d) := by
  unfold keysI
  rw [List.map_map]
  have e : ((((rowsI (-(d : Int)) (u + d + 1) (c - 1)).filter (lastOk u d ((u : Int) - d))).map ((fun s => wN s u d) ∘ fun r => r ++ [(u : Int) - d - r.sum])).sum) = allW (-(d : Int)) (u + d + 1) (c - 1) u d := by
    unfold allW
    refine sum_filter fun r _ h => ?_
    refine wN_far r _ u d ?_
    unfold lastOk at h
    rw [Bool.and_eq_true] at h
    simp only [decide_eq_true_eq] at h
    omega
  rw [e, all_ways (c - 1) u d (by omega) hu hd (by omega) (by omega), show c - 1 + 1 = c by omega]
theorem keys_none {u d c : Nat} : ((keysI u d c ((u : Int) - d + 1)).map fun s => wN s u d).sum = 0 := by
  refine sum_zero_list fun s hs => ?_
  unfold keysI at hs
  obtain ⟨r, _, rfl⟩ := List.mem_map.mp hs
  refine wN_off _ u d ?_
  rw [List.sum_append]
  simp only [List.sum_cons, List.sum_nil]
  omega
theorem keys_ok {u d c : Nat} {due : Int} (hu : u ≤ 40) (hd : d ≤ 40) (hc : 1 ≤ c ∧ c ≤ 6) : ∀ s ∈ keysI u d c due, 1 ≤ s.length ∧ s.length ≤ 6 ∧ ∀ m ∈ s, m.natAbs < 2 ^ 61 := by
  intro s hs
  unfold keysI at hs
  obtain ⟨r, hr, rfl⟩ := List.mem_map.mp hs
  obtain ⟨hr, hl⟩ := List.mem_filter.mp hr
  have rl := rowI_len _ _ _ r hr
  unfold lastOk at hl
  rw [Bool.and_eq_true] at hl
  simp only [decide_eq_true_eq] at hl
  refine ⟨by rw [List.length_append]; simp, by rw [List.length_append, rl]; simp only [List.length_cons, List.length_nil]; omega, fun m hm => ?_⟩
  have rng : ∀ (n : Nat) (k : Nat), ∀ r ∈ rowsI (-(d : Int)) n k, n ≤ 81 → ∀ m ∈ r, m.natAbs < 2 ^ 61 := by
    intro n k
    induction k with
    | zero =>
      intro r hr _ m hm
      cases List.mem_singleton.mp hr
      cases hm
    | succ k ih =>
      intro r hr hn m hm
      obtain ⟨q, hq, hr⟩ := List.mem_flatMap.mp (show r ∈ (rowsI (-(d : Int)) n k).flatMap fun r => (rngI (-(d : Int)) n).map fun e => r ++ [e] from hr)
      obtain ⟨e, he, rfl⟩ := List.mem_map.mp hr
      rcases List.mem_append.mp hm with z | z
      · exact ih q hq hn m z
      · cases List.mem_singleton.mp z
        unfold rngI at he
        obtain ⟨i, hi, rfl⟩ := List.mem_map.mp he
        have := List.mem_range.mp hi
        omega
  rcases List.mem_append.mp hm with z | z
  · exact rng _ _ r hr (by omega) m z
  · cases List.mem_singleton.mp z
    omega
theorem keys_few {u d c : Nat} {due : Int} (h : (u + d + 1) ^ (c - 1) ≤ 300) : (keysI u d c due).length ≤ 300 := by
  unfold keysI
  rw [List.length_map]
  exact Nat.le_trans (List.length_filter_le _ _) (by rw [R.rowsI_len]; exact h)
theorem sum_nV (L : List Nat) : ∃ ns : List Int, L.map nV = ns.map V.int ∧ ns.sum = ((L.sum : Nat) : Int) := by
  refine ⟨L.map Int.ofNat, by rw [List.map_map] <;> rfl, sum_nats L⟩
section
variable {P : Program} {w : World} {K : PySem.W.Frag} {mg : Str → Option Value} {base : Heap}
def spWhole (TT : List NTab) : Sp := fun vs H Q _ => ∃ u d c m : Nat, vs = [nV u, nV d, nV c, nV m] ∧ u ≤ 40 ∧ d ≤ 40 ∧ 1 ≤ c ∧ c ≤ 6 ∧ (u + d + 1) ^ (c - 1) ≤ 300 ∧ m = c ^ (u + d) ∧ RetV TT H Q (.bl true)
theorem ok_whole (T : Txt K mg) (TT : List NTab) : FnOk P w K mg base CX0 5 T.a_Lwhole T.d_Lwhole ["_law_ups", "_law_downs", "_law_shades", "_law_many"] (spWhole TT) := by
  refine T.F_Lwhole.ok sc_Lwhole (fun vs H Q E h => ?_) (fun cdv A outer s H vs Q E hr h => ?_)
  · obtain ⟨u, d, c, m, rfl, _⟩ := h
    rfl
  · obtain ⟨u, d, c, m, rfl, hu, hd, hc1, hc2, hfew, hm, k⟩ := h
    have nd := sc_Lwhole.nd
    refine ⟨_, (pss_cons (ps_setLc (i := 4) (own := [("_law_key", 6)]) (g := gName 6) (tt := tYes) rfl nd rfl rfl (sw_true rfl rfl rfl (by decide +kernel)) (pi_list (pe_call (ok_keys T TT) (hr.mono (by decide)) rfl T.g_Lkeys T.F_Lkeys.kp T.b_Lkeys .nil pass0 (pa_cons (pv 0) (pa_cons (pv 1) (pa_cons (pv 2) (pa_cons (pe_op op_sub (pv 0) (pv 1)) pa_nil)))))) (blkOk_by (own := [("_law_key", 6)]) (N := N_Lwhole) (sc := defScope s_Lwhole) (by decide +kernel)) (fun _ _ _ _ _ => (pg_name (i := 6) nd rfl (Or.inl rfl))) (fun _ _ _ _ _ => pts_nil) (fun _ _ _ _ _ => (pe_call (ok_side_lot T TT) (hr.mono (by decide)) rfl T.g_side_lot T.F_side_lot.kp T.b_side_lot .nil (passes_call takes_none5 (fun _ _ _ _ h => h)) (pa_cons (pv 0) (pa_cons (pv 1) (pa_cons (pv 6) pa_nil))))))
        (pss_cons (ps_for PassesOwn.never rfl (pi_list (pv 4)) (pg_name (i := 5) nd rfl (Or.inl rfl))
          (pss_one (ps_if (PW.pt (pw_or (pt_not (pt_val (pe_callB call_isi (by rfl) T.n_isinstance (by decide +kernel) (pa_cons (pv 5) (pa_cons (pe_bltn (v := .ty "int") (u := Value.type "int") (by rfl) T.n_int (by decide +kernel) rfl) pa_nil))))) (pw_or (pt_val (pe_callB call_isi (by rfl) T.n_isinstance (by decide +kernel) (pa_cons (pv 5) (pa_cons (pe_bltn (v := .ty "bool") (u := Value.type "bool") (by rfl) T.n_bool (by decide +kernel) rfl) pa_nil)))) (pw_or1 (pt_cmpR op_lt (pv 5) pe_int (nomark _)))))) (pss_one (ps_ret pe_bl)) pss_nil)))
        (pss_cons (ps_if (pt_cmpR op_ne (pe_callB (cr_sum rfl) (by rfl) T.n_sum (by decide +kernel) (pa_cons (pv 4) pa_nil)) (pv 3) (nomark _)) (pss_one (ps_ret pe_bl)) pss_nil)
        (pss_one (ps_ret (pe_cmpR op_eq (pe_callB (cr_sum rfl) (by rfl) T.n_sum (by decide +kernel) (pa_cons (pe_lc (own := [("_law_key", 6)]) (g := gName 6) (tt := tYes) rfl nd (pi_list (pe_call (ok_keys T TT) (hr.mono (by decide)) rfl T.g_Lkeys T.F_Lkeys.kp T.b_Lkeys .nil pass0 (pa_cons (pv 0) (pa_cons (pv 1) (pa_cons (pv 2) (pa_cons (pe_op op_add (pe_op op_sub (pv 0) (pv 1)) pe_int) pa_nil)))))) (blkOk_by (own := [("_law_key", 6)]) (N := N_Lwhole) (sc := defScope s_Lwhole) (by decide +kernel)) (fun _ _ _ _ _ => (pg_name (i := 6) nd rfl (Or.inl rfl))) (fun _ _ _ _ _ => pts_nil) (fun _ _ _ _ _ => (pe_call (ok_side_lot T TT) (hr.mono (by decide)) rfl T.g_side_lot T.F_side_lot.kp T.b_side_lot .nil (passes_call takes_none5 (fun _ _ _ _ h => h)) (pa_cons (pv 0) (pa_cons (pv 1) (pa_cons (pv 6) pa_nil)))))) pa_nil)) pe_int (nomark _))))))), ?_⟩
    have cu : Cells (u : Int) := ⟨by omega, by omega⟩
    have cd : Cells (d : Int) := ⟨by omega, by omega⟩
    have kf := fun due : Int => keys_few (u := u) (d := d) (c := c) (due := due) hfew
    refine ⟨_, rfl, _, rfl, _, rfl, _, rfl, _, rfl, _, _, rfl, rfl, u, d, c, (u : Int) - d, rfl, hu, hd, hc1, hc2, hfew, fun l H1 x1 hl => ?_⟩
    obtain ⟨vs, hl, hvs⟩ := hl
    have lv := TupX.rowsI_len hvs
    have kok := keys_ok (due := (u : Int) - d) hu hd ⟨hc1, hc2⟩
    have kfe := kf ((u : Int) - d)
    refine ⟨l, rfl, ⟨_, SqL.of hl⟩, fun D hD => lc_it (walk_list (xs := vs)) (fun j H' => Ext TT none H1 H' ∧ H' D = some (.lst (((keysI u d c ((u : Int) - d)).take j |>.map fun s => wN s u d).map nV))) ⟨Ext.new hD, upd_same⟩ ?_ (fun j x H3 H2 hj e y => ?_) (fun H2 e => ?_)⟩
    · rintro j H' _ ⟨x2, _⟩
      exact SqL.of (x2.lst hl)
    · obtain ⟨rfl, y⟩ := y
      obtain ⟨x2, h2⟩ := e
      obtain ⟨r, er, hr0⟩ := rowsI_get hvs y
      obtain ⟨r1, r6, rm⟩ := kok r (List.mem_of_getElem? er)
      obtain ⟨b, rfl, hb⟩ := rowI_at (hr0.mono x2.tk)
      refine ⟨rfl, ?_⟩
      dsimp only [tYes]
      refine iteT ?_
      refine ⟨_, rfl, _, rfl, _, rfl, (u : Int), (d : Int), b, r, rfl, hb, rm, fun z => absurd cu z, fun _ z => absurd cd z, fun _ _ z => absurd ⟨r1, r6⟩ z, fun _ _ _ _ H4 x4 => ?_⟩
      rw [Int.toNat_natCast, Int.toNat_natCast]
      have h4 := x4.lst h2
      refine ⟨_, h4, by rw [List.length_map, List.length_map, List.length_take]; exact small1000 (by omega), (x2.trans x4).mutL hD h4 (fun z => nomatch z), ?_⟩
      rw [upd_same, List.take_succ, er, List.map_append, List.map_append] <;> rfl
    · obtain ⟨x2, h2⟩ := e
      rw [lv, List.take_length] at h2
      refine ⟨_, rfl, D, rfl, ⟨_, SqL.of h2⟩, for_list (xs := ((keysI u d c ((u : Int) - d)).map fun s => wN s u d).map nV) (fun _ σ H' => ∃ u5, σ = [some (nV u), some (nV d), some (nV c), some (nV m), some (.ref D), u5, none] ∧ H2 = H') ⟨none, rfl, rfl⟩ ?_ ?_ ?_⟩
      · rintro i σ _ _ ⟨u5, rfl, rfl⟩
        exact SqL.of h2
      · rintro i x σ _ hx ⟨u5, rfl, rfl⟩
        rw [List.getElem?_map] at hx
        cases ez : ((keysI u d c ((u : Int) - d)).map fun s => wN s u d)[i]? with
        | none => rw [ez] at hx; cases hx
        | some z =>
          rw [ez] at hx
          cases hx
          refine ⟨_, rfl, _, _, .type "int", .type "int", true, rfl, .ty _, .base (.int _), kit_ty (by decide +kernel), _, rfl, ?_⟩
          refine iteF' rfl ?_
          refine ⟨_, rfl, _, _, .type "int", .type "bool", false, rfl, .ty _, .base (.int _), kit_ty (by decide +kernel), _, rfl, ?_⟩
          refine iteF ?_
          refine ⟨_, rfl, _, _, rfl, rfl, _, rfl, ?_⟩
          refine iteF' (decide_eq_false (by omega)) ?_
          exact ⟨_, rfl, rfl⟩
      · rintro σ _ ⟨u5, rfl, rfl⟩
        obtain ⟨ns, e1, e2⟩ := sum_nV ((keysI u d c ((u : Int) - d)).map fun s => wN s u d)
        refine ⟨_, rfl, D, ns, rfl, SqL.of (by rw [h2, e1]), ?_⟩
        refine ⟨_, rfl, rfl, _, rfl, ?_⟩
        rw [e2, keys_sum hu hd ⟨hc1, hc2⟩, ← hm]
        refine iteF' (by simp [nV]) ?_
        refine ⟨_, rfl, _, rfl, _, rfl, _, rfl, _, rfl, _, _, rfl, rfl, _, _, rfl, rfl, u, d, c, (u : Int) - d + 1, rfl, hu, hd, hc1, hc2, hfew, fun l2 H3 x3 hl2 => ?_⟩
        obtain ⟨vs2, hl2, hvs2⟩ := hl2
        have lv2 := TupX.rowsI_len hvs2
        have kok2 := keys_ok (due := (u : Int) - d + 1) hu hd ⟨hc1, hc2⟩
        have kfe2 := kf ((u : Int) - d + 1)
        refine ⟨l2, rfl, ⟨_, SqL.of hl2⟩, fun D2 hD2 => lc_it (walk_list (xs := vs2)) (fun j H' => Ext TT none H3 H' ∧ H' D2 = some (.lst (((keysI u d c ((u : Int) - d + 1)).take j |>.map fun s => wN s u d).map nV))) ⟨Ext.new hD2, upd_same⟩ ?_ (fun j x H5 H4 hj e y => ?_) (fun H4 e => ?_)⟩
        · rintro j H' _ ⟨x4, _⟩
          exact SqL.of (x4.lst hl2)
        · obtain ⟨rfl, y⟩ := y
          obtain ⟨x4, h4⟩ := e
          obtain ⟨r, er, hr0⟩ := rowsI_get hvs2 y
          obtain ⟨r1, r6, rm⟩ := kok2 r (List.mem_of_getElem? er)
          obtain ⟨b, rfl, hb⟩ := rowI_at (hr0.mono x4.tk)
          refine ⟨rfl, ?_⟩
          dsimp only [tYes]
          refine iteT ?_
          refine ⟨_, rfl, _, rfl, _, rfl, (u : Int), (d : Int), b, r, rfl, hb, rm, fun z => absurd cu z, fun _ z => absurd cd z, fun _ _ z => absurd ⟨r1, r6⟩ z, fun _ _ _ _ H6 x6 => ?_⟩
          rw [Int.toNat_natCast, Int.toNat_natCast]
          have h6 := x6.lst h4
          refine ⟨_, h6, by rw [List.length_map, List.length_map, List.length_take]; exact small1000 (by omega), (x4.trans x6).mutL hD2 h6 (fun z => nomatch z), ?_⟩
          rw [upd_same, List.take_succ, er, List.map_append, List.map_append] <;> rfl
        · obtain ⟨x4, h4⟩ := e
          rw [lv2, List.take_length] at h4
          obtain ⟨ns2, e3, e4⟩ := sum_nV ((keysI u d c ((u : Int) - d + 1)).map fun s => wN s u d)
          refine ⟨D2, ns2, rfl, SqL.of (by rw [h4, e3]), ?_⟩
          refine ⟨rfl, ?_⟩
          rw [e4, keys_none]
          exact k _ (((x1.trans x2).trans x3).trans x4)
end
end R
end

-- LawL
section
set_option Elab.async false
set_option linter.all false
set_option maxRecDepth 100000
set_option maxHeartbeats 4000000
namespace R
open PySem PySem.Spec PyProof.Rows L2 LamX NdefX LamP BinX DictX
section
variable {P : Program} {w : World} {K : PySem.W.Frag} {mg : Str → Option Value} {base : Heap}
def spLaw (K : PySem.W.Frag) (TT : List NTab) : Sp := fun vs H Q _ => ∃ (l : Addr) (ns : List Int), vs = [.ref l] ∧ SqL K H l (ns.map V.int) ∧ (∀ z ∈ ns, Builtin.Int.intBits z ≤ 1048576) ∧ TabsN TT H ∧ ∀ H', Q (.bl true) H'
theorem few1 {u d c : Nat} (h : (c = 2 ∧ u + d ≤ 6) ∨ (c = 3 ∧ u + d ≤ 6) ∨ (c = 4 ∧ u + d ≤ 3) ∨ (c = 5 ∧ u + d ≤ 2) ∨ (c = 6 ∧ u + d ≤ 2)) : (u + d + 1) ^ (c - 1) ≤ 300 := by
  have m : ∀ {a b e z : Nat}, a ≤ b → b ^ e ≤ z → a ^ e ≤ z := fun h1 h2 => Nat.le_trans (Nat.pow_le_pow_left h1 _) h2
  rcases h with ⟨rfl, h⟩ | ⟨rfl, h⟩ | ⟨rfl, h⟩ | ⟨rfl, h⟩ | ⟨rfl, h⟩
  · exact m (b := 7) (by omega) (by decide)
  · exact m (b := 7) (by omega) (by decide)
  · exact m (b := 4) (by omega) (by decide)
  · exact m (b := 3) (by omega) (by decide)
  · exact m (b := 3) (by omega) (by decide)
theorem few2 {u d c : Nat} (hu : u ≤ 40) (hd : d ≤ 40) (h : c = 1 ∨ c = 2) : (u + d + 1) ^ (c - 1) ≤ 300 := by
  rcases h with rfl | rfl
  · show (u + d + 1) ^ 0 ≤ 300
    rw [Nat.pow_zero]
    decide
  · show (u + d + 1) ^ 1 ≤ 300
    rw [Nat.pow_one]
    omega
theorem ok_law (T : Txt K mg) (TT : List NTab) : FnOk P w K mg base CX0 6 T.a_law T.d_law ["_law_script"] (spLaw K TT) := by
  refine T.F_law.ok sc_law (fun vs H Q E h => ?_) (fun cdv A outer s H vs Q E hr h => ?_)
  · obtain ⟨l, ns, rfl, _⟩ := h
    rfl
  · obtain ⟨l0, ns, rfl, hl0, hb, hT, k⟩ := h
    have nd := sc_law.nd
    refine ⟨_, (pss_cons (ps_set (i := 1) nd rfl (Or.inl rfl) (pe_call (ok_pool T TT) (hr.mono (by decide)) rfl T.g_Lpool T.F_Lpool.kp T.b_Lpool .nil pass0 (pa_cons (pv 0) (pa_cons pe_int pa_nil))))
        (pss_cons (ps_set (i := 2) nd rfl (Or.inl rfl) (pe_call (ok_one T TT) (hr.mono (by decide)) rfl T.g_Lone T.F_Lone.kp T.b_Lone .nil pass0 (pa_cons (pv 1) (pa_cons (pe_lst (pa_cons pe_int (pa_cons pe_int (pa_cons pe_int (pa_cons pe_int (pa_cons pe_int (pa_cons pe_int pa_nil))))))) pa_nil))))
        (pss_cons (ps_set (i := 3) nd rfl (Or.inl rfl) (pe_op op_sub (pe_op op_sub pe_int (pe_op op_mul pe_int (pe_callTy call_int1 (by rfl) T.n_int (by decide +kernel) (pa_cons (pe_cmpR op_eq (pv 2) pe_int (nomark _)) pa_nil)))) (pe_op op_mul pe_int (pe_callTy call_int1 (by rfl) T.n_int (by decide +kernel) (pa_cons (pe_cmpR op_gt (pv 2) pe_int (nomark _)) pa_nil)))))
        (pss_cons (ps_set (i := 4) nd rfl (Or.inl rfl) (pe_call (ok_take T TT) (hr.mono (by decide)) rfl T.g_Ltake T.F_Ltake.kp T.b_Ltake .nil pass0 (pa_cons (pv 1) (pa_cons (pe_op op_add (pv 3) pe_int) pa_nil))))
        (pss_cons (ps_set (i := 5) nd rfl (Or.inl rfl) (pe_call (ok_take T TT) (hr.mono (by decide)) rfl T.g_Ltake T.F_Ltake.kp T.b_Ltake .nil pass0 (pa_cons (pv 1) (pa_cons (pe_op op_add (pv 4) pe_int) pa_nil))))
        (pss_cons (ps_set (i := 6) nd rfl (Or.inl rfl) pe_int)
        (pss_cons (ps_for PassesOwn.never rfl (pi_range1 (by rfl) T.n_range (pa_cons (pv 4) pa_nil)) (pg_name (i := 7) nd rfl (Or.inl rfl))
          (pss_one (ps_set (i := 6) nd rfl (Or.inl rfl) (pe_op op_mul (pv 6) (pv 2)))))
        (pss_cons (ps_if (pt_not (pt_val (pe_call (ok_whole T TT) (hr.mono (by decide)) rfl T.g_Lwhole T.F_Lwhole.kp T.b_Lwhole .nil pass0 (pa_cons (pv 5) (pa_cons (pe_op op_sub (pv 4) (pv 5)) (pa_cons (pv 2) (pa_cons (pv 6) pa_nil))))))) (pss_one (ps_ret pe_bl)) pss_nil)
        (pss_cons (ps_set (i := 2) nd rfl (Or.inl rfl) (pe_call (ok_one T TT) (hr.mono (by decide)) rfl T.g_Lone T.F_Lone.kp T.b_Lone .nil pass0 (pa_cons (pv 1) (pa_cons (pe_lst (pa_cons pe_int (pa_cons pe_int (pa_cons pe_int (pa_cons pe_int pa_nil))))) pa_nil))))
        (pss_cons (ps_set (i := 3) nd rfl (Or.inl rfl) (pe_call (ok_one T TT) (hr.mono (by decide)) rfl T.g_Lone T.F_Lone.kp T.b_Lone .nil pass0 (pa_cons (pv 1) (pa_cons (pe_lst (pa_cons pe_int (pa_cons pe_int (pa_cons pe_int (pa_cons pe_int (pa_cons pe_int (pa_cons pe_int (pa_cons pe_int (pa_cons pe_int pa_nil))))))))) pa_nil))))
        (pss_cons (ps_par (i := 5) (j := 8) (by rfl) nd rfl rfl (by decide) rfl rfl (pa_cons (pe_call (ok_take T TT) (hr.mono (by decide)) rfl T.g_Ltake T.F_Ltake.kp T.b_Ltake .nil pass0 (pa_cons (pv 1) (pa_cons (pe_op op_add (pv 3) pe_int) pa_nil))) (pa_cons (pe_call (ok_take T TT) (hr.mono (by decide)) rfl T.g_Ltake T.F_Ltake.kp T.b_Ltake .nil pass0 (pa_cons (pv 1) (pa_cons (pe_op op_add (pv 3) pe_int) pa_nil))) pa_nil)) (by rfl))
        (pss_cons (ps_set (i := 6) nd rfl (Or.inl rfl) pe_int)
        (pss_cons (ps_for PassesOwn.never rfl (pi_range1 (by rfl) T.n_range (pa_cons (pe_op op_add (pv 5) (pv 8)) pa_nil)) (pg_name (i := 7) nd rfl (Or.inl rfl))
          (pss_one (ps_set (i := 6) nd rfl (Or.inl rfl) (pe_op op_mul (pv 6) (pv 2)))))
        (pss_one (ps_ret (pe_call (ok_whole T TT) (hr.mono (by decide)) rfl T.g_Lwhole T.F_Lwhole.kp T.b_Lwhole .nil pass0 (pa_cons (pv 5) (pa_cons (pv 8) (pa_cons (pv 2) (pa_cons (pv 6) pa_nil)))))))))))))))))))), ?_⟩
    refine ⟨_, rfl, l0, ns, 0, rfl, by omega, by omega, hl0, hb, fun v H2 x2 hv => ?_⟩
    obtain ⟨so, rfl, q2, nso⟩ := hv
    refine ⟨_, rfl, (by show 6 ≤ sizeLine; decide), fun l nl => ?_⟩
    obtain ⟨x3, h3⟩ := newX (TT := TT) (so := some so) (o := .lst [.int 2, .int 3, .int 3, .int 4, .int 5, .int 6]) (Ext.refl _ _ H2) nl
    refine ⟨so, l, _, rfl, x3.src q2, h3, src_ne q2 nl, by show 0 < 6; decide, by show 6 < 1000; decide, fun v H4 x4 q4 hv => ?_⟩
    have hC : ∃ C : Nat, v = nV C ∧ 2 ≤ C ∧ C ≤ 6 := by
      simp only [List.mem_cons, List.not_mem_nil, or_false] at hv
      rcases hv with z | z | z | z | z | z
      · exact ⟨2, z, by omega, by omega⟩
      · exact ⟨3, z, by omega, by omega⟩
      · exact ⟨3, z, by omega, by omega⟩
      · exact ⟨4, z, by omega, by omega⟩
      · exact ⟨5, z, by omega, by omega⟩
      · exact ⟨6, z, by omega, by omega⟩
    obtain ⟨C, rfl, C2, C6⟩ := hC
    clear hv
    obtain ⟨b4, hb4⟩ : ∃ b : Int, b = (if decide (nV C = V.int 4) = true then 1 else 0) := ⟨_, rfl⟩
    obtain ⟨b5, hb5⟩ : ∃ b : Int, b = (if decide ((C : Int) > 4) = true then 1 else 0) := ⟨_, rfl⟩
    have e4 : (C = 4 ∧ b4 = 1) ∨ (C ≠ 4 ∧ b4 = 0) := by
      by_cases z : C = 4
      · left
        subst z
        exact ⟨rfl, by rw [hb4, if_pos (by simp [nV])]⟩
      · right
        exact ⟨z, by rw [hb4, if_neg (by simp [nV]; omega)]⟩
    have e5 : (4 < C ∧ b5 = 1) ∨ (C ≤ 4 ∧ b5 = 0) := by
      by_cases z : 4 < C
      · left
        exact ⟨z, by rw [hb5, if_pos (by simp; omega)]⟩
      · right
        exact ⟨by omega, by rw [hb5, if_neg (by simp; omega)]⟩
    refine ⟨_, rfl, rfl, .inr ⟨_, rfl, ?_⟩⟩
    rw [← hb4]
    refine ⟨_, _, rfl, rfl, .inl ⟨by decide, by decide⟩, _, _, rfl, rfl, _, rfl, _, _, rfl, rfl, .inr ⟨_, rfl, ?_⟩⟩
    rw [← hb5]
    refine ⟨_, _, rfl, rfl, .inl ⟨by decide, by decide⟩, _, _, rfl, rfl, ?_⟩
    refine ⟨_, rfl, _, rfl, _, _, rfl, rfl, so, 6 - 3 * b4 - 4 * b5 + 1, rfl, q4, by omega, by omega, fun v H5 x5 q5 hv => ?_⟩
    obtain ⟨cl, rfl, cl1, cl2⟩ := hv
    refine ⟨_, rfl, _, rfl, _, _, rfl, rfl, so, cl + 1, rfl, q5, by omega, by omega, fun v H6 x6 q6 hv => ?_⟩
    obtain ⟨up, rfl, up1, up2⟩ := hv
    obtain ⟨N, rfl⟩ : ∃ N : Nat, cl = (N : Int) := ⟨cl.toNat, by omega⟩
    obtain ⟨U, rfl⟩ : ∃ U : Nat, up = (U : Int) := ⟨up.toNat, by omega⟩
    refine ⟨_, rfl, (N : Int), rfl, by omega, by omega, for_range (lo := 0) (n := (N : Int).toNat) (fun i σ H' => ∃ u7, σ = [some (.ref l0), some (.ref so), some (nV C), some (.int (6 - 3 * b4 - 4 * b5)), some (nV N), some (nV U), some (nV (C ^ i)), u7, none] ∧ H6 = H') ⟨none, rfl, rfl⟩ ?_ ?_⟩
    · rintro i σ _ _ ⟨u7, rfl, rfl⟩
      refine ⟨_, rfl, _, rfl, _, _, rfl, rfl, .inr ⟨by omega, by omega⟩, some (.int (0 + (i : Int))), ?_, rfl⟩
      show _ = [_, _, _, _, _, _, some (V.int ((C ^ (i + 1) : Nat) : Int)), _, _]
      rw [Nat.pow_succ, Int.natCast_mul] <;> rfl
    · rintro σ _ ⟨u7, rfl, rfl⟩
      rw [Int.toNat_natCast]
      have ed : (N : Int) - (U : Int) = ((N - U : Nat) : Int) := by omega
      refine ⟨_, rfl, _, rfl, _, rfl, _, _, rfl, rfl, _, rfl, _, rfl, U, N - U, C, C ^ N, ?_, by omega, by omega, by omega, C6, few1 (by omega), by rw [show U + (N - U) = N by omega], fun H7 x7 => ?_⟩
      · show [nV U, V.int ((N : Int) - (U : Int)), nV C, nV (C ^ N)] = [nV U, V.int ((N - U : Nat) : Int), nV C, nV (C ^ N)]
        rw [ed]
      refine ⟨true, rfl, ?_⟩
      refine iteF ?_
      have q7 := x7.toS.src q6
      refine ⟨_, rfl, (by show 4 ≤ sizeLine; decide), fun l2 nl2 => ?_⟩
      obtain ⟨x8, h8⟩ := newX (TT := TT) (so := some so) (o := .lst [.int 1, .int 2, .int 2, .int 2]) (Ext.refl _ _ H7) nl2
      refine ⟨so, l2, _, rfl, x8.src q7, h8, src_ne q7 nl2, by show 0 < 4; decide, by show 4 < 1000; decide, fun v H9 x9 q9 hv => ?_⟩
      have hS : ∃ S : Nat, v = nV S ∧ (S = 1 ∨ S = 2) := by
        simp only [List.mem_cons, List.not_mem_nil, or_false] at hv
        rcases hv with z | z | z | z
        · exact ⟨1, z, .inl rfl⟩
        · exact ⟨2, z, .inr rfl⟩
        · exact ⟨2, z, .inr rfl⟩
        · exact ⟨2, z, .inr rfl⟩
      obtain ⟨S, rfl, hS⟩ := hS
      clear hv
      refine ⟨_, rfl, (by show 8 ≤ sizeLine; decide), fun l3 nl3 => ?_⟩
      obtain ⟨x10, h10⟩ := newX (TT := TT) (so := some so) (o := .lst [.int 9, .int 9, .int 9, .int 9, .int 9, .int 9, .int 20, .int 40]) (Ext.refl _ _ H9) nl3
      refine ⟨so, l3, _, rfl, x10.src q9, h10, src_ne q9 nl3, by show 0 < 8; decide, by show 8 < 1000; decide, fun v H11 x11 q11 hv => ?_⟩
      have hmo : ∃ mo : Int, v = .int mo ∧ 9 ≤ mo ∧ mo ≤ 40 := by
        simp only [List.mem_cons, List.not_mem_nil, or_false] at hv
        rcases hv with z | z | z | z | z | z | z | z <;> exact ⟨_, z, by omega, by omega⟩
      obtain ⟨mo, rfl, mo1, mo2⟩ := hmo
      clear hv
      refine ⟨_, rfl, _, rfl, _, _, rfl, rfl, so, mo + 1, rfl, q11, by omega, by omega, fun v H12 x12 q12 hv => ?_⟩
      obtain ⟨ua, rfl, ua1, ua2⟩ := hv
      refine ⟨_, rfl, _, rfl, _, _, rfl, rfl, so, mo + 1, rfl, q12, by omega, by omega, fun v H13 x13 q13 hv => ?_⟩
      obtain ⟨da, rfl, da1, da2⟩ := hv
      refine ⟨_, _, rfl, ?_⟩
      obtain ⟨UA, rfl⟩ : ∃ U : Nat, ua = (U : Int) := ⟨ua.toNat, by omega⟩
      obtain ⟨DA, rfl⟩ : ∃ U : Nat, da = (U : Int) := ⟨da.toNat, by omega⟩
      have es : (UA : Int) + (DA : Int) = ((UA + DA : Nat) : Int) := by omega
      refine ⟨_, rfl, _, rfl, _, _, rfl, rfl, (UA : Int) + (DA : Int), rfl, by omega, by omega, for_range (lo := 0) (n := ((UA : Int) + (DA : Int)).toNat) (fun i σ H' => ∃ u7, σ = [some (.ref l0), some (.ref so), some (nV S), some (.int mo), some (nV N), some (nV UA), some (nV (S ^ i)), u7, some (nV DA)] ∧ H13 = H') ⟨u7, rfl, rfl⟩ ?_ ?_⟩
      · rintro i σ _ _ ⟨u7, rfl, rfl⟩
        refine ⟨_, rfl, _, rfl, _, _, rfl, rfl, .inr ⟨by omega, by omega⟩, some (.int (0 + (i : Int))), ?_, rfl⟩
        show _ = [_, _, _, _, _, _, some (V.int ((S ^ (i + 1) : Nat) : Int)), _, _]
        rw [Nat.pow_succ, Int.natCast_mul] <;> rfl
      · rintro σ _ ⟨u7, rfl, rfl⟩
        rw [es, Int.toNat_natCast]
        refine ⟨_, rfl, _, rfl, _, rfl, _, rfl, UA, DA, S, S ^ (UA + DA), rfl, by omega, by omega, by omega, by omega, few2 (by omega) (by omega) hS, rfl, fun H14 x14 => ?_⟩
        exact k _
end
end R
end

-- EndMk
section
set_option Elab.async false
set_option linter.all false
set_option maxRecDepth 100000
set_option maxHeartbeats 4000000
namespace R
open PySem PySem.Spec PyProof.Rows L2 LamX NdefX LamP
theorem exm_by {K : PySem.W.Frag} {S F : Addr} {b : Bool} (h1 : PySem.W.subIn K (.ref F) (.type "BaseException") = some true) (h2 : PySem.W.isClsIn K F = true) (h3 : PySem.W.typeIn K (.ref F) = some (.type "type")) (h4 : PySem.W.subIn K (.ref S) (.ref F) = some b) : PySem.W.exmOne K (.ref S) (.ref F) = some b := by
  have a1 : (PySem.W.subIn K (.ref F) (.type "BaseException") == some true) = true := by rw [h1] <;> rfl
  have a2 : ((PySem.W.clsIn K F).isSome && PySem.W.typeIn K (.ref F) == some (.type "type")) = true := by
    rw [show (PySem.W.clsIn K F).isSome = true from h2, h3] <;> rfl
  unfold PySem.W.exmOne
  first
    | rw [if_pos a1, if_pos a2, h4]
    | (show (if _ = true then (if _ = true then _ else _) else _) = _; rw [if_pos a1, if_pos a2, h4])
theorem law_at {l : PySem.W.OpenLaw} {w : World} {K : PySem.W.Frag} {h : Heap} {mg : Str → Option Value} {fa : Addr} (X : K.In h) (T : Txt K mg) (hfa : mg "law" = some (.ref fa))
    (hb : ∀ (s : Shared) (u : Value), BindsTo s T.d_law ⟨[u], []⟩ [("_law_script", u)]) : LawAtS l w K CX0 6 63 "_law_script" mg fa h := by
  have e := hfa.symm.trans T.g_law
  cases e
  refine ⟨T.d_law, [], spLaw K [], ?_, ?_, ?_, hb, ?_, ?_⟩
  · intro p hp
    cases hp
  · intro p hp
    cases hp
  · intro p hp
    cases hp
  · intro H a ns _ hbits htab hS
    refine ⟨a, ns, rfl, hS, hbits, ?_, fun _ => rfl⟩
    intro p hp
    cases hp
  · intro base _ _ TB
    exact ok_law T []
theorem all_mk {l : PySem.W.OpenLaw} {w : World} {K : PySem.W.Frag} {h : Heap} {mg : Str → Option Value} {fa : Addr} (X : K.In h) (G : h.Ns mainGlobals mg) (hfa : mg "law" = some (.ref fa))
    {C_Refused N_Refused : Addr} {nm_Refused q_Refused : Str} {bs_Refused bm_Refused sub_Refused : List Value} {sn_Refused : List Str} {ab_Refused : Bool} {col_Refused : Option Bool} {dd_Refused : Option Addr} {m0_Refused m1_Refused m2_Refused m3_Refused m5_Refused : Option Value}
    {C_BadCount N_BadCount : Addr} {nm_BadCount q_BadCount : Str} {bs_BadCount bm_BadCount sub_BadCount : List Value} {sn_BadCount : List Str} {ab_BadCount : Bool} {col_BadCount : Option Bool} {dd_BadCount : Option Addr} {m0_BadCount m1_BadCount m2_BadCount m3_BadCount m5_BadCount : Option Value}
    {C_BadAnswer N_BadAnswer : Addr} {nm_BadAnswer q_BadAnswer : Str} {bs_BadAnswer bm_BadAnswer sub_BadAnswer : List Value} {sn_BadAnswer : List Str} {ab_BadAnswer : Bool} {col_BadAnswer : Option Bool} {dd_BadAnswer : Option Addr} {m0_BadAnswer m1_BadAnswer m2_BadAnswer m3_BadAnswer m5_BadAnswer : Option Value}
    {a_Refused_init : Addr} {od_Refused_init an_Refused_init : Option Addr} {sl_Refused_init : Array (Option Value)} {oc_Refused_init kV_Refused_init dc_Refused_init pm_Refused_init ct_Refused_init : Value} {cd_Refused_init : Value}
    {a_check_count : Addr} {od_check_count an_check_count : Option Addr} {sl_check_count : Array (Option Value)} {oc_check_count kV_check_count dc_check_count pm_check_count ct_check_count : Value} {cd_check_count : Value}
    {a_side_lot : Addr} {od_side_lot an_side_lot : Option Addr} {sl_side_lot : Array (Option Value)} {oc_side_lot kV_side_lot dc_side_lot pm_side_lot ct_side_lot : Value} {cd_side_lot : Value}
    {a_ways_on : Addr} {od_ways_on an_ways_on : Option Addr} {sl_ways_on : Array (Option Value)} {oc_ways_on kV_ways_on dc_ways_on pm_ways_on ct_ways_on : Value} {cd_ways_on : Value}
    {a_Lpool : Addr} {od_Lpool an_Lpool : Option Addr} {sl_Lpool : Array (Option Value)} {oc_Lpool kV_Lpool dc_Lpool pm_Lpool ct_Lpool : Value} {cd_Lpool : Value}
    {a_Ltake : Addr} {od_Ltake an_Ltake : Option Addr} {sl_Ltake : Array (Option Value)} {oc_Ltake kV_Ltake dc_Ltake pm_Ltake ct_Ltake : Value} {cd_Ltake : Value}
    {a_Lone : Addr} {od_Lone an_Lone : Option Addr} {sl_Lone : Array (Option Value)} {oc_Lone kV_Lone dc_Lone pm_Lone ct_Lone : Value} {cd_Lone : Value}
    {a_Lkeys : Addr} {od_Lkeys an_Lkeys : Option Addr} {sl_Lkeys : Array (Option Value)} {oc_Lkeys kV_Lkeys dc_Lkeys pm_Lkeys ct_Lkeys : Value} {cd_Lkeys : Value}
    {a_Lwhole : Addr} {od_Lwhole an_Lwhole : Option Addr} {sl_Lwhole : Array (Option Value)} {oc_Lwhole kV_Lwhole dc_Lwhole pm_Lwhole ct_Lwhole : Value} {cd_Lwhole : Value}
    {a_law : Addr} {od_law an_law : Option Addr} {sl_law : Array (Option Value)} {oc_law kV_law dc_law pm_law ct_law : Value} {cd_law : Value}
    {t_MOST_CELLS : Tok}
    {t_MOST_COATS : Tok}
    (aC_Refused : PySem.W.nsIn K mainGlobals "Refused" = some (some (.ref C_Refused)))
    (xL_Refused : K.lookup C_Refused = some (excClassObj nm_Refused q_Refused C_Refused N_Refused bs_Refused bm_Refused true sn_Refused sub_Refused ab_Refused col_Refused dd_Refused m0_Refused m1_Refused m2_Refused m3_Refused m5_Refused "ValueError.__new__"))
    (rV_Refused : PySem.HandSPX.refsVE bm_Refused = true)
    (sa_Refused : PySem.W.findIn K (.ref C_Refused) "__setattr__" = some (some (.builtin "object.__setattr__")))
    (ex_Refused : PySem.W.subIn K (.ref C_Refused) (.type "BaseException") = some true)
    (ty_Refused : PySem.W.typeIn K (.ref C_Refused) = some (.type "type"))
    (kC_Refused : PySem.W.keepIn K (.ref C_Refused) = true)
    (ga_Refused : PySem.W.findIn K (.ref C_Refused) "__getattribute__" = some (some (.builtin "BaseException.__getattribute__")))
    (gg_Refused : PySem.W.findIn K (.ref C_Refused) "__getattr__" = some none)
    (hd_Refused : PySem.W.hasDictIn K C_Refused = true)
    (is_Refused : PySem.W.isClsIn K C_Refused = true)
    (iC_Refused : PySem.W.findIn K (.ref C_Refused) "__init__" = some (some (.ref a_Refused_init)))
    (nw_Refused : PySem.W.findIn K (.ref C_Refused) "what" = some none)
    (aC_BadCount : PySem.W.nsIn K mainGlobals "BadCount" = some (some (.ref C_BadCount)))
    (xL_BadCount : K.lookup C_BadCount = some (excClassObj nm_BadCount q_BadCount C_BadCount N_BadCount bs_BadCount bm_BadCount true sn_BadCount sub_BadCount ab_BadCount col_BadCount dd_BadCount m0_BadCount m1_BadCount m2_BadCount m3_BadCount m5_BadCount "ValueError.__new__"))
    (rV_BadCount : PySem.HandSPX.refsVE bm_BadCount = true)
    (sa_BadCount : PySem.W.findIn K (.ref C_BadCount) "__setattr__" = some (some (.builtin "object.__setattr__")))
    (ex_BadCount : PySem.W.subIn K (.ref C_BadCount) (.type "BaseException") = some true)
    (ty_BadCount : PySem.W.typeIn K (.ref C_BadCount) = some (.type "type"))
    (kC_BadCount : PySem.W.keepIn K (.ref C_BadCount) = true)
    (ga_BadCount : PySem.W.findIn K (.ref C_BadCount) "__getattribute__" = some (some (.builtin "BaseException.__getattribute__")))
    (gg_BadCount : PySem.W.findIn K (.ref C_BadCount) "__getattr__" = some none)
    (hd_BadCount : PySem.W.hasDictIn K C_BadCount = true)
    (is_BadCount : PySem.W.isClsIn K C_BadCount = true)
    (iC_BadCount : PySem.W.findIn K (.ref C_BadCount) "__init__" = some (some (.ref a_Refused_init)))
    (nw_BadCount : PySem.W.findIn K (.ref C_BadCount) "what" = some none)
    (aC_BadAnswer : PySem.W.nsIn K mainGlobals "BadAnswer" = some (some (.ref C_BadAnswer)))
    (xL_BadAnswer : K.lookup C_BadAnswer = some (excClassObj nm_BadAnswer q_BadAnswer C_BadAnswer N_BadAnswer bs_BadAnswer bm_BadAnswer true sn_BadAnswer sub_BadAnswer ab_BadAnswer col_BadAnswer dd_BadAnswer m0_BadAnswer m1_BadAnswer m2_BadAnswer m3_BadAnswer m5_BadAnswer "ValueError.__new__"))
    (rV_BadAnswer : PySem.HandSPX.refsVE bm_BadAnswer = true)
    (sa_BadAnswer : PySem.W.findIn K (.ref C_BadAnswer) "__setattr__" = some (some (.builtin "object.__setattr__")))
    (ex_BadAnswer : PySem.W.subIn K (.ref C_BadAnswer) (.type "BaseException") = some true)
    (ty_BadAnswer : PySem.W.typeIn K (.ref C_BadAnswer) = some (.type "type"))
    (kC_BadAnswer : PySem.W.keepIn K (.ref C_BadAnswer) = true)
    (ga_BadAnswer : PySem.W.findIn K (.ref C_BadAnswer) "__getattribute__" = some (some (.builtin "BaseException.__getattribute__")))
    (gg_BadAnswer : PySem.W.findIn K (.ref C_BadAnswer) "__getattr__" = some none)
    (hd_BadAnswer : PySem.W.hasDictIn K C_BadAnswer = true)
    (is_BadAnswer : PySem.W.isClsIn K C_BadAnswer = true)
    (iC_BadAnswer : PySem.W.findIn K (.ref C_BadAnswer) "__init__" = some (some (.ref a_Refused_init)))
    (nw_BadAnswer : PySem.W.findIn K (.ref C_BadAnswer) "what" = some none)
    (s_BadCount_BadCount : PySem.W.subIn K (.ref C_BadCount) (.ref C_BadCount) = some true)
    (s_BadCount_BadAnswer : PySem.W.subIn K (.ref C_BadCount) (.ref C_BadAnswer) = some false)
    (s_BadCount_Refused : PySem.W.subIn K (.ref C_BadCount) (.ref C_Refused) = some true)
    (s_BadAnswer_BadCount : PySem.W.subIn K (.ref C_BadAnswer) (.ref C_BadCount) = some false)
    (s_BadAnswer_BadAnswer : PySem.W.subIn K (.ref C_BadAnswer) (.ref C_BadAnswer) = some true)
    (s_BadAnswer_Refused : PySem.W.subIn K (.ref C_BadAnswer) (.ref C_Refused) = some true)
    (s_Refused_BadCount : PySem.W.subIn K (.ref C_Refused) (.ref C_BadCount) = some false)
    (s_Refused_BadAnswer : PySem.W.subIn K (.ref C_Refused) (.ref C_BadAnswer) = some false)
    (s_Refused_Refused : PySem.W.subIn K (.ref C_Refused) (.ref C_Refused) = some true)
    (l_Refused_init : K.lookup a_Refused_init = some ⟨oc_Refused_init, od_Refused_init, .func (PySem.W.fnOf "__init__" "Refused.__init__" (defArgs s_Refused_init) (defBody s_Refused_init) (defScope s_Refused_init) .none kV_Refused_init dc_Refused_init pm_Refused_init an_Refused_init cd_Refused_init ct_Refused_init), sl_Refused_init⟩)
    (co_Refused_init : PySem.W.codeIn K cd_Refused_init "Refused.__init__" = true)
    (k_Refused_init : PySem.W.keepIn K (.ref a_Refused_init) = true)
    (g_check_count : PySem.W.nsIn K mainGlobals "check_count" = some (some (.ref a_check_count)))
    (l_check_count : K.lookup a_check_count = some ⟨oc_check_count, od_check_count, .func (PySem.W.fnOf "check_count" "check_count" (defArgs s_check_count) (defBody s_check_count) (defScope s_check_count) .none kV_check_count dc_check_count pm_check_count an_check_count cd_check_count ct_check_count), sl_check_count⟩)
    (co_check_count : PySem.W.codeIn K cd_check_count "check_count" = true)
    (k_check_count : PySem.W.keepIn K (.ref a_check_count) = true)
    (g_side_lot : PySem.W.nsIn K mainGlobals "side_lot" = some (some (.ref a_side_lot)))
    (l_side_lot : K.lookup a_side_lot = some ⟨oc_side_lot, od_side_lot, .func (PySem.W.fnOf "side_lot" "side_lot" (defArgs s_side_lot) (defBody s_side_lot) (defScope s_side_lot) .none kV_side_lot dc_side_lot pm_side_lot an_side_lot cd_side_lot ct_side_lot), sl_side_lot⟩)
    (co_side_lot : PySem.W.codeIn K cd_side_lot "side_lot" = true)
    (k_side_lot : PySem.W.keepIn K (.ref a_side_lot) = true)
    (g_ways_on : PySem.W.nsIn K mainGlobals "ways_on" = some (some (.ref a_ways_on)))
    (l_ways_on : K.lookup a_ways_on = some ⟨oc_ways_on, od_ways_on, .func (PySem.W.fnOf "ways_on" "ways_on" (defArgs s_ways_on) (defBody s_ways_on) (defScope s_ways_on) .none kV_ways_on dc_ways_on pm_ways_on an_ways_on cd_ways_on ct_ways_on), sl_ways_on⟩)
    (co_ways_on : PySem.W.codeIn K cd_ways_on "ways_on" = true)
    (k_ways_on : PySem.W.keepIn K (.ref a_ways_on) = true)
    (g_Lpool : PySem.W.nsIn K mainGlobals "_law_pool" = some (some (.ref a_Lpool)))
    (l_Lpool : K.lookup a_Lpool = some ⟨oc_Lpool, od_Lpool, .func (PySem.W.fnOf "_law_pool" "_law_pool" (defArgs s_Lpool) (defBody s_Lpool) (defScope s_Lpool) .none kV_Lpool dc_Lpool pm_Lpool an_Lpool cd_Lpool ct_Lpool), sl_Lpool⟩)
    (co_Lpool : PySem.W.codeIn K cd_Lpool "_law_pool" = true)
    (k_Lpool : PySem.W.keepIn K (.ref a_Lpool) = true)
    (g_Ltake : PySem.W.nsIn K mainGlobals "_law_take" = some (some (.ref a_Ltake)))
    (l_Ltake : K.lookup a_Ltake = some ⟨oc_Ltake, od_Ltake, .func (PySem.W.fnOf "_law_take" "_law_take" (defArgs s_Ltake) (defBody s_Ltake) (defScope s_Ltake) .none kV_Ltake dc_Ltake pm_Ltake an_Ltake cd_Ltake ct_Ltake), sl_Ltake⟩)
    (co_Ltake : PySem.W.codeIn K cd_Ltake "_law_take" = true)
    (k_Ltake : PySem.W.keepIn K (.ref a_Ltake) = true)
    (g_Lone : PySem.W.nsIn K mainGlobals "_law_one" = some (some (.ref a_Lone)))
    (l_Lone : K.lookup a_Lone = some ⟨oc_Lone, od_Lone, .func (PySem.W.fnOf "_law_one" "_law_one" (defArgs s_Lone) (defBody s_Lone) (defScope s_Lone) .none kV_Lone dc_Lone pm_Lone an_Lone cd_Lone ct_Lone), sl_Lone⟩)
    (co_Lone : PySem.W.codeIn K cd_Lone "_law_one" = true)
    (k_Lone : PySem.W.keepIn K (.ref a_Lone) = true)
    (g_Lkeys : PySem.W.nsIn K mainGlobals "_law_keys" = some (some (.ref a_Lkeys)))
    (l_Lkeys : K.lookup a_Lkeys = some ⟨oc_Lkeys, od_Lkeys, .func (PySem.W.fnOf "_law_keys" "_law_keys" (defArgs s_Lkeys) (defBody s_Lkeys) (defScope s_Lkeys) .none kV_Lkeys dc_Lkeys pm_Lkeys an_Lkeys cd_Lkeys ct_Lkeys), sl_Lkeys⟩)
    (co_Lkeys : PySem.W.codeIn K cd_Lkeys "_law_keys" = true)
    (k_Lkeys : PySem.W.keepIn K (.ref a_Lkeys) = true)
    (g_Lwhole : PySem.W.nsIn K mainGlobals "_law_whole" = some (some (.ref a_Lwhole)))
    (l_Lwhole : K.lookup a_Lwhole = some ⟨oc_Lwhole, od_Lwhole, .func (PySem.W.fnOf "_law_whole" "_law_whole" (defArgs s_Lwhole) (defBody s_Lwhole) (defScope s_Lwhole) .none kV_Lwhole dc_Lwhole pm_Lwhole an_Lwhole cd_Lwhole ct_Lwhole), sl_Lwhole⟩)
    (co_Lwhole : PySem.W.codeIn K cd_Lwhole "_law_whole" = true)
    (k_Lwhole : PySem.W.keepIn K (.ref a_Lwhole) = true)
    (g_law : PySem.W.nsIn K mainGlobals "law" = some (some (.ref a_law)))
    (l_law : K.lookup a_law = some ⟨oc_law, od_law, .func (PySem.W.fnOf "law" "law" (defArgs s_law) (defBody s_law) (defScope s_law) .none kV_law dc_law pm_law an_law cd_law ct_law), sl_law⟩)
    (co_law : PySem.W.codeIn K cd_law "law" = true)
    (k_law : PySem.W.keepIn K (.ref a_law) = true)
    (tI : PySem.W.typeIn K (.ref a_Refused_init) = some (.type "function"))
    (c_MOST_CELLS : PySem.W.nsIn K mainGlobals "MOST_CELLS" = some (some (.int 40 t_MOST_CELLS)))
    (c_MOST_COATS : PySem.W.nsIn K mainGlobals "MOST_COATS" = some (some (.int 6 t_MOST_COATS)))
    (m_comb : PySem.W.nsIn K mainGlobals "comb" = some (some (.builtin "math.comb")))
    (n_bool : PySem.W.nsIn K mainGlobals "bool" = some (none))
    (n_int : PySem.W.nsIn K mainGlobals "int" = some (none))
    (n_isinstance : PySem.W.nsIn K mainGlobals "isinstance" = some (none))
    (n_len : PySem.W.nsIn K mainGlobals "len" = some (none))
    (n_max : PySem.W.nsIn K mainGlobals "max" = some (none))
    (n_min : PySem.W.nsIn K mainGlobals "min" = some (none))
    (n_range : PySem.W.nsIn K mainGlobals "range" = some (none))
    (n_sum : PySem.W.nsIn K mainGlobals "sum" = some (none)) : LawAtS l w K CX0 6 63 "_law_script" mg fa h :=
  law_at X {
    C_Refused := C_Refused,
    e_Refused := ⟨PySem.W.mg_of X G aC_Refused, ⟨⟨_, _, _, _, _, _, _, _, _, _, _, _, _, _, _, xL_Refused, rV_Refused⟩, sa_Refused, ex_Refused, ty_Refused, kC_Refused⟩, ⟨ga_Refused, gg_Refused, ex_Refused, hd_Refused⟩, iC_Refused, nw_Refused⟩,
    C_BadCount := C_BadCount,
    e_BadCount := ⟨PySem.W.mg_of X G aC_BadCount, ⟨⟨_, _, _, _, _, _, _, _, _, _, _, _, _, _, _, xL_BadCount, rV_BadCount⟩, sa_BadCount, ex_BadCount, ty_BadCount, kC_BadCount⟩, ⟨ga_BadCount, gg_BadCount, ex_BadCount, hd_BadCount⟩, iC_BadCount, nw_BadCount⟩,
    C_BadAnswer := C_BadAnswer,
    e_BadAnswer := ⟨PySem.W.mg_of X G aC_BadAnswer, ⟨⟨_, _, _, _, _, _, _, _, _, _, _, _, _, _, _, xL_BadAnswer, rV_BadAnswer⟩, sa_BadAnswer, ex_BadAnswer, ty_BadAnswer, kC_BadAnswer⟩, ⟨ga_BadAnswer, gg_BadAnswer, ex_BadAnswer, hd_BadAnswer⟩, iC_BadAnswer, nw_BadAnswer⟩,
    x_BadCount_BadCount := exm_by ex_BadCount is_BadCount ty_BadCount s_BadCount_BadCount,
    x_BadCount_BadAnswer := exm_by ex_BadAnswer is_BadAnswer ty_BadAnswer s_BadCount_BadAnswer,
    x_BadCount_Refused := exm_by ex_Refused is_Refused ty_Refused s_BadCount_Refused,
    x_BadAnswer_BadCount := exm_by ex_BadCount is_BadCount ty_BadCount s_BadAnswer_BadCount,
    x_BadAnswer_BadAnswer := exm_by ex_BadAnswer is_BadAnswer ty_BadAnswer s_BadAnswer_BadAnswer,
    x_BadAnswer_Refused := exm_by ex_Refused is_Refused ty_Refused s_BadAnswer_Refused,
    x_Refused_BadCount := exm_by ex_BadCount is_BadCount ty_BadCount s_Refused_BadCount,
    x_Refused_BadAnswer := exm_by ex_BadAnswer is_BadAnswer ty_BadAnswer s_Refused_BadAnswer,
    x_Refused_Refused := exm_by ex_Refused is_Refused ty_Refused s_Refused_Refused,
    a_Refused_init := a_Refused_init,
    d_Refused_init := (PySem.W.fnOf "__init__" "Refused.__init__" (defArgs s_Refused_init) (defBody s_Refused_init) (defScope s_Refused_init) .none kV_Refused_init dc_Refused_init pm_Refused_init an_Refused_init cd_Refused_init ct_Refused_init),
    F_Refused_init := fun_mk l_Refused_init co_Refused_init k_Refused_init,
    b_Refused_init := (fun_mk (st := s_Refused_init) l_Refused_init co_Refused_init k_Refused_init).binds (ps := ["self", "what"]) (fun _ _ _ _ _ _ us hl => match us, hl with | [_, _], _ => rfl),
    g_check_count := PySem.W.mg_of X G g_check_count,
    a_check_count := a_check_count,
    d_check_count := (PySem.W.fnOf "check_count" "check_count" (defArgs s_check_count) (defBody s_check_count) (defScope s_check_count) .none kV_check_count dc_check_count pm_check_count an_check_count cd_check_count ct_check_count),
    F_check_count := fun_mk l_check_count co_check_count k_check_count,
    b_check_count := (fun_mk (st := s_check_count) l_check_count co_check_count k_check_count).binds (ps := ["number", "least", "most"]) (fun _ _ _ _ _ _ us hl => match us, hl with | [_, _, _], _ => rfl),
    g_side_lot := PySem.W.mg_of X G g_side_lot,
    a_side_lot := a_side_lot,
    d_side_lot := (PySem.W.fnOf "side_lot" "side_lot" (defArgs s_side_lot) (defBody s_side_lot) (defScope s_side_lot) .none kV_side_lot dc_side_lot pm_side_lot an_side_lot cd_side_lot ct_side_lot),
    F_side_lot := fun_mk l_side_lot co_side_lot k_side_lot,
    b_side_lot := (fun_mk (st := s_side_lot) l_side_lot co_side_lot k_side_lot).binds (ps := ["light", "dark", "surplus"]) (fun _ _ _ _ _ _ us hl => match us, hl with | [_, _, _], _ => rfl),
    g_ways_on := PySem.W.mg_of X G g_ways_on,
    a_ways_on := a_ways_on,
    d_ways_on := (PySem.W.fnOf "ways_on" "ways_on" (defArgs s_ways_on) (defBody s_ways_on) (defScope s_ways_on) .none kV_ways_on dc_ways_on pm_ways_on an_ways_on cd_ways_on ct_ways_on),
    F_ways_on := fun_mk l_ways_on co_ways_on k_ways_on,
    b_ways_on := (fun_mk (st := s_ways_on) l_ways_on co_ways_on k_ways_on).binds (ps := ["ways", "over", "more"]) (fun _ _ _ _ _ _ us hl => match us, hl with | [_, _, _], _ => rfl),
    g_Lpool := PySem.W.mg_of X G g_Lpool,
    a_Lpool := a_Lpool,
    d_Lpool := (PySem.W.fnOf "_law_pool" "_law_pool" (defArgs s_Lpool) (defBody s_Lpool) (defScope s_Lpool) .none kV_Lpool dc_Lpool pm_Lpool an_Lpool cd_Lpool ct_Lpool),
    F_Lpool := fun_mk l_Lpool co_Lpool k_Lpool,
    b_Lpool := (fun_mk (st := s_Lpool) l_Lpool co_Lpool k_Lpool).binds (ps := ["_law_script", "_law_k"]) (fun _ _ _ _ _ _ us hl => match us, hl with | [_, _], _ => rfl),
    g_Ltake := PySem.W.mg_of X G g_Ltake,
    a_Ltake := a_Ltake,
    d_Ltake := (PySem.W.fnOf "_law_take" "_law_take" (defArgs s_Ltake) (defBody s_Ltake) (defScope s_Ltake) .none kV_Ltake dc_Ltake pm_Ltake an_Ltake cd_Ltake ct_Ltake),
    F_Ltake := fun_mk l_Ltake co_Ltake k_Ltake,
    b_Ltake := (fun_mk (st := s_Ltake) l_Ltake co_Ltake k_Ltake).binds (ps := ["_law_source", "_law_top"]) (fun _ _ _ _ _ _ us hl => match us, hl with | [_, _], _ => rfl),
    g_Lone := PySem.W.mg_of X G g_Lone,
    a_Lone := a_Lone,
    d_Lone := (PySem.W.fnOf "_law_one" "_law_one" (defArgs s_Lone) (defBody s_Lone) (defScope s_Lone) .none kV_Lone dc_Lone pm_Lone an_Lone cd_Lone ct_Lone),
    F_Lone := fun_mk l_Lone co_Lone k_Lone,
    b_Lone := (fun_mk (st := s_Lone) l_Lone co_Lone k_Lone).binds (ps := ["_law_source", "_law_things"]) (fun _ _ _ _ _ _ us hl => match us, hl with | [_, _], _ => rfl),
    g_Lkeys := PySem.W.mg_of X G g_Lkeys,
    a_Lkeys := a_Lkeys,
    d_Lkeys := (PySem.W.fnOf "_law_keys" "_law_keys" (defArgs s_Lkeys) (defBody s_Lkeys) (defScope s_Lkeys) .none kV_Lkeys dc_Lkeys pm_Lkeys an_Lkeys cd_Lkeys ct_Lkeys),
    F_Lkeys := fun_mk l_Lkeys co_Lkeys k_Lkeys,
    b_Lkeys := (fun_mk (st := s_Lkeys) l_Lkeys co_Lkeys k_Lkeys).binds (ps := ["_law_ups", "_law_downs", "_law_shades", "_law_due"]) (fun _ _ _ _ _ _ us hl => match us, hl with | [_, _, _, _], _ => rfl),
    g_Lwhole := PySem.W.mg_of X G g_Lwhole,
    a_Lwhole := a_Lwhole,
    d_Lwhole := (PySem.W.fnOf "_law_whole" "_law_whole" (defArgs s_Lwhole) (defBody s_Lwhole) (defScope s_Lwhole) .none kV_Lwhole dc_Lwhole pm_Lwhole an_Lwhole cd_Lwhole ct_Lwhole),
    F_Lwhole := fun_mk l_Lwhole co_Lwhole k_Lwhole,
    b_Lwhole := (fun_mk (st := s_Lwhole) l_Lwhole co_Lwhole k_Lwhole).binds (ps := ["_law_ups", "_law_downs", "_law_shades", "_law_many"]) (fun _ _ _ _ _ _ us hl => match us, hl with | [_, _, _, _], _ => rfl),
    g_law := PySem.W.mg_of X G g_law,
    a_law := a_law,
    d_law := (PySem.W.fnOf "law" "law" (defArgs s_law) (defBody s_law) (defScope s_law) .none kV_law dc_law pm_law an_law cd_law ct_law),
    F_law := fun_mk l_law co_law k_law,
    b_law := (fun_mk (st := s_law) l_law co_law k_law).binds (ps := ["_law_script"]) (fun _ _ _ _ _ _ us hl => match us, hl with | [_], _ => rfl),
    tI := tI,
    t_MOST_CELLS := t_MOST_CELLS,
    c_MOST_CELLS := PySem.W.mg_of X G c_MOST_CELLS,
    t_MOST_COATS := t_MOST_COATS,
    c_MOST_COATS := PySem.W.mg_of X G c_MOST_COATS,
    m_comb := PySem.W.mg_of X G m_comb,
    n_bool := PySem.W.mg_none_of X G n_bool,
    n_int := PySem.W.mg_none_of X G n_int,
    n_isinstance := PySem.W.mg_none_of X G n_isinstance,
    n_len := PySem.W.mg_none_of X G n_len,
    n_max := PySem.W.mg_none_of X G n_max,
    n_min := PySem.W.mg_none_of X G n_min,
    n_range := PySem.W.mg_none_of X G n_range,
    n_sum := PySem.W.mg_none_of X G n_sum } hfa fun s u => .of_eq rfl
end R
end

-- Final
section
open PySem PySem.W PyProof.Rows
set_option Elab.async false
set_option maxRecDepth 100000 in
set_option maxHeartbeats 0 in
theorem PySem.Challenge.cw_pairfloors_k53_lots_by_surplus_add_up_holds : PySem.Challenge.rw_pairfloors_k53_lots_by_surplus_add_up.Holds := by
  w_on; o_law; k_head; (case hw => w_witness2)
  k_fill
  refine LamX.walk_ofTs (l := PySem.Challenge.rw_pairfloors_k53_lots_by_surplus_add_up) (n := 63) (k := 6) (CX := fun _ => L2.CX0) (x := "_law_script") rfl (by decide) rfl ⟨rfl, by decide, by decide⟩ (fun w h Y => PySem.W.kIn_of Y) ?F (fun _ _ _ _ _ z => z)
  case F =>
    intro w mg fa h Y KX G hmg
    refine' R.all_mk KX G hmg ?aC_Refused ?xL_Refused ?rV_Refused ?sa_Refused ?ex_Refused ?ty_Refused ?kC_Refused ?ga_Refused ?gg_Refused ?hd_Refused ?is_Refused ?iC_Refused ?nw_Refused ?aC_BadCount ?xL_BadCount ?rV_BadCount ?sa_BadCount ?ex_BadCount ?ty_BadCount ?kC_BadCount ?ga_BadCount ?gg_BadCount ?hd_BadCount ?is_BadCount ?iC_BadCount ?nw_BadCount ?aC_BadAnswer ?xL_BadAnswer ?rV_BadAnswer ?sa_BadAnswer ?ex_BadAnswer ?ty_BadAnswer ?kC_BadAnswer ?ga_BadAnswer ?gg_BadAnswer ?hd_BadAnswer ?is_BadAnswer ?iC_BadAnswer ?nw_BadAnswer ?s_BadCount_BadCount ?s_BadCount_BadAnswer ?s_BadCount_Refused ?s_BadAnswer_BadCount ?s_BadAnswer_BadAnswer ?s_BadAnswer_Refused ?s_Refused_BadCount ?s_Refused_BadAnswer ?s_Refused_Refused ?l_Refused_init ?co_Refused_init ?k_Refused_init ?g_check_count ?l_check_count ?co_check_count ?k_check_count ?g_side_lot ?l_side_lot ?co_side_lot ?k_side_lot ?g_ways_on ?l_ways_on ?co_ways_on ?k_ways_on ?g_Lpool ?l_Lpool ?co_Lpool ?k_Lpool ?g_Ltake ?l_Ltake ?co_Ltake ?k_Ltake ?g_Lone ?l_Lone ?co_Lone ?k_Lone ?g_Lkeys ?l_Lkeys ?co_Lkeys ?k_Lkeys ?g_Lwhole ?l_Lwhole ?co_Lwhole ?k_Lwhole ?g_law ?l_law ?co_law ?k_law ?tI ?c_MOST_CELLS ?c_MOST_COATS ?m_comb ?n_bool ?n_int ?n_isinstance ?n_len ?n_max ?n_min ?n_range ?n_sum
    case aC_Refused => k_is
    case xL_Refused => k_is
    case rV_Refused => first | rfl | decide +kernel | k_is
    case sa_Refused => k_is
    case ex_Refused => k_is
    case ty_Refused => k_is
    case kC_Refused => k_is
    case ga_Refused => k_is
    case gg_Refused => k_is
    case hd_Refused => k_is
    case is_Refused => k_is
    case iC_Refused => k_is
    case nw_Refused => k_is
    case aC_BadCount => k_is
    case xL_BadCount => k_is
    case rV_BadCount => first | rfl | decide +kernel | k_is
    case sa_BadCount => k_is
    case ex_BadCount => k_is
    case ty_BadCount => k_is
    case kC_BadCount => k_is
    case ga_BadCount => k_is
    case gg_BadCount => k_is
    case hd_BadCount => k_is
    case is_BadCount => k_is
    case iC_BadCount => k_is
    case nw_BadCount => k_is
    case aC_BadAnswer => k_is
    case xL_BadAnswer => k_is
    case rV_BadAnswer => first | rfl | decide +kernel | k_is
    case sa_BadAnswer => k_is
    case ex_BadAnswer => k_is
    case ty_BadAnswer => k_is
    case kC_BadAnswer => k_is
    case ga_BadAnswer => k_is
    case gg_BadAnswer => k_is
    case hd_BadAnswer => k_is
    case is_BadAnswer => k_is
    case iC_BadAnswer => k_is
    case nw_BadAnswer => k_is
    case s_BadCount_BadCount => first | rfl | k_is | decide +kernel
    case s_BadCount_BadAnswer => first | rfl | k_is | decide +kernel
    case s_BadCount_Refused => first | rfl | k_is | decide +kernel
    case s_BadAnswer_BadCount => first | rfl | k_is | decide +kernel
    case s_BadAnswer_BadAnswer => first | rfl | k_is | decide +kernel
    case s_BadAnswer_Refused => first | rfl | k_is | decide +kernel
    case s_Refused_BadCount => first | rfl | k_is | decide +kernel
    case s_Refused_BadAnswer => first | rfl | k_is | decide +kernel
    case s_Refused_Refused => first | rfl | k_is | decide +kernel
    case l_Refused_init => k_is
    case co_Refused_init => k_is
    case k_Refused_init => k_is
    case g_check_count => k_is
    case l_check_count => k_is
    case co_check_count => k_is
    case k_check_count => k_is
    case g_side_lot => k_is
    case l_side_lot => k_is
    case co_side_lot => k_is
    case k_side_lot => k_is
    case g_ways_on => k_is
    case l_ways_on => k_is
    case co_ways_on => k_is
    case k_ways_on => k_is
    case g_Lpool => k_is
    case l_Lpool => k_is
    case co_Lpool => k_is
    case k_Lpool => k_is
    case g_Ltake => k_is
    case l_Ltake => k_is
    case co_Ltake => k_is
    case k_Ltake => k_is
    case g_Lone => k_is
    case l_Lone => k_is
    case co_Lone => k_is
    case k_Lone => k_is
    case g_Lkeys => k_is
    case l_Lkeys => k_is
    case co_Lkeys => k_is
    case k_Lkeys => k_is
    case g_Lwhole => k_is
    case l_Lwhole => k_is
    case co_Lwhole => k_is
    case k_Lwhole => k_is
    case g_law => k_is
    case l_law => k_is
    case co_law => k_is
    case k_law => k_is
    case tI => k_is
    case c_MOST_CELLS => k_is
    case c_MOST_COATS => k_is
    case m_comb => k_is
    case n_bool => k_is
    case n_int => k_is
    case n_isinstance => k_is
    case n_len => k_is
    case n_max => k_is
    case n_min => k_is
    case n_range => k_is
    case n_sum => k_is
end
