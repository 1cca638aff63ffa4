import PyProof.Rows.All
import Wide.All
import OpenK.AllK
import Wide.FinOn
import HandS.ForMost
import HandS.Exc
import HandS.ExcOwn
import HandS.ExcInit
import HandS.ExcField
import HandS.TryMany
import HandS.WordsExc
import HandS.Nested
import HandS.Walk
import HandS.IsInst
import HandS.TupLe
import HandS.TupAny
import HandS.Wide
import HandS.Deep
import HandS.SortRule
import HandS.DictComp
import HandS.Conv
import HandS.Lambda
import KE.GoesMore
import KE.GoesEnum
import KE.KNestM
import PySem.Challenge.RW_pairfloors_k48_surpluses_listed
import HandS.WideMore
import HandS.Gcd
import KE.KMathGC
import KE.KTupSum
import HandS.TupLen
import HandS.Defaults
import HandS.EndTab
import KE.KLam
-- Lam
section
set_option Elab.async false
set_option linter.all false
set_option maxRecDepth 100000
set_option maxHeartbeats 4000000
/-! Lam: a lambda with parameters is made in a def, handed to a second def and called there. -/
namespace LamP
open PySem PySem.Spec PyProof.Rows L2 LamX NdefX
/-- at f stands what `lambda ..: b` makes -/
def LamIs (h : Heap) (f : Addr) (F : NF) (b : Expr) : Prop :=
  ∃ od sl pm ctv, h.get? f = some { cls := .type "function", dict := od, data := .func (PySem.W.kla_fn "<lambda>" F.qual F.params b F.scope F.cl pm (.ref F.c) ctv), slots := sl }
def LamO (f : Addr) (F : NF) (b : Expr) : HO := .ext fun h => LamIs h f F b
theorem lamO_ne {f : Addr} {F : NF} {b : Expr} (ps : Array Value) : LamO f F b ≠ .tbl ps := by
  unfold LamO
  exact fun z => HO.noConfusion z
theorem lam_is {P : Program} {w : World} {H : Hp} {h : Heap} {f : Addr} {F : NF} {b : Expr} (hok : HOk P w H h) (e : H f = some (LamO f F b)) : LamIs h f F b :=
  (show LamIs h f F b ∧ _ ∧ _ from hok f _ e).1
section
variable {T : List NTab} {H : Hp} {P c' : Addr} {ps : Array Value} {pos : Pos} {q : Str}
/-- the table at P has a new row, for the code object at c' -/
def grow (H : Hp) (P : Addr) (ps : Array Value) (pos : Pos) (c' : Addr) (q : Str) : Hp := upd (upd H P (.tbl (ps ++ #[rawInt pos.line, rawInt pos.col, .ref c']))) c' (CodeO c' q)
theorem grow_other {b : Addr} (h1 : b ≠ P) (h2 : b ≠ c') : grow H P ps pos c' q b = H b := (upd_ne h2).trans (upd_ne h1)
theorem grow_kept (hP : H P = some (.tbl ps)) (nC : H c' = none) : ExtN H (grow H P ps pos c' q) := by
  intro b o e plain
  refine (grow_other (fun z => ?_) (ne_of_none e nC)).trans e
  subst z
  exact plain ps (Option.some.inj (e.symm.trans hP))
theorem grow_none {b : Addr} (e : grow H P ps pos c' q b = none) : H b = none := upd_none (upd_none e)
theorem grow_tabs (hT : TabsN T H) (hP : H P = some (.tbl ps)) (well : TriplesOk ps.toList) (only : ∀ p ∈ T, p.1 = P → p.2 = fun _ _ => q) (nC : H c' = none) : TabsN T (grow H P ps pos c' q) := by
  intro p hp
  obtain ⟨qs, at_, ok, rows⟩ := hT p hp
  have keep := grow_kept (pos := pos) (q := q) hP nC
  by_cases here : p.1 = P
  · have same : qs = ps := by
      rw [here, hP] at at_
      cases at_
      rfl
    subst same
    refine ⟨qs ++ #[rawInt pos.line, rawInt pos.col, .ref c'], ?_, ?_, fun pos2 cv found => ?_⟩
    · rw [here]
      exact (upd_ne (ne_of_none hP nC)).trans upd_same
    · rw [Array.toList_append]
      exact PySem.TriplesOk_snoc _ _ _ _ ok
    · rw [Array.toList_append] at found
      rcases among_app2 _ ok found with old | ⟨new, _⟩
      · obtain ⟨c0, e1, e2⟩ := rows pos2 cv old
        exact ⟨c0, e1, keep _ _ e2 codeO_ne⟩
      · exact ⟨c', new, by rw [only p hp here]; exact upd_same⟩
  · refine ⟨qs, ?_, ok, fun pos2 cv found => ?_⟩
    · exact (grow_other here (ne_of_none at_ nC)).trans at_
    · exact (rows pos2 cv found).imp fun _ z => ⟨z.1, keep _ _ z.2 codeO_ne⟩
end
/-- a lambda made: F its data but for the code object's place -/
structure Made (T : List NTab) (F : Addr → NF) (b : Expr) (H H1 : Hp) (f c' : Addr) : Prop where
  kept : ExtN H H1
  back : ∀ a, H1 a = none → H a = none
  tabs : TabsN T H1
  new : H f = none
  lam : H1 f = some (LamO f (F c') b)
  code : H1 c' = some (CodeO c' (F c').qual)
theorem made_of {T : List NTab} {F : Addr → NF} {b : Expr} {H H1 : Hp} {f c' : Addr} (kept : ExtN H H1) (back : ∀ a, H1 a = none → H a = none) (tabs : TabsN T H1) (n1 : H1 f = none) (code : H1 c' = some (CodeO c' (F c').qual)) : Made T F b H (upd H1 f (LamO f (F c') b)) f c' :=
  have step : ∀ a o, H1 a = some o → upd H1 f (LamO f (F c') b) a = some o := fun a o e => (upd_ne (ne_of_none e n1)).trans e
  ⟨fun a o e p => step a o (kept a o e p), fun a e => back a (upd_none e), tabs.ext step, back f n1, upd_same, step c' _ code⟩
section
variable {X : Cx} {pins : List (Addr × Obj)} {σ : L2.St} {H : Hp} {s : Shared}
/-- its function object laid on top of the heap -/
theorem inv_lam {F : NF} {b : Expr} {tk : Nat} {pm ctv : Value} (I : Inv X pins σ H s) :
    Inv X pins σ (upd H s.heap.objs.size (LamO s.heap.objs.size F b)) { s with heap := s.heap.push (PySem.W.kla_obj "<lambda>" F.qual F.params b F.scope F.cl pm F.c ctv), toks := tk } := by
  have top := Heap.get?_push_size s.heap (o := PySem.W.kla_obj "<lambda>" F.qual F.params b F.scope F.cl pm F.c ctv) rfl
  refine I.laid (fun _ _ e => Heap.get?_push_of_some _ e) (Nat.le_refl _) ⟨⟨_, _, _, _, top⟩, ⟨_, top⟩, fun _ _ is st => ?_⟩
  exact is.imp fun _ y => y.imp fun _ y => y.imp fun _ y => y.imp fun _ e => st _ e
def mkLam (X : Cx) (params : Arguments) (scope : Scope) (c' : Addr) : NF := ⟨"<lambda>", X.env.qual ++ "<lambda>", params, [], scope, cloFrom X.env.cells scope.names [], c'⟩
/-- the reading of a lambda: a new function object -/
def tLamE (T : List NTab) (mk : Addr → NF) (b : Expr) : TE := fun σ H Q => TabsN T H ∧ ∀ (f c' : Addr) (H1 : Hp), Made T mk b H H1 f c' → Q (.ref f) H1
theorem pe_lam {T : List NTab} {c P : Addr} {params : Arguments} {body : Expr} {scope : Scope} {pos : Pos} (TB : TabB X.base X.mg c P) (hcode : X.env.code = .ref c) (mem : (P, fun _ _ => X.env.qual ++ "<lambda>") ∈ T)
    (only : ∀ p ∈ T, p.1 = P → p.2 = fun _ _ => X.env.qual ++ "<lambda>") (hdef : defaultsOf params X.env = ([], []))
    (hfree : ∀ y ∈ scope.names, y.2 = .free → X.env.scope.names.lookup y.1 = some .cell ∨ X.env.scope.names.lookup y.1 = some .free) : PE X (.Lambda params body scope pos) (tLamE T (mkLam X params scope) body) := by
  constructor
  rintro pins s σ H Q I ⟨hT, h⟩
  have clo := closure_ok (scope := scope) (env := X.env) fun y hy e => I.ok.has _ (hfree y hy e)
  obtain ⟨ps, hP, well, rows⟩ := (hT _ mem : TabN H P fun _ _ => X.env.qual ++ "<lambda>")
  have inP : s.heap.get? P = some (PySem.W.tabObj ps) := I.hok P _ hP
  have ends : ∀ {g : Heap} {tk : Nat} {H1 : Hp} {c1 : Addr} (ctv : Value), Inv X pins σ H1 { s with heap := g, toks := tk } → ExtN H H1 → (∀ a, H1 a = none → H a = none) → TabsN T H1 → H1 c1 = some (CodeO c1 (X.env.qual ++ "<lambda>")) →
      EP X pins σ Q (.ref g.objs.size) { s with heap := g.push (PySem.W.kla_obj "<lambda>" (X.env.qual ++ "<lambda>") params body scope (cloFrom X.env.cells scope.names []) ((X.mg "__name__").getD .none) c1 ctv), toks := tk } := fun ctv J kept back tabs code =>
    ⟨.ref _, _, inv_lam (F := mkLam X params scope _) J, rfl, h _ _ _ (made_of kept back tabs (J.hok.fresh (Nat.le_refl _)) code)⟩
  refine PySem.W.kla_eval hdef ?_
  rcases known : codeAmong pos ps.toList with _ | cv
  · refine PySem.W.kla_makeFunction clo I.ok.glob (I.mod.glob.keeps I.bk) hcode (TB.code.keeps I.bk) inP well known TB.gP (TB.bm.keeps I.bk) fun c1 ctv g tk but new _ rec row => ?_
    obtain ⟨_, oc, vs, t, same, hoc, hd, hv⟩ := rec
    cases same
    have nC := I.hok.fresh new
    have J : Inv X pins σ (grow H P ps pos c1 (X.env.qual ++ "<lambda>")) { s with heap := g, toks := tk } := inv_table I hP (fun b o hb e => but b o hb e) row new ⟨oc, vs, t, hoc, hd, hv⟩
    exact ends ctv J (grow_kept hP nC) (fun _ => grow_none) (grow_tabs hT hP well only nC) upd_same
  · obtain ⟨c1, rfl, code⟩ := rows pos cv known
    exact PySem.W.kla_makeFunctionHit clo I.ok.glob (I.mod.glob.keeps I.bk) hcode (TB.code.keeps I.bk) inP well known (TB.bm.keeps I.bk) fun ctv g tk kept _ =>
      ends ctv (I.kept kept) (ExtN.refl H) (fun _ e => e) hT code
end
/-! ### the lambda called -/
/-- the lambda F at f keeps sp, called at a room of k -/
structure LOk (P : Program) (w : World) (K : PySem.W.Frag) (mg : Str → Option Value) (base : Heap) (CX : CXT) (k : Nat) (f : Addr) (F : NF) (b : Expr) (ps fr : List Str) (sp : List (Option V) → Sp) : Prop where
  len : ∀ ws vs H Q E, sp ws vs H Q E → vs.length = ps.length
  run : ∀ A outer s H us vs ws Q E, Room k A → Env0 P w K mg base A outer s H → H f = some (LamO f F b) ∧ H F.c = some (CodeO F.c F.qual) → CellsAt F.cl fr ws s.heap H → Vals vs us → sp ws vs H Q E → codeAny (model P w) A (.call (.ref f) ⟨us, []⟩) (CR CX outer P w H s Q E) s
theorem lok_of {CX : CXT} {P : Program} {w : World} {K : PySem.W.Frag} {mg : Str → Option Value} {base : Heap} {N ps fr : List Str} {F : NF} {b : Expr} {f : Addr} {k : Nat} {sp : List (Option V) → Sp}
    (S : NScope N ps fr F.scope) (binds : ∀ (pm ctv : Value) (us : List Value), us.length = ps.length → bindArgs (PySem.W.kla_fn "<lambda>" F.qual F.params b F.scope F.cl pm (.ref F.c) ctv) ⟨us, []⟩ = pure (ps.zip us)) (len : ∀ ws vs H Q E, sp ws vs H Q E → vs.length = ps.length)
    (body : ∀ A outer s H vs ws Q E, Room k (A.deeper (envF F f s.heap.objs.size)) → H f = some (LamO f F b) → H F.c = some (CodeO F.c F.qual) → ws.length = fr.length → sp ws vs H Q E → ∃ t, PE (ncx CX P w K mg base N F f A outer s H E) b t ∧ t (startF N vs ws) H Q) :
    LOk P w K mg base CX (k + 1) f F b ps fr sp := by
  refine ⟨len, ?_⟩
  rintro A outer s H us vs ws Q E room e0 ⟨lam, code⟩ cells rel pre
  have n := len _ _ _ _ _ pre
  obtain ⟨od, sl, pm, ctv, at_⟩ := lam_is e0.hok lam
  have noLimit := e0.mod.nolimit.keeps fun b o e => (e0.bs b o e).1
  apply PySem.W.kla_callFunE room.depth at_ rfl S.co S.gen rfl (codeO_at e0.hok code)
  rw [binds pm ctv us (rel.length ▸ n)]
  refine wpAny_pure (wpAny_newFunctionEnv S.nocell (fun y hy => S.par y.1 (List.of_mem_zip hy).1) (fun g frame but => ⟨noLimit.fresh _ but, ?_⟩) S.kind)
  obtain ⟨t, reads, goal⟩ := body A outer s H vs ws Q E (room.deeper _) lam code cells.len pre
  have start := inv_startN (CX := CX) (E := E) (f := f) (tk := s.toks + (ps.zip us).length) S room.hd e0 n rel cells frame fun b o e => but.extBut b o (Nat.ne_of_lt (Heap.lt_size e)) (Heap.get?_push_of_some _ e)
  exact PySem.W.kla_codeExpr (wpAny_mono (reads.run [] _ _ H Q start goal) (fun v s' out => out.elim fun w' z => z.elim fun H' ⟨J, rv, q⟩ => ⟨w', H', J.os, J.bare, J.base, J.hok, rv, q⟩) fun _ _ z => z)
/-- the captured cells, as they were when the running def began: it has no way to them but this lambda -/
theorem cells_later {X : Cx} {pins : List (Addr × Obj)} {σ : L2.St} {H : Hp} {s : Shared} {cl : List (Str × Addr)} {fr : List Str} {ws : List (Option V)} (C : CellsAt cl fr ws X.s_0.heap X.H_0) (none_ : X.ex = []) (I : Inv X pins σ H s) : CellsAt cl fr ws s.heap H := by
  have out : ∀ c : Addr, c ∉ X.ex := by simp [none_]
  have stays : ∀ {y c}, cl.lookup y = some c → ∀ {v}, X.s_0.heap.IsCell c v → s.heap.IsCell c v := by
    rintro y c e v ⟨o, at_, d⟩
    exact (I.base.any at_ (C.all y c e).1 (out c)).elim fun sl z => ⟨_, z, d⟩
  constructor
  · exact C.len
  · intro y c e
    have ⟨un, v, cell⟩ := C.all y c e
    exact ⟨cell.elim fun o z => I.base.free c o z.1 un (out c), v, stays e cell⟩
  · exact C.inj
  · intro i y e
    have ⟨c, at_, holds⟩ := C.has i y e
    exact ⟨c, at_, fun v ev => (holds v ev).imp fun u z => ⟨z.1, stays at_ z.2⟩⟩
/-- a call's end, read by its caller -/
theorem call_ends {X : Cx} {CX : CXT} {pins : List (Addr × Obj)} {σ : L2.St} {H : Hp} {s : Shared} {Q : VK} {E : XK} {v : Value} {us : List Value} (hx : Passes CX X E) (I : Inv X pins σ H s) (h : codeAny (model X.prog X.w) X.A (.call v ⟨us, []⟩) (CR CX X.stack X.prog X.w H s Q E) s) :
    wpAny (model X.prog X.w) X.A (call v us) (EP X pins σ Q) X.xe s := by
  refine wpAny_call (codeAny_mono h ?_)
  rintro (e | fl) s' z
  · exact hx pins σ H s e s' I z
  · match fl, z with
    | .ret u, z => exact I.after z
/-- g(..), g the name i of the running def that was handed the lambda F; ws: what its cells hold -/
def tCallF (f : Addr) (F : NF) (b : Expr) (i : Nat) (ws : List (Option V)) (sp : List (Option V) → Sp) (E : XK) (t : TA) : TE := fun σ H Q => σ[i]? = some (some (.ref f)) ∧ H f = some (LamO f F b) ∧
  t σ H fun vs H1 => (H1 f = some (LamO f F b) ∧ H1 F.c = some (CodeO F.c F.qual)) ∧ sp ws vs H1 Q E
theorem pe_callF {X : Cx} {CX : CXT} {f : Addr} {F : NF} {b : Expr} {ps fr : List Str} {ws : List (Option V)} {i j k : Nat} {x : Str} {sp : List (Option V) → Sp} {E : XK} {t : TA} {e : Expr} {es : List Expr} {p pos : Pos}
    (Fn : LOk X.prog X.w X.K X.mg X.base CX k f F b ps fr sp) (C : CellsAt F.cl fr ws X.s_0.heap X.H_0) (hex : X.ex = []) (hr : Room j X.A) (hk : k ≤ j) (hx : Passes CX X E) (hN : X.N[i]? = some x) (hv : Vis X.env.scope x) (ha : PA X (e :: es) t)
    (hd : (x == ("__debug__" : Str)) = false := by decide) (hcd : (x == ("__classdict__" : Str)) = false := by decide)
    (he : starEach (e :: es) X.env = (false, eval e X.env) :: starEach es X.env := by rfl) (hpl : (backTo pos (starEach es X.env)).any (·.1) = false := by rfl) :
    PE X (.Call (.Name x p) (e :: es) [] pos) (tCallF f F b i ws sp E t) := by
  constructor
  rintro pins s σ H Q I ⟨var, lam, args⟩
  have fn : ∀ {σ H s}, Inv X pins σ H s → H f = some (LamO f F b) → PySem.W.FnAt f s.heap := fun I e => (lam_is I.hok e).elim fun od z => z.elim fun sl z => z.elim fun _ z => z.elim fun _ z => ⟨_, od, _, sl, z⟩
  have name := (pe_var (pos := p) hN hv hd hcd).run pins s σ H (fun v H1 => v = .ref f ∧ H1 = H) I ⟨.ref f, var, rfl, rfl⟩
  refine wpAny_Call_Name_kw (thn name ?_)
  rintro u s1 ⟨_, _, I1, ru, rfl, rfl⟩
  cases ru
  refine PySem.W.callWith_F (first := []) (fn I1 lam) (thn (ha.run pos pins s1 σ _ _ I1 args) ?_) he hpl
  rintro us s2 ⟨vs, H2, I2, r, both, pre⟩
  exact ⟨fn I2 both.1, call_ends hx I2 (Fn.run X.A X.stack s2 H2 us vs ws Q E (hr.mono hk) I2.env0 both (cells_later C hex I2) r pre)⟩
/-! ### a def that is handed a lambda -/
/-- a def of the top, called while the cells cl stand -/
structure FnOkC (P : Program) (w : World) (K : PySem.W.Frag) (mg : Str → Option Value) (base : Heap) (CX : CXT) (k : Nat) (f : Addr) (fd : FuncData) (ps : List Str) (cl : List (Str × Addr)) (fr : List Str) (ws : List (Option V)) (sp : Sp) : Prop where
  len : ∀ vs H Q E, sp vs H Q E → vs.length = ps.length
  run : ∀ A outer s H args us vs Q E, Room k A → Env0 P w K mg base A outer s H → CellsAt cl fr ws s.heap H → BindsTo s fd args (ps.zip us) → Vals vs us → sp vs H Q E → codeAny (model P w) A (.call (.ref f) args) (CR CX outer P w H s Q E) s
theorem okC {P : Program} {w : World} {K : PySem.W.Frag} {mg : Str → Option Value} {base : Heap} {x qual : Str} {st : Stmt} {f : Addr} {fd : FuncData} {N ps : List Str} {k : Nat} {cl : List (Str × Addr)} {fr : List Str} {ws : List (Option V)} {sp : Sp}
    (F : Fun K x qual st f fd) (S : FnScope N ps (defScope st)) (len : ∀ vs H Q E, sp vs H Q E → vs.length = ps.length)
    (body : ∀ (cdv : Value) (A : Around) (outer : List Env) (s : Shared) (H : Hp) (vs : List V) (Q : VK) (E : XK), Room k (A.deeper (envOfC qual (defScope st) s.heap.objs.size f cdv)) → CellsAt cl fr ws s.heap H → sp vs H Q E →
      ∃ t, PSs (cxOf CX0 P w K mg base N qual (defScope st) f cdv A outer s H E).nox (defBody st) t ∧ t { nx := fun _ H' => Q .non H', rt := Q } (L2.start N vs) H) : FnOkC P w K mg base CX0 (k + 1) f fd ps cl fr ws sp := by
  have ⟨_, _, _, _, _, _, cdv, _, _, is, look, code⟩ := F.ex
  subst is
  refine ⟨len, fun A outer s H args us vs Q E room e0 cells bound rel pre => run_ofS look code S room e0 bound rel (len _ _ _ _ pre) fun deeper => ?_⟩
  exact (body cdv A outer s H vs Q E deeper cells pre).imp fun t z => ⟨z.1.nox, z.2⟩
def tCallC (js : List Nat) (sp : List (Option V) → Sp) (E : XK) (t : TA) : TE := fun σ H Q => t σ H fun vs H1 => sp (js.map (slotAt σ)) vs H1 Q E
theorem pe_callC {X : Cx} {CX : CXT} {g : Addr} {fd : FuncData} {cl : List (Str × Addr)} {ps fr : List Str} {js : List Nat} {k : Nat} {x : Str} {sp : List (Option V) → Sp} {E : XK} {t : TA} {e : Expr} {es : List Expr} {p pos : Pos}
    (G : ∀ ws, FnOkC X.prog X.w X.K X.mg X.base CX k g fd ps cl fr ws (sp ws)) (cp : X.Ok → Caps X cl fr js) (hr : Room k X.A) (hg : Gl X x) (hm : X.mg x = some (.ref g)) (hk : PySem.W.keepIn X.K (.ref g) = true) (hb : L2.Binds X.K fd ps []) (hx : Passes CX X E) (ha : PA X (e :: es) t)
    (hdb : (x == ("__debug__" : Str)) = false := by decide)
    (he : starEach (e :: es) X.env = (false, eval e X.env) :: starEach es X.env := by rfl) (hpl : (backTo pos (starEach es X.env)).any (·.1) = false := by rfl) :
    PE X (.Call (.Name x p) (e :: es) [] pos) (tCallC js sp E t) := by
  constructor
  intro pins s σ H Q I pre
  refine wpAny_Call_Name_kw (ld_glob I hg hm (PySem.W.callWith_K I.ok.mod.kin hk (thn (ha.run pos pins s σ H _ I pre) ?_) he hpl) hdb)
  rintro us s1 ⟨vs, H1, I1, r, goal⟩
  refine ⟨I1.kIn, call_ends hx I1 ((G _).run X.A X.stack s1 H1 _ us vs Q E hr I1.env0 (cells_of I1 (cp I1.ok)) ?_ r goal)⟩
  have n : us.length = ps.length := r.length ▸ (G _).len _ _ _ _ goal
  simpa using hb s1 us I1.kIn (by simpa using n)
end LamP
end

-- EnumT
section
set_option Elab.async false
set_option linter.all false
set_option maxRecDepth 100000
set_option maxHeartbeats 4000000
/-! EnumT: for i, x in enumerate(t), t a tuple (enumerate with one argument, over whatever begins). -/
namespace EnT
open PySem PySem.Spec PyProof.Rows
open Sem (wp)
/-- the two objects of enumerate(v) in a heap of n places: v's iterator o at n, the enumerate object at n + 1 -/
def two (h : Heap) (o : Obj) : Heap := (h.push o).push { cls := .type "enumerate", data := .fields #[.none, .bool false, .ref h.objs.size, rawInt 0, .none, .none] }
theorem new1 {v : Value} {o : Obj} {H : Heap → Prop} (B : Begins v o H) :
    Meets (Builtin.«enumerate.__new__» ⟨[.type "enumerate", v], []⟩) (fun _ R s => H s.heap ∧ R (.ok (.ret (.ref (s.heap.push o).objs.size))) { s with heap := two s.heap o }) := by
  refine .of_wp fun prog w A R s h => ?_
  rcases s with ⟨hp, g, d, tk, os⟩
  rcases h with ⟨ready, h⟩
  have start : ∀ {A' : Around} {E : Value → Shared → Prop} {Q : Value → Shared → Prop}, Q (.ref hp.objs.size) ⟨hp.push o, g, d, tk, os⟩ → wpAny (model prog w) A' (pyIter v) Q E ⟨hp, g, d, tk, os⟩ := fun q => B.iter _ _ _ _ _ _ ready q
  have sub := sub_enumerate
  wp_walk using start
  refine wpAny_stack_any fun _ => wpAny_pure ?_
  split
  · rename_i c _ _ _ _ _
    cases (c == Value.type "enumerate") <;> (wp_walk using start; exact ⟨_, rfl, h⟩)
  · wp_walk using start
    exact ⟨_, rfl, h⟩
/-- what is known of them -/
structure Two (h h' : Heap) (o : Obj) : Prop where
  en : IsEnum h' (h.objs.size + 1) h.objs.size 0 .none
  it : h'.get? h.objs.size = some o
  old : ∀ b ob, h.get? b = some ob → h'.get? b = some ob
theorem two_is {h : Heap} {o : Obj} (free : o.isFreed = false) : Two h (two h o) o := by
  have n : (h.push o).objs.size = h.objs.size + 1 := Heap.size_push ..
  have top := Heap.get?_push_size (h.push o) (o := { cls := .type "enumerate", data := .fields #[.none, .bool false, .ref h.objs.size, rawInt 0, .none, .none] }) rfl
  exact ⟨n ▸ top, Heap.get?_push_of_some _ (Heap.get?_push_size _ free), fun b ob q => Heap.get?_push_of_some _ (Heap.get?_push_of_some _ q)⟩
theorem begin1 {prog : Program} {w : World} {A : Around} {E : Value → Shared → Prop} {s : Shared} {v : Value} {o : Obj} {H : Heap → Prop} {Q : Value → Shared → Prop} (B : Begins v o H) (ready : H s.heap)
    (h : Two s.heap (two s.heap o) o → Q (.ref (s.heap.objs.size + 1)) { s with heap := two s.heap o }) : wpAny (model prog w) A (call (.type "enumerate") [v]) Q E s := by
  have T := two_is (h := s.heap) B.free
  have n : (s.heap.push o).objs.size = s.heap.objs.size + 1 := Heap.size_push ..
  refine callType_new F.called_enumerate (by decide) (F.typeCall_enumerate_1 _) (F.newCall_enumerate_1 _) (fun obj => F.args_object_init_2 obj _) F.entry_enumerate_new (new1 B) ⟨ready, ?_⟩
  show _ ∧ _
  rw [n]
  exact ⟨⟨_, T.en, rfl⟩, h T⟩
end EnT
namespace L2
open PySem PySem.Spec PyProof.Rows
/-- the tuple at a, each of its items in a new pair behind its place -/
def IteT (K : PySem.W.Frag) (a : Addr) : It where
  go i H := ∃ (xs : List V) (x : V), SqT K H a xs ∧ xs[i]? = some x
  yld i H v H' := ∃ q x, v = .ref q ∧ H q = none ∧ H' = upd H q (.tup [.int (i : Nat), x]) ∧ ∀ xs, SqT K H a xs → xs[i]? = some x
  stop i H := ∃ xs : List V, SqT K H a xs ∧ i = xs.length
/-- e enumerates by the iterator it of the tuple at a, of which i items are drawn -/
structure EnSt (a e it : Addr) (i : Nat) (h : Heap) : Prop where
  en : ∃ old, IsEnum h e it (i : Int) old
  it_ : h.IsTupleIter it a i
  ne : e ≠ it
  nai : a ≠ it
  nae : a ≠ e
theorem EnSt.lt_e {a e it : Addr} {i : Nat} {h : Heap} (S : EnSt a e it i h) : e < h.objs.size := S.en.elim fun _ q => Heap.lt_size q
theorem EnSt.lt_it {a e it : Addr} {i : Nat} {h : Heap} (S : EnSt a e it i h) : it < h.objs.size := S.it_.elim fun _ q => Heap.lt_size q.1
theorem EnSt.lt {a e it : Addr} {i : Nat} {h : Heap} (S : EnSt a e it i h) : ∀ b ∈ [e, it], b < h.objs.size := by
  simpa using And.intro S.lt_e S.lt_it
theorem two_mem {e it b : Addr} (h : b ∉ [e, it]) : b ≠ e ∧ b ≠ it := by simpa using h
section
variable {X : Cx} {pins : List (Addr × Obj)} {σ : L2.St} {H : Hp} {s : Shared}
/-- the new pair of an index and an item -/
theorem pair_ok {P : Program} {w : World} {q : Addr} {i : Nat} {t : Tok} {x : V} {u : Value} {g : Heap} (r : RelV x u) (at_ : g.get? q = some { cls := .type "tuple", data := .seq #[.int i t, u] }) : ObjOk P w (upd H q (.tup [.int (i : Nat), x])) g q (.tup [.int (i : Nat), x]) :=
  ⟨by show 2 ≤ sizeLine; decide, [.int i t, u], .cons ⟨t, rfl⟩ (.cons r .nil), _, at_, rfl, 0, rfl⟩
end
theorem turn_enumT {P : Program} {w : World} {K : PySem.W.Frag} {elts : List Expr} {kk : Nat} {tpos : Pos} (a e it : Addr) : Turn P w K (.Tuple elts kk tpos) (IteT K a) [e, it] e (EnSt a e it) where
  mem := List.mem_cons_self
  obj i h S b m := by
    rcases List.mem_cons.mp m with z | z
    · rw [z]
      exact S.en.elim fun _ q => ⟨_, q, fun _ y => nomatch y⟩
    · obtain ⟨o, q, _, d⟩ := S.it_
      exact ⟨o, List.mem_singleton.mp z ▸ q, fun _ y => by rw [d] at y; cases y⟩
  keep i h h' S k := ⟨S.en.imp fun _ q => k e (List.mem_cons_self ..) _ q, S.it_.at fun o q => k it (by simp) o q, S.ne, S.nai, S.nae⟩
  self A i s Q E S h := S.en.elim fun _ q => wpAny_pyIter_enum q h
  item := by
    intro X hP hw hK hc i pins s σ H E I own S go
    subst hP hw hK
    obtain ⟨old, en⟩ := S.en
    obtain ⟨xs, x, seq, hx⟩ := go
    obtain ⟨items, rel, tup, small⟩ := I.tuple seq
    obtain ⟨u, hu, ru⟩ := rel.get hx
    have lo := S.lt
    have draws := Draws.tuple (prog := X.prog) (w := X.w) (A := X.A.in1) (I.ok.hd hc) it a S.nai items.toArray
    refine wpAny_pyNext_enum_itemD draws en ⟨S.it_, tup⟩ (by simpa using (List.getElem?_eq_some_iff.mp hu).1) S.ne (by simp [S.ne, Ne.symm S.nae]) fun y g tk drawn out next at_ _ kept => ?_
    obtain rfl : u = y := Option.some.inj (hu.symm.trans (by simpa using drawn))
    refine ⟨_, rfl, wpAny_letOwnedTupleGo_enum (s := { s with heap := g, toks := tk + 1 }) out fun g2 en2 same => ?_⟩
    have here := (same.2 _ (Nat.ne_of_gt S.lt_e)).trans at_
    have all : ∀ b ob, b ∉ [e, it] → s.heap.get? b = some ob → g2.get? b = some ob := fun b ob nb q => (same.2 b (two_mem nb).1).trans (kept b ob (two_mem nb).1 (two_mem nb).2 q)
    refine ⟨.ref s.heap.objs.size, _, I.turnedNew (t' := tk + 1) all own (Nat.le_refl _) (pair_ok ru here), rfl, ⟨_, x, rfl, I.hok.fresh (Nat.le_refl _), rfl, fun ys q => I.tuple_inj q seq ▸ hx⟩, ⟨⟨u, ?_⟩, next.1.at fun o q => (same.2 it S.ne.symm).trans q, S.ne, S.nai, S.nae⟩, fun b m => ?_⟩
    · rw [show ((i + 1 : Nat) : Int) = (i : Int) + 1 by omega]
      exact en2
    · exact (upd_ne (Nat.ne_of_lt (lo b m))).trans (own b m).1
  done := by
    intro X hP hw hK hc i pins s σ H E I own S stop
    subst hP hw hK
    obtain ⟨old, en⟩ := S.en
    obtain ⟨xs, seq, rfl⟩ := stop
    obtain ⟨items, rel, tup, small⟩ := I.tuple seq
    have ⟨_, f1, _, f3, f4, f5⟩ := own it (by simp)
    have draws := Draws.tuple (prog := X.prog) (w := X.w) (A := X.A.in1) (I.ok.hd hc) it a S.nai items.toArray
    have len : xs.length = items.toArray.size := by rw [List.size_toArray]; exact rel.length
    refine wpAny_pyNext_enum_endD draws en ⟨len ▸ S.it_, tup⟩ fun g kept => ?_
    exact ⟨rfl, I.turned (t' := s.toks) (fun b o nb q => kept b o nb q) (own it (by simp)).1 f1 f3 f4 f5⟩
def iEnumT (K : PySem.W.Frag) (ta : TA) : TI := fun σ H R => ta σ H fun vs H1 => ∃ a xs, vs = [.ref a] ∧ SqT K H1 a xs ∧ R (IteT K a) H1
theorem pi_enumT {X : Cx} {e : Expr} {ta : TA} {p pos tpos : Pos} {elts : List Expr} {kk : Nat} (hg : Gl X "enumerate") (hm : X.mg "enumerate" = none) (ha : PA X [e] ta) (hs : starEach [e] X.env = [(false, eval e X.env)] := by rfl) :
    PI X (.Tuple elts kk tpos) (.Call (.Name "enumerate" p) [e] [] pos) (iEnumT X.K ta) := by
  refine ⟨fun pins s σ H R I h => ?_⟩
  refine Call_ (ld_blt I hg hm boot_enumerate (callWith_type1 (thn (ha.run pos pins s σ H _ I h) fun us s1 done => ?_) hs rfl))
  obtain ⟨vs, H1, I1, r1, q⟩ := done
  obtain ⟨a, xs, ev, seq, q⟩ := q
  subst ev
  match us, r1 with
  | [_], .cons rfl .nil =>
    obtain ⟨items, _, tup, _⟩ := I1.tuple seq
    have la : a < s1.heap.objs.size := tup.elim fun _ q => Heap.lt_size q.1
    refine EnT.begin1 (begins_tuple a items.toArray) tup fun T => wpAny_pyIter_enum T.en ?_
    refine ⟨_, [_, _], _, _, H1, rfl, I1.kept (t' := s1.toks) T.old, turn_enumT a _ _, ⟨⟨_, T.en⟩, ⟨_, T.it, rfl, rfl⟩, Nat.succ_ne_self _, Nat.ne_of_lt la, Nat.ne_of_lt (Nat.lt_succ_of_lt la)⟩, fun b m => ?_, q⟩
    have big : s1.heap.objs.size ≤ b := by
      rcases List.mem_cons.mp m with z | z
      · exact z ▸ Nat.le_succ _
      · exact Nat.le_of_eq (List.mem_singleton.mp z).symm
    exact I1.fpOk big (I1.hok.fresh big)
theorem walk_enumT {K : PySem.W.Frag} {a : Addr} {xs : List V} : Walk (IteT K a) xs.length (fun H => SqT K H a xs) (YPair (fun i => some (.int (i : Nat))) (fun i => xs[i]?)) where
  goes i _ lt q := ⟨xs, xs[i], q, List.getElem?_eq_getElem lt⟩
  stops _ q := ⟨xs, q, rfl⟩
  yields i H v H' _ q y := y.elim fun T z => z.elim fun x ⟨h1, h2, h3, h4⟩ => ⟨T, _, x, h1, h2, h3, rfl, h4 xs q⟩
end L2
end

-- Rel
section
set_option Elab.async false
set_option linter.all false
set_option maxRecDepth 100000
set_option maxHeartbeats 4000000
/-! Rel: what a def leaves of the heap; data of tuples; the drawn source. -/
namespace R
open PySem PySem.Spec PyProof.Rows L2 LamX NdefX
/-! ### data that stands in tuples -/
mutual
inductive Tp (H : Hp) : V → PyData → Prop
  | non : Tp H .non .none
  | bl (b : Bool) : Tp H (.bl b) (.bool b)
  | int (i : Int) : Tp H (.int i) (.int i)
  | str (x : Str) : Tp H (.str x) (.str x)
  | tup {a : Addr} {xs : List V} {ds : List PyData} : H a = some (.tup xs) → Tps H xs ds → Tp H (.ref a) (.tuple ds)
inductive Tps (H : Hp) : List V → List PyData → Prop
  | nil : Tps H [] []
  | cons {v : V} {vs : List V} {d : PyData} {ds : List PyData} : Tp H v d → Tps H vs ds → Tps H (v :: vs) (d :: ds)
end
def TK (H H' : Hp) : Prop := ∀ a xs, H a = some (.tup xs) → H' a = some (.tup xs)
theorem TK.refl (H : Hp) : TK H H := fun _ _ h => h
theorem TK.trans {H H1 H2 : Hp} (a : TK H H1) (b : TK H1 H2) : TK H H2 := fun c xs h => b c xs (a c xs h)
theorem TK.new {H : Hp} {p : Addr} {o : HO} (h : H p = none) : TK H (upd H p o) := fun a xs e => by
  rw [upd_ne (ne_of_none e h)]
  exact e
theorem TK.lst {H : Hp} {p : Addr} {xs : List V} {o : HO} (h : H p = some (.lst xs)) : TK H (upd H p o) := fun a ys e => by
  rw [upd_ne (ne_of e h (by intro z; cases z))]
  exact e
mutual
theorem Tp.mono {H H' : Hp} (k : TK H H') : ∀ {v : V} {d : PyData}, Tp H v d → Tp H' v d
  | _, _, .non => .non
  | _, _, .bl b => .bl b
  | _, _, .int i => .int i
  | _, _, .str x => .str x
  | _, _, .tup h t => .tup (k _ _ h) (Tps.mono k t)
theorem Tps.mono {H H' : Hp} (k : TK H H') : ∀ {vs : List V} {ds : List PyData}, Tps H vs ds → Tps H' vs ds
  | _, _, .nil => .nil
  | _, _, .cons h t => .cons (Tp.mono k h) (Tps.mono k t)
end
mutual
theorem Tp.dp {K : PySem.W.Frag} {H : Hp} : ∀ {v : V} {d : PyData}, Tp H v d → Dp K H v d
  | _, _, .non => .non
  | _, _, .bl b => .bl b
  | _, _, .int i => .int i
  | _, _, .str x => .str x
  | _, _, .tup h t => .tup (SqT.of h) (Tps.dp t)
theorem Tps.dp {K : PySem.W.Frag} {H : Hp} : ∀ {vs : List V} {ds : List PyData}, Tps H vs ds → DpAll K H vs ds
  | _, _, .nil => .nil
  | _, _, .cons h t => .cons (Tp.dp h) (Tps.dp t)
end
theorem Tps.length {H : Hp} : ∀ {vs : List V} {ds : List PyData}, Tps H vs ds → vs.length = ds.length
  | _, _, .nil => rfl
  | _, _, .cons _ t => by
    rw [List.length_cons, List.length_cons, Tps.length t]
theorem Tps.get {H : Hp} : ∀ {vs : List V} {ds : List PyData} {i : Nat} {v : V}, Tps H vs ds → vs[i]? = some v → ∃ d, ds[i]? = some d ∧ Tp H v d
  | _, _, _, _, .nil, e => by simp at e
  | _, _, 0, _, .cons h _, e => by simp at e; subst e; exact ⟨_, rfl, h⟩
  | _, _, i + 1, v, .cons _ t, e => by
    obtain ⟨d, h1, h2⟩ := Tps.get (i := i) (v := v) t (by simpa using e)
    exact ⟨d, by simpa using h1, h2⟩
theorem Tps.getD {H : Hp} : ∀ {vs : List V} {ds : List PyData} {i : Nat} {d : PyData}, Tps H vs ds → ds[i]? = some d → ∃ v, vs[i]? = some v ∧ Tp H v d
  | _, _, _, _, .nil, e => by simp at e
  | _, _, 0, _, .cons h _, e => by simp at e; subst e; exact ⟨_, rfl, h⟩
  | _, _, i + 1, v, .cons _ t, e => by
    obtain ⟨d, h1, h2⟩ := Tps.getD (i := i) (d := v) t (by simpa using e)
    exact ⟨d, by simpa using h1, h2⟩
theorem Tps.append {H : Hp} : ∀ {vs ws : List V} {ds es : List PyData}, Tps H vs ds → Tps H ws es → Tps H (vs ++ ws) (ds ++ es)
  | _, _, _, _, .nil, t => t
  | _, _, _, _, .cons h t, u => .cons h (Tps.append t u)
theorem Tps.erase {H : Hp} : ∀ {vs : List V} {ds : List PyData} (i : Nat), Tps H vs ds → Tps H (vs.eraseIdx i) (ds.eraseIdx i)
  | _, _, _, .nil => .nil
  | _, _, 0, .cons _ t => t
  | _, _, i + 1, .cons h t => .cons h (Tps.erase i t)
theorem Tps.ints {H : Hp} : ∀ (ns : List Int), Tps H (ns.map V.int) (ns.map PyData.int)
  | [] => .nil
  | n :: r => .cons (.int n) (Tps.ints r)
theorem Tps.ints_of {H : Hp} : ∀ {vs : List V} {ns : List Int}, Tps H vs (ns.map PyData.int) → vs = ns.map V.int
  | _, [], h => by cases h; rfl
  | _, n :: r, h => by
    cases h with
    | cons h1 h2 =>
      cases h1
      rw [Tps.ints_of h2] <;> rfl
/-! ### pairs of numbers -/
def prD (p : Int × Int) : PyData := .tuple [.int p.1, .int p.2]
def lkD (ps : List (Int × Int)) : List PyData := ps.map prD
theorem tp_pr {H : Hp} {v : V} {p : Int × Int} (h : Tp H v (prD p)) : ∃ a, v = .ref a ∧ H a = some (.tup [.int p.1, .int p.2]) := by
  cases h with
  | tup h t => exact ⟨_, rfl, by rw [Tps.ints_of (ns := [p.1, p.2]) t] at h; exact h⟩
theorem pr_tp {H : Hp} {a : Addr} {i j : Int} (h : H a = some (.tup [.int i, .int j])) : Tp H (.ref a) (prD (i, j)) := .tup h (.cons (.int i) (.cons (.int j) .nil))
/-! ### the drawn source: a list of two numbers -/
def BIG : Nat := 1048600
def Src (H : Hp) (a : Addr) : Prop := ∃ x y : Int, H a = some (.lst [.int x, .int y]) ∧ 0 ≤ x ∧ x.natAbs < 2 ^ BIG ∧ 0 ≤ y ∧ y < 2147483647
/-! ### what is left as it was -/
structure Ext (T : List NTab) (so : Option Addr) (H H' : Hp) : Prop where
  kp : ∀ b o, some b ≠ so → (∀ ps, o ≠ .tbl ps) → H b = some o → H' b = some o
  tb : TabsN T H → TabsN T H'
  sr : ∀ a, so = some a → Src H a → Src H' a
  fr : ∀ b, H' b = none → H b = none
section
variable {T : List NTab} {so : Option Addr} {H H1 H2 : Hp} {a : Addr}
theorem Ext.refl (T : List NTab) (so : Option Addr) (H : Hp) : Ext T so H H := ⟨fun _ _ _ _ h => h, fun h => h, fun _ _ h => h, fun _ h => h⟩
theorem Ext.trans (x : Ext T so H H1) (y : Ext T so H1 H2) : Ext T so H H2 := ⟨fun b o n t h => y.kp b o n t (x.kp b o n t h), fun h => y.tb (x.tb h), fun b e h => y.sr b e (x.sr b e h), fun b h => x.fr b (y.fr b h)⟩
theorem upd_none' {H : Hp} {a b : Addr} {o : HO} (e : upd H a o b = none) : H b = none := by
  unfold upd at e
  split at e
  · cases e
  · exact e
theorem tabs_new {H : Hp} {p : Addr} {o : HO} (n : H p = none) (h : TabsN T H) : TabsN T (upd H p o) := h.ext fun b u e => by
  rw [upd_ne (ne_of_none e n)]
  exact e
/-- a new object -/
theorem Ext.new {p : Addr} {o : HO} (n : H p = none) : Ext T so H (upd H p o) :=
  ⟨fun b u _ _ e => by rw [upd_ne (ne_of_none e n)]; exact e, tabs_new n, fun b e ⟨x, y, h, r⟩ => ⟨x, y, by rw [upd_ne (ne_of_none h n)]; exact h, r⟩, fun b e => upd_none' e⟩
/-- an object that the beginning does not know is changed -/
theorem Ext.mut {p : Addr} {o u : HO} (x : Ext T so H H1) (n : H p = none) (h1 : H1 p = some u) (nt : ∀ ps, u ≠ .tbl ps) (nc : ∀ c q, u ≠ CodeO c q) (ns : so ≠ some p) : Ext T so H (upd H1 p o) :=
  ⟨fun b w a b' e => by rw [upd_ne (ne_of_none e n)]; exact x.kp b w a b' e, fun h => by
    have q := x.tb h
    intro t ht
    obtain ⟨ps, a1, a2, a3⟩ := q t ht
    refine ⟨ps, by rw [upd_ne (ne_of a1 h1 (Ne.symm (nt ps)))]; exact a1, a2, fun pos cv hc => ?_⟩
    obtain ⟨c, e1, e2⟩ := a3 pos cv hc
    exact ⟨c, e1, by rw [upd_ne (ne_of e2 h1 (Ne.symm (nc c _)))]; exact e2⟩,
   fun b e q => by
    obtain ⟨x', y', h', r⟩ := x.sr b e q
    exact ⟨x', y', by rw [upd_ne (fun z => ns (by rw [e, z]))]; exact h', r⟩, fun b e => x.fr b (upd_none' e)⟩
theorem lst_nt {xs : List V} (ps : Array Value) : (HO.lst xs) ≠ .tbl ps := fun z => by cases z
theorem lst_nc {xs : List V} (c : Addr) (q : Str) : (HO.lst xs) ≠ CodeO c q := fun z => by
  unfold CodeO at z
  cases z
theorem tup_nt {xs : List V} (ps : Array Value) : (HO.tup xs) ≠ .tbl ps := fun z => by cases z
theorem ins_nt {C d : Addr} {fs : List (Str × V)} (ps : Array Value) : (HO.ins C d fs) ≠ .tbl ps := fun z => by cases z
theorem ins_nc {C d : Addr} {fs : List (Str × V)} (c : Addr) (q : Str) : (HO.ins C d fs) ≠ CodeO c q := fun z => by
  unfold CodeO at z
  cases z
theorem own_nt {x : Addr} (ps : Array Value) : (HO.own x) ≠ .tbl ps := fun z => by cases z
theorem frz_nt {o : Obj} {u : HO} (ps : Array Value) : (HO.frz o u) ≠ .tbl ps := fun z => by cases z
theorem Ext.mutL {p : Addr} {o : HO} {xs : List V} (x : Ext T so H H1) (n : H p = none) (h1 : H1 p = some (.lst xs)) (ns : so ≠ some p) : Ext T so H (upd H1 p o) := x.mut n h1 lst_nt lst_nc ns
/-- nothing but new objects: so the source is left too -/
theorem Ext.toS (x : Ext T none H H1) : Ext T so H H1 := ⟨fun b o _ t h => x.kp b o (fun z => nomatch z) t h, x.tb, fun b _ ⟨i, j, h, r⟩ => ⟨i, j, x.kp b _ (fun z => nomatch z) lst_nt h, r⟩, x.fr⟩
theorem Ext.tup {xs : List V} (x : Ext T none H H1) (h : H a = some (.tup xs)) : H1 a = some (.tup xs) := x.kp a _ (fun z => nomatch z) tup_nt h
theorem Ext.lst {xs : List V} (x : Ext T none H H1) (h : H a = some (.lst xs)) : H1 a = some (.lst xs) := x.kp a _ (fun z => nomatch z) lst_nt h
theorem Ext.ins {C d : Addr} {fs : List (Str × V)} (x : Ext T none H H1) (h : H a = some (.ins C d fs)) : H1 a = some (.ins C d fs) := x.kp a _ (fun z => nomatch z) ins_nt h
theorem Ext.tk (x : Ext T none H H1) : TK H H1 := fun _ _ h => x.tup h
/-- with the source: it is a list -/
theorem Ext.tkS {s : Addr} (x : Ext T (some s) H H1) (q : Src H s) : TK H H1 := fun a xs h => x.kp a _ (fun z => by
  obtain ⟨i, j, e, _⟩ := q
  rw [Option.some.inj z, e] at h
  cases h) tup_nt h
theorem Ext.insS {s C d : Addr} {fs : List (Str × V)} (x : Ext T (some s) H H1) (q : Src H s) (h : H a = some (.ins C d fs)) : H1 a = some (.ins C d fs) := x.kp a _ (fun z => by
  obtain ⟨i, j, e, _⟩ := q
  rw [Option.some.inj z, e] at h
  cases h) ins_nt h
theorem Ext.lstS {s : Addr} {xs : List V} (x : Ext T (some s) H H1) (n : a ≠ s) (h : H a = some (.lst xs)) : H1 a = some (.lst xs) := x.kp a _ (fun z => n (Option.some.inj z)) lst_nt h
theorem Ext.src {s : Addr} (x : Ext T (some s) H H1) (q : Src H s) : Src H1 s := x.sr s rfl q
theorem Ext.same (x : Same H H1) (fr : ∀ b, H1 b = none → H b = none) : Ext T so H H1 := ⟨fun b o _ _ h => x b o h, fun h => h.ext x, fun b _ ⟨i, j, h, r⟩ => ⟨i, j, x b _ h, r⟩, fr⟩
theorem new_ne {b : Addr} (n : H b = none) {o : HO} (h : H a = some o) : a ≠ b := ne_of_none h n
end
/-! ### three comparisons in a row -/
def tChain3 (r r' r'' : R2) (ta tb tc td : TE) : TE := fun σ H Q => ta σ H fun x H1 => tb σ H1 fun y H2 => r x y H2 fun z H3 => ∃ k, z = .bl k ∧
  (if k = true then tc σ H3 fun w H4 => r' y w H4 fun z' H5 => ∃ k', z' = .bl k' ∧ (if k' = true then td σ H5 fun u H6 => r'' w u H6 Q else Q (.bl false) H5) else Q (.bl false) H3)
theorem pe_chain3 {X : Cx} {a b c d : Expr} {ta tb tc td : TE} {pos : Pos} {op op' op'' : CmpOp} {r r' r'' : R2} (ho : OpR X (compareOp op) r) (ho' : OpR X (compareOp op') r') (ho'' : OpR X (compareOp op'') r'') (ha : PE X a ta) (hb : PE X b tb) (hc : PE X c tc) (hd : PE X d td)
    (hm : lastMarks [op, op', op''] [b, c, d] = false := by with_unfolding_all rfl) : PE X (.Compare a [op, op', op''] [b, c, d] pos) (tChain3 r r' r'' ta tb tc td) := by
  refine ⟨fun pins s σ H Q I h => ?_⟩
  refine Compare_chain (thn (ha.run pins s σ H _ I h) fun v s1 ⟨x, H1, I1, r1, q1⟩ => chain_link (thn (hb.run pins s1 σ H1 _ I1 q1) fun u s2 ⟨y, H2, I2, r2, q2⟩ =>
    thn (ho pins s2 σ H2 x y v u _ I2 r1 r2 q2) fun d s3 ⟨z, H3, I3, r3, k, e, q3⟩ => ?_)) hm
  subst e
  cases r3
  refine wpAny_truthy_bool ?_
  cases k with
  | false => exact ite_ff ⟨.bl false, H3, I3, rfl, q3⟩
  | true =>
    refine ite_tt (chain_link (thn (hc.run pins s3 σ H3 _ I3 q3) fun w' s4 ⟨z', H4, I4, r4, q4⟩ => thn (ho' pins s4 σ H4 y z' u w' _ I4 r2 r4 q4) fun d2 s5 ⟨z2, H5, I5, r5, k2, e2, q5⟩ => ?_))
    subst e2
    cases r5
    refine wpAny_truthy_bool ?_
    cases k2 with
    | false => exact ite_ff ⟨.bl false, H5, I5, rfl, q5⟩
    | true => exact ite_tt (chain_last (thn (hd.run pins s5 σ H5 _ I5 q5) fun w2 s6 ⟨z3, H6, I6, r6, q6⟩ => ho'' pins s6 σ H6 z' z3 w' w2 Q I6 r4 r6 q6))
/-! ### where a def of the text stands -/
structure DefAt (K : PySem.W.Frag) (mg : Str → Option Value) (x qual : Str) (st : Stmt) (ps : List Str) (f : Addr) (fd : FuncData) : Prop where
  fn : Fun K x qual st f fd
  bd : L2.Binds K fd ps []
theorem iteB {c : Bool} {A B : Prop} (h1 : c = true → A) (h2 : c = false → B) : if c = true then A else B := by
  cases c with
  | true => exact iteT (h1 rfl)
  | false => exact iteF (h2 rfl)
end R
end

-- Text
section
set_option Elab.async false
set_option linter.all false
set_option maxRecDepth 100000
set_option maxHeartbeats 4000000
/-! Text: the program's text by places, what its top leaves. -/
namespace R
open PySem PySem.Spec PyProof.Rows L2 LamX NdefX LamP
/-! ### the text by places -/
def top (i : Nat) : Stmt := PySem.Challenge.pw_pairfloors_k48_surpluses_listed.main.body.getD i (.Pass ⟨0, 0, 0, 0⟩)
abbrev s_Refused_init : Stmt := inClass (top 2) 0
abbrev s_check_count : Stmt := top 5
abbrev s_check_coats : Stmt := top 10
abbrev s_surplus_count : Stmt := top 12
abbrev s_rows_with : Stmt := top 13
abbrev s_sums_of : Stmt := top 14
abbrev s_Lpool : Stmt := top 16
abbrev s_Ltake : Stmt := top 17
abbrev s_Lone : Stmt := top 18
abbrev s_Lbeyond : Stmt := top 19
abbrev s_Lsplits : Stmt := top 20
abbrev s_Ldue : Stmt := top 21
abbrev s_Lrefused : Stmt := top 22
abbrev s_law : Stmt := top 23
abbrev N_Refused_init : List Str := ["self", "what"]
theorem sc_Refused_init : FnScope N_Refused_init ["self", "what"] (defScope s_Refused_init) := ⟨rfl, rfl, rfl, by decide +kernel, rfl, by decide +kernel, by decide +kernel⟩
abbrev N_check_count : List Str := ["number", "least", "most"]
theorem sc_check_count : FnScope N_check_count ["number", "least", "most"] (defScope s_check_count) := ⟨rfl, rfl, rfl, by decide +kernel, rfl, by decide +kernel, by decide +kernel⟩
abbrev N_check_coats : List Str := ["coats"]
theorem sc_check_coats : FnScope N_check_coats ["coats"] (defScope s_check_coats) := ⟨rfl, rfl, rfl, by decide +kernel, rfl, by decide +kernel, by decide +kernel⟩
abbrev N_surplus_count : List Str := ["light", "dark", "coats", "least", "above"]
theorem sc_surplus_count : FnScope N_surplus_count ["light", "dark", "coats"] (defScope s_surplus_count) := ⟨rfl, rfl, rfl, by decide +kernel, rfl, by decide +kernel, by decide +kernel⟩
abbrev N_rows_with : List Str := ["above", "below", "coats", "total", "a", "b"]
theorem sc_rows_with : FnScope N_rows_with ["above", "below", "coats"] (defScope s_rows_with) := ⟨rfl, rfl, rfl, by decide +kernel, rfl, by decide +kernel, by decide +kernel⟩
abbrev N_sums_of : List Str := ["total", "many"]
theorem sc_sums_of : FnScope N_sums_of ["total", "many"] (defScope s_sums_of) := ⟨rfl, rfl, rfl, by decide +kernel, rfl, by decide +kernel, by decide +kernel⟩
abbrev N_Lpool : List Str := ["_law_script", "_law_k", "_law_cell", "_law_big", "_law_mixed"]
theorem sc_Lpool : FnScope N_Lpool ["_law_script", "_law_k"] (defScope s_Lpool) := ⟨rfl, rfl, rfl, by decide +kernel, rfl, by decide +kernel, by decide +kernel⟩
abbrev N_Ltake : List Str := ["_law_source", "_law_top", "_law_drawn"]
theorem sc_Ltake : FnScope N_Ltake ["_law_source", "_law_top"] (defScope s_Ltake) := ⟨rfl, rfl, rfl, by decide +kernel, rfl, by decide +kernel, by decide +kernel⟩
abbrev N_Lone : List Str := ["_law_source", "_law_things"]
theorem sc_Lone : FnScope N_Lone ["_law_source", "_law_things"] (defScope s_Lone) := ⟨rfl, rfl, rfl, by decide +kernel, rfl, by decide +kernel, by decide +kernel⟩
abbrev N_Lbeyond : List Str := ["_law_source", "_law_least", "_law_most", "_law_far"]
theorem sc_Lbeyond : FnScope N_Lbeyond ["_law_source", "_law_least", "_law_most"] (defScope s_Lbeyond) := ⟨rfl, rfl, rfl, by decide +kernel, rfl, by decide +kernel, by decide +kernel⟩
abbrev N_Lsplits : List Str := ["_law_many", "_law_total", "_law_rows", "_law_turn", "_law_longer", "_law_row", "_law_k"]
theorem sc_Lsplits : FnScope N_Lsplits ["_law_many", "_law_total"] (defScope s_Lsplits) := ⟨rfl, rfl, rfl, by decide +kernel, rfl, by decide +kernel, by decide +kernel⟩
abbrev N_Ldue : List Str := ["_law_ups", "_law_downs", "_law_shades", "_law_seen", "_law_below", "_law_row", "_law_other", "_law_c"]
theorem sc_Ldue : FnScope N_Ldue ["_law_ups", "_law_downs", "_law_shades"] (defScope s_Ldue) := ⟨rfl, rfl, rfl, by decide +kernel, rfl, by decide +kernel, by decide +kernel⟩
abbrev N_Lrefused : List Str := ["_law_ups", "_law_downs", "_law_shades", "e"]
theorem sc_Lrefused : FnScope N_Lrefused ["_law_ups", "_law_downs", "_law_shades"] (defScope s_Lrefused) := ⟨rfl, rfl, rfl, by decide +kernel, rfl, by decide +kernel, by decide +kernel⟩
abbrev N_law : List Str := ["_law_script", "_law_k", "_law_source", "_law_shades", "_law_whole", "_law_ups", "_law_due_here", "_law_told", "_law_bent", "_law_places", "_law_at"]
theorem sc_law : FnScope N_law ["_law_script"] (defScope s_law) := ⟨rfl, rfl, rfl, by decide +kernel, rfl, by decide +kernel, by decide +kernel⟩
/-! ### what the top leaves -/
structure FunC (K : PySem.W.Frag) (x qual : Str) (st : Stmt) (f : Addr) (fd : FuncData) (c : Addr) : Prop where
  ex : ∃ (oc : Value) (od : Option Addr) (kV doc pm : Value) (an : Option Addr) (ct : Value) (osl : Array (Option Value)), fd = PySem.W.fnOf x qual (defArgs st) (defBody st) (defScope st) .none kV doc pm an (.ref c) ct ∧ K.lookup f = some ⟨oc, od, .func fd, osl⟩ ∧ PySem.W.codeIn K (.ref c) qual = true
structure ErrC (K : PySem.W.Frag) (mg : Str → Option Value) (x : Str) (fI C : Addr) : Prop where
  gC : mg x = some (.ref C)
  ox : OexC K C
  xf : XfC K C
  iC : PySem.W.findIn K (.ref C) "__init__" = some (some (.ref fI))
  nw : PySem.W.findIn K (.ref C) "what" = some none
structure Txt (K : PySem.W.Frag) (mg : Str → Option Value) : Type where
  a_Refused_init : Addr
  d_Refused_init : FuncData
  F_Refused_init : Fun K "__init__" "Refused.__init__" s_Refused_init a_Refused_init d_Refused_init
  b_Refused_init : L2.Binds K d_Refused_init ["self", "what"] []
  a_check_count : Addr
  d_check_count : FuncData
  F_check_count : Fun K "check_count" "check_count" s_check_count a_check_count d_check_count
  b_check_count : L2.Binds K d_check_count ["number", "least", "most"] []
  g_check_count : mg "check_count" = some (.ref a_check_count)
  a_check_coats : Addr
  d_check_coats : FuncData
  F_check_coats : Fun K "check_coats" "check_coats" s_check_coats a_check_coats d_check_coats
  b_check_coats : L2.Binds K d_check_coats ["coats"] []
  g_check_coats : mg "check_coats" = some (.ref a_check_coats)
  a_surplus_count : Addr
  d_surplus_count : FuncData
  F_surplus_count : Fun K "surplus_count" "surplus_count" s_surplus_count a_surplus_count d_surplus_count
  b_surplus_count : L2.Binds K d_surplus_count ["light", "dark", "coats"] []
  g_surplus_count : mg "surplus_count" = some (.ref a_surplus_count)
  a_rows_with : Addr
  d_rows_with : FuncData
  F_rows_with : Fun K "rows_with" "rows_with" s_rows_with a_rows_with d_rows_with
  b_rows_with : L2.Binds K d_rows_with ["above", "below", "coats"] []
  g_rows_with : mg "rows_with" = some (.ref a_rows_with)
  a_sums_of : Addr
  d_sums_of : FuncData
  F_sums_of : Fun K "sums_of" "sums_of" s_sums_of a_sums_of d_sums_of
  b_sums_of : L2.Binds K d_sums_of ["total", "many"] []
  g_sums_of : mg "sums_of" = some (.ref a_sums_of)
  a_Lpool : Addr
  d_Lpool : FuncData
  F_Lpool : Fun K "_law_pool" "_law_pool" s_Lpool a_Lpool d_Lpool
  b_Lpool : L2.Binds K d_Lpool ["_law_script", "_law_k"] []
  g_Lpool : mg "_law_pool" = some (.ref a_Lpool)
  a_Ltake : Addr
  d_Ltake : FuncData
  F_Ltake : Fun K "_law_take" "_law_take" s_Ltake a_Ltake d_Ltake
  b_Ltake : L2.Binds K d_Ltake ["_law_source", "_law_top"] []
  g_Ltake : mg "_law_take" = some (.ref a_Ltake)
  a_Lone : Addr
  d_Lone : FuncData
  F_Lone : Fun K "_law_one" "_law_one" s_Lone a_Lone d_Lone
  b_Lone : L2.Binds K d_Lone ["_law_source", "_law_things"] []
  g_Lone : mg "_law_one" = some (.ref a_Lone)
  a_Lbeyond : Addr
  d_Lbeyond : FuncData
  F_Lbeyond : Fun K "_law_beyond" "_law_beyond" s_Lbeyond a_Lbeyond d_Lbeyond
  b_Lbeyond : L2.Binds K d_Lbeyond ["_law_source", "_law_least", "_law_most"] []
  g_Lbeyond : mg "_law_beyond" = some (.ref a_Lbeyond)
  a_Lsplits : Addr
  d_Lsplits : FuncData
  F_Lsplits : Fun K "_law_splits" "_law_splits" s_Lsplits a_Lsplits d_Lsplits
  b_Lsplits : L2.Binds K d_Lsplits ["_law_many", "_law_total"] []
  g_Lsplits : mg "_law_splits" = some (.ref a_Lsplits)
  a_Ldue : Addr
  d_Ldue : FuncData
  F_Ldue : Fun K "_law_due" "_law_due" s_Ldue a_Ldue d_Ldue
  b_Ldue : L2.Binds K d_Ldue ["_law_ups", "_law_downs", "_law_shades"] []
  g_Ldue : mg "_law_due" = some (.ref a_Ldue)
  a_Lrefused : Addr
  d_Lrefused : FuncData
  F_Lrefused : Fun K "_law_refused" "_law_refused" s_Lrefused a_Lrefused d_Lrefused
  b_Lrefused : L2.Binds K d_Lrefused ["_law_ups", "_law_downs", "_law_shades"] []
  g_Lrefused : mg "_law_refused" = some (.ref a_Lrefused)
  a_law : Addr
  d_law : FuncData
  F_law : Fun K "law" "law" s_law a_law d_law
  b_law : L2.Binds K d_law ["_law_script"] []
  g_law : mg "law" = some (.ref a_law)
  C_Refused : Addr
  e_Refused : ErrC K mg "Refused" a_Refused_init C_Refused
  C_BadCount : Addr
  e_BadCount : ErrC K mg "BadCount" a_Refused_init C_BadCount
  tI : PySem.W.typeIn K (.ref a_Refused_init) = some (.type "function")
  x_Refused_Refused : PySem.W.exmOne K (.ref C_Refused) (.ref C_Refused) = some true
  x_Refused_BadCount : PySem.W.exmOne K (.ref C_Refused) (.ref C_BadCount) = some false
  x_BadCount_Refused : PySem.W.exmOne K (.ref C_BadCount) (.ref C_Refused) = some true
  x_BadCount_BadCount : PySem.W.exmOne K (.ref C_BadCount) (.ref C_BadCount) = some true
  t_MOST_CELLS : Tok
  c_MOST_CELLS : mg "MOST_CELLS" = some (.int 40 t_MOST_CELLS)
  t_LEAST_COATS : Tok
  c_LEAST_COATS : mg "LEAST_COATS" = some (.int 2 t_LEAST_COATS)
  t_MOST_COATS : Tok
  c_MOST_COATS : mg "MOST_COATS" = some (.int 6 t_MOST_COATS)
  n_bool : mg "bool" = none
  n_int : mg "int" = none
  n_isinstance : mg "isinstance" = none
  n_len : mg "len" = none
  n_max : mg "max" = none
  n_min : mg "min" = none
  n_range : mg "range" = none
  n_sum : mg "sum" = none
  n_tuple : mg "tuple" = none
  m_comb : mg "comb" = some (.builtin "math.comb")
end R
end

-- Draw
section
set_option Elab.async false
set_option linter.all false
set_option maxRecDepth 100000
set_option maxHeartbeats 4000000
set_option exponentiation.threshold 100
/-! Draw: the laws' own draws over any text that has them. -/
namespace R
open PySem PySem.Spec PyProof.Rows L2 LamX NdefX LamP
def Ret (T : List NTab) (H : Hp) (Q : VK) (P : V → Hp → Prop) : Prop := ∀ v H', Ext T none H H' → P v H' → Q v H'
def RetV (T : List NTab) (H : Hp) (Q : VK) (v : V) : Prop := ∀ H', Ext T none H H' → Q v H'
theorem seq_cut {t R : TS} {D : Ends} {σ : L2.St} {H : Hp} (J : L2.St → Hp → Prop) (h1 : ∀ R' : L2.St → Hp → Prop, (∀ σ' H', J σ' H' → R' σ' H') → t { D with nx := R' } σ H) (h2 : ∀ σ' H', J σ' H' → R D σ' H') : tSeq t R D σ H := h1 (R D) h2
theorem iteF' {c : Bool} {A B : Prop} (h : c = false) (k : B) : if c = true then A else B := by rw [h]; exact iteF k
theorem iteT' {c : Bool} {A B : Prop} (h : c = true) (k : A) : if c = true then A else B := by rw [h]; exact iteT k
theorem bits_lt {z : Int} (h : Builtin.Int.intBits z ≤ 1048576) : z.natAbs < 2 ^ 1048576 := by
  unfold Builtin.Int.intBits at h
  by_cases e : z = 0
  · subst e
    exact Nat.two_pow_pos _
  · rw [if_neg (by simpa using e)] at h
    exact Nat.lt_of_lt_of_le Nat.lt_log2_self (Nat.pow_le_pow_right (by decide) h)
theorem big_lt {c : Int} {v : Nat} (h : c.natAbs < 2 ^ 1048576) (hv : v ≤ c.natAbs) : v < 2 ^ BIG :=
  Nat.lt_of_le_of_lt hv (Nat.lt_of_lt_of_le h (Nat.pow_le_pow_right (by decide) (by unfold BIG; decide)))
section
variable {P : Program} {w : World} {K : PySem.W.Frag} {mg : Str → Option Value} {base : Heap}
theorem room65 {k : Nat} {A : Around} (r : Room k A) : A.units + 65 < cLine := by have := r.un; omega
/-- what a def that draws gives back: the source has moved on, nothing else has changed -/
def RetS (TT : List NTab) (so : Addr) (H : Hp) (Q : VK) (good : V → Hp → Prop) : Prop := ∀ v H', Ext TT (some so) H H' → Src H' so → good v H' → Q v H'
theorem Ext.srcSet {TT : List NTab} {so : Addr} {H H1 : Hp} {x y : Int} (x1 : Ext TT (some so) H H1) (s1 : Src H1 so) (hx : 0 ≤ x ∧ x.natAbs < 2 ^ BIG) (hy : 0 ≤ y ∧ y < 2147483647) :
    Ext TT (some so) H (upd H1 so (.lst [.int x, .int y])) ∧ Src (upd H1 so (.lst [.int x, .int y])) so := by
  obtain ⟨a, b, h, _⟩ := s1
  have me : Src (upd H1 so (.lst [.int x, .int y])) so := ⟨x, y, upd_same, hx.1, hx.2, hy.1, hy.2⟩
  refine ⟨⟨fun c o ne nt e => ?_, fun t => ?_, fun c e _ => ?_, fun c e => x1.fr c (upd_none' e)⟩, me⟩
  · rw [upd_ne (fun z => ne (by rw [z]))]
    exact x1.kp c o ne nt e
  · have q := x1.tb t
    intro p hp
    obtain ⟨ps, a1, a2, a3⟩ := q p hp
    refine ⟨ps, (upd_ne (ne_of a1 h (Ne.symm (lst_nt ps)))).trans a1, a2, fun pos cv hc => ?_⟩
    obtain ⟨d, e1, e2⟩ := a3 pos cv hc
    exact ⟨d, e1, (upd_ne (ne_of e2 h (Ne.symm (lst_nc d _)))).trans e2⟩
  · cases e
    exact me
/-- a source that the beginning does not know is forgotten -/
theorem Ext.dropS {TT : List NTab} {so : Addr} {H H1 H2 : Hp} (x : Ext TT none H H1) (n : H so = none) (y : Ext TT (some so) H1 H2) : Ext TT none H H2 :=
  ⟨fun b o _ nt e => y.kp b o (fun z => by cases z; rw [n] at e; cases e) nt (x.kp b o (fun z => nomatch z) nt e), fun t => y.tb (x.tb t), fun _ e => (nomatch e), fun b e => x.fr b (y.fr b e)⟩
theorem SqL.ext {TT : List NTab} {H H1 : Hp} {a : Addr} {xs : List V} (h : SqL K H a xs) (x : Ext TT none H H1) : SqL K H1 a xs := by
  rcases h with (h | ⟨o, h⟩) | h
  · exact .inl (.inl (x.lst h))
  · exact .inl (.inr ⟨o, x.kp a _ (fun z => nomatch z) frz_nt h⟩)
  · exact .inr h
/-- a new object: what is kept, and where it stands -/
theorem newX {TT : List NTab} {H H1 : Hp} {p : Addr} {o : HO} {so : Option Addr} (x : Ext TT so H H1) (n : H1 p = none) : Ext TT so H (upd H1 p o) ∧ upd H1 p o p = some o := ⟨x.trans (Ext.new n), upd_same⟩
def spTake (TT : List NTab) : Sp := fun vs H Q _ => ∃ (so : Addr) (n : Int), vs = [.ref so, .int n] ∧ Src H so ∧ 0 < n ∧ n < 2 ^ 62 ∧ RetS TT so H Q fun v _ => ∃ m : Int, v = .int m ∧ 0 ≤ m ∧ m < n
theorem ok_take (T : Txt K mg) (TT : List NTab) : FnOk P w K mg base CX0 1 T.a_Ltake T.d_Ltake ["_law_source", "_law_top"] (spTake TT) := by
  refine T.F_Ltake.ok sc_Ltake (fun vs H Q E h => ?_) (fun cdv A outer s H vs Q E hr h => ?_)
  · obtain ⟨so, n, rfl, _⟩ := h
    rfl
  · obtain ⟨so, n, rfl, hs, hn, hn2, k⟩ := h
    have nd := sc_Ltake.nd
    refine ⟨_, pss_cons (ps_if (pt_cmpR op_gt (pe_ix ix_list (pv 0) pe_int (fun _ _ => rfl)) pe_int (nomark _))
        (pss_cons (ps_set (i := 2) nd rfl (Or.inl rfl) (pe_op op_mod (pe_callTy call_int1 (by rfl) T.n_int (by decide +kernel) (pa_cons (pe_ix ix_list (pv 0) pe_int (fun _ _ => rfl)) pa_nil)) (pv 1)))
        (pss_cons (ps_asg (pe_op op_fdivW (pe_ix ix_list (pv 0) pe_int (fun _ _ => rfl)) (pv 1)) (pg_sub (pv 0) pe_int set_list))
        (pss_one (ps_ret (pv 2))))) pss_nil)
      (pss_cons (ps_asg (pe_op op_mod (pe_callTy call_int1 (by rfl) T.n_int (by decide +kernel) (pa_cons (pe_op op_add (pe_op op_mul (pe_ix ix_list (pv 0) pe_int (fun _ _ => rfl)) pe_int) pe_int) pa_nil)) pe_int) (pg_sub (pv 0) pe_int set_list))
      (pss_one (ps_ret (pe_op op_mod (pe_callTy call_int1 (by rfl) T.n_int (by decide +kernel) (pa_cons (pe_op op_fdiv (pe_op op_mod (pe_callTy call_int1 (by rfl) T.n_int (by decide +kernel) (pa_cons (pe_op op_mulW (pe_ix ix_list (pv 0) pe_int (fun _ _ => rfl)) (pe_ix ix_list (pv 0) pe_int (fun _ _ => rfl))) pa_nil)) pe_int) pe_int) pa_nil)) (pv 1))))), ?_⟩
    have hs0 := hs
    obtain ⟨x, y, h, hx0, hxB, hy0, hyB⟩ := hs
    have n30 : n.natAbs < 2 ^ 62 := by omega
    refine ⟨_, rfl, so, _, 0, _, rfl, rfl, SqL.of h, rfl, _, _, rfl, rfl, _, rfl, ?_⟩
    refine iteB (fun h0 => ?_) (fun h0 => ?_)
    · have hx : 0 < x := of_decide_eq_true h0
      refine ⟨_, rfl, so, _, 0, _, rfl, rfl, SqL.of h, rfl, .inl ⟨_, rfl, _, rfl, _, _, rfl, rfl, hn, ?_⟩⟩
      refine ⟨_, rfl, so, _, 0, _, rfl, rfl, SqL.of h, rfl, _, rfl, _, _, rfl, rfl, wide_div hn n30 (by omega) (by omega), ?_⟩
      refine ⟨_, rfl, so, _, 0, 0, rfl, rfl, h, rfl, ?_⟩
      have d0 : 0 ≤ x / n := Int.ediv_nonneg hx0 (by omega)
      have d1 : x / n ≤ x := Int.ediv_le_self n hx0
      obtain ⟨e1, e2⟩ := (Ext.refl TT (some so) H).srcSet (x := x / n) (y := y) hs0 ⟨d0, wide_le d0 d1 hxB⟩ ⟨hy0, hyB⟩
      exact ⟨_, rfl, k _ _ e1 e2 ⟨_, rfl, Int.emod_nonneg _ (by omega), Int.emod_lt_of_pos _ hn⟩⟩
    · refine ⟨_, rfl, so, _, 1, _, rfl, rfl, SqL.of h, rfl, _, _, rfl, rfl, .inr (by omega), _, _, rfl, rfl, .inl ⟨_, rfl, _, _, rfl, rfl, by omega, ?_⟩⟩
      refine ⟨_, rfl, so, _, 1, 1, rfl, rfl, h, rfl, ?_⟩
      have m0 : 0 ≤ (y * 39373 + 7) % 2147483647 := Int.emod_nonneg _ (by omega)
      have m1 : (y * 39373 + 7) % 2147483647 < 2147483647 := Int.emod_lt_of_pos _ (by omega)
      obtain ⟨e1, e2⟩ := (Ext.refl TT (some so) H).srcSet (x := x) (y := (y * 39373 + 7) % 2147483647) hs0 ⟨hx0, hxB⟩ ⟨m0, m1⟩
      dsimp only [List.set]
      generalize (y * 39373 + 7) % 2147483647 = z at m0 m1 e1 e2 ⊢
      have zb : z.natAbs < 2 ^ 31 := by omega
      refine ⟨_, rfl, so, _, 1, _, rfl, rfl, SqL.of upd_same, rfl, _, rfl, so, _, 1, _, rfl, rfl, SqL.of upd_same, rfl, _, _, rfl, rfl, wide_mul (a := 31) (b := 31) zb zb (by decide) (by decide) (by decide), .inl ⟨_, rfl, _, _, rfl, rfl, by omega, ?_⟩⟩
      have q0 : 0 ≤ z * z % 2147483629 := Int.emod_nonneg _ (by omega)
      have q1 : z * z % 2147483629 < 2147483629 := Int.emod_lt_of_pos _ (by omega)
      refine ⟨_, _, rfl, rfl, ⟨by decide, by decide⟩, .inl ⟨_, rfl, _, rfl, _, _, rfl, rfl, hn, ?_⟩⟩
      exact k _ _ e1 e2 ⟨_, rfl, Int.emod_nonneg _ (by omega), Int.emod_lt_of_pos _ hn⟩
def spOne (TT : List NTab) : Sp := fun vs H Q _ => ∃ (so l : Addr) (xs : List V), vs = [.ref so, .ref l] ∧ Src H so ∧ H l = some (.lst xs) ∧ l ≠ so ∧ 0 < xs.length ∧ xs.length < 1000 ∧ RetS TT so H Q fun v _ => v ∈ xs
theorem atI_in {α : Type} {xs : List α} {m : Int} (h0 : 0 ≤ m) (h : m < xs.length) : ∃ v, atI xs m = some v ∧ v ∈ xs := by
  obtain ⟨k, rfl⟩ : ∃ k : Nat, m = (k : Int) := ⟨m.toNat, by omega⟩
  have hk : k < xs.length := by omega
  exact ⟨xs[k], atI_nat (List.getElem?_eq_getElem hk), List.getElem_mem hk⟩
theorem ok_one (T : Txt K mg) (TT : List NTab) : FnOk P w K mg base CX0 2 T.a_Lone T.d_Lone ["_law_source", "_law_things"] (spOne TT) := by
  refine T.F_Lone.ok sc_Lone (fun vs H Q E h => ?_) (fun cdv A outer s H vs Q E hr h => ?_)
  · obtain ⟨so, l, xs, rfl, _⟩ := h
    rfl
  · obtain ⟨so, l, xs, rfl, hs, hl, ne, h0, h1, k⟩ := h
    refine ⟨_, pss_one (ps_ret (pe_ix ix_list (pv 1) (pe_call (ok_take T TT) (hr.mono (by decide)) rfl T.g_Ltake T.F_Ltake.kp T.b_Ltake .nil pass0 (pa_cons (pv 0) (pa_cons (pe_callB call_len_seq (by rfl) T.n_len PySem.boot_len (pa_cons (pv 1) pa_nil)) pa_nil))) (fun _ _ => rfl))), ?_⟩
    refine ⟨_, rfl, _, rfl, _, rfl, l, _, rfl, .inl (SqL.of hl), so, _, rfl, hs, by omega, by omega, fun v H1 x1 s1 hv => ?_⟩
    obtain ⟨m, rfl, m0, m1⟩ := hv
    obtain ⟨v, hv, hm⟩ := atI_in m0 m1
    exact ⟨l, _, m, v, rfl, rfl, SqL.of (x1.lstS ne hl), hv, k _ _ x1 s1 hm⟩
theorem src_ne {H : Hp} {so l : Addr} (q : Src H so) (n : H l = none) : l ≠ so := fun z => by
  obtain ⟨_, _, e, _⟩ := q
  rw [← z, n] at e
  cases e
def spPool (K : PySem.W.Frag) (TT : List NTab) : Sp := fun vs H Q _ => ∃ (l : Addr) (ns : List Int) (k : Int), vs = [.ref l, .int k] ∧ 0 ≤ k ∧ k < 1000 ∧ SqL K H l (ns.map V.int) ∧ (∀ z ∈ ns, Builtin.Int.intBits z ≤ 1048576) ∧ Ret TT H Q fun v H' => ∃ so, v = .ref so ∧ Src H' so ∧ H so = none
theorem ok_pool (T : Txt K mg) (TT : List NTab) : FnOk P w K mg base CX0 1 T.a_Lpool T.d_Lpool ["_law_script", "_law_k"] (spPool K TT) := by
  refine T.F_Lpool.ok sc_Lpool (fun vs H Q E h => ?_) (fun cdv A outer s H vs Q E hr h => ?_)
  · obtain ⟨l, ns, k, rfl, _⟩ := h
    rfl
  · obtain ⟨l, ns, k, rfl, k0, k1, hl, hb, q⟩ := h
    have nd := sc_Lpool.nd
    refine ⟨_, pss_cons (ps_set (i := 2) nd rfl (Or.inl rfl) pe_int)
      (pss_cons (ps_if (pt_cmpR op_lt (pv 1) (pe_callB call_len_seq (by rfl) T.n_len PySem.boot_len (pa_cons (pv 0) pa_nil)) (nomark _)) (pss_one (ps_set (i := 2) nd rfl (Or.inl rfl) (pe_ix ix_list (pv 0) (pv 1) (fun _ _ => rfl))))
        (pss_one (ps_if (pt_truth (pv 0) (by intro _; rfl)) (pss_one (ps_set (i := 2) nd rfl (Or.inl rfl) (pe_ix ix_list (pv 0) pe_int (fun _ _ => rfl)))) pss_nil)))
      (pss_cons (ps_set (i := 3) nd rfl (Or.inl rfl) (pe_callB (call_max2 rfl) (by rfl) T.n_max (by decide +kernel) (pa_cons (pe_callTy call_int1 (by rfl) T.n_int (by decide +kernel) (pa_cons (pv 2) pa_nil)) (pa_cons (pe_callTy call_int1 (by rfl) T.n_int (by decide +kernel) (pa_cons (pe_op op_sub (pe_un un_neg pe_int) (pv 2)) pa_nil)) pa_nil))))
      (pss_cons (ps_set (i := 4) nd rfl (Or.inl rfl) (pe_op op_mod (pe_callTy call_int1 (by rfl) T.n_int (by decide +kernel) (pa_cons (pe_op op_mul (pe_op op_add (pe_op op_add (pe_op op_add (pe_op op_mod (pe_callTy call_int1 (by rfl) T.n_int (by decide +kernel) (pa_cons (pv 3) pa_nil)) pe_int)
          (pe_op op_mul (pe_op op_mul pe_int (pv 1)) (pv 1))) (pe_op op_mul pe_int (pv 1))) pe_int) pe_int) pa_nil)) pe_int))
      (pss_one (ps_ret (pe_lst (pa_cons (pe_op op_mul (pv 3) (pe_callTy call_int1 (by rfl) T.n_int (by decide +kernel) (pa_cons (pe_cmpR op_ge (pv 3) (pe_op op_pow pe_int pe_int) (nomark _)) pa_nil))) (pa_cons (pv 4) pa_nil)))))))), ?_⟩
    dsimp only
    refine seq_cut (fun σ H' => H = H' ∧ σ = [some (.ref l), some (.int k), some (.int 0), none, none]) (fun R join => join _ _ ⟨rfl, rfl⟩) ?_
    rintro σ _ ⟨rfl, rfl⟩
    refine seq_cut (fun σ H' => H = H' ∧ ∃ c : Int, c.natAbs < 2 ^ 1048576 ∧ σ = [some (.ref l), some (.int k), some (.int c), none, none]) (fun R join => ?_) ?_
    · refine ⟨_, rfl, _, rfl, l, _, rfl, .inl hl, _, _, rfl, rfl, _, rfl, ?_⟩
      refine iteB (fun h => ?_) (fun h => ?_)
      · have h0 : k < ((ns.map V.int).length : Nat) := of_decide_eq_true h
        rw [List.length_map] at h0
        obtain ⟨j, rfl⟩ : ∃ j : Nat, k = (j : Int) := ⟨k.toNat, by omega⟩
        have hj : j < ns.length := by omega
        refine ⟨_, rfl, _, rfl, l, _, _, .int ns[j], rfl, rfl, hl, atI_nat (by rw [List.getElem?_map, List.getElem?_eq_getElem hj]; rfl), ?_⟩
        exact join _ _ ⟨rfl, _, bits_lt (hb _ (List.getElem_mem hj)), rfl⟩
      · refine ⟨_, rfl, _, .inl ⟨_, hl, rfl⟩, ?_⟩
        cases ns with
        | nil => exact iteF' rfl (join _ _ ⟨rfl, 0, Nat.two_pow_pos _, rfl⟩)
        | cons c r =>
          refine iteT' rfl ⟨_, rfl, l, _, 0, .int c, rfl, rfl, hl, atI_nat (j := 0) rfl, ?_⟩
          exact join _ _ ⟨rfl, _, bits_lt (hb _ List.mem_cons_self), rfl⟩
    · rintro σ _ ⟨rfl, c, hcb, rfl⟩
      obtain ⟨B, hB⟩ : ∃ B : Int, B = (if (-1 - c) > c then (-1 - c) else c) := ⟨_, rfl⟩
      have B0 : 0 ≤ B := by rw [hB]; split <;> omega
      have B1 : B.natAbs ≤ (c).natAbs := by rw [hB]; split <;> omega
      have BB := big_lt hcb B1
      have kk : 0 ≤ 7919 * k ∧ 7919 * k < 2 ^ 62 := by omega
      refine ⟨_, rfl, .inl ⟨_, rfl, _, rfl, _, rfl, _, _, rfl, rfl, .inl ⟨_, rfl, c, -1 - c, rfl, ?_⟩⟩⟩
      rw [← hB]
      refine ⟨_, rfl, .inl ⟨_, rfl, _, _, rfl, rfl, (by show (0 : Int) < 2147483629; decide), _, rfl, _, _, rfl, rfl, .inl ⟨by decide, by decide⟩, _, rfl, _, _, rfl, rfl, .inl ⟨by omega, by omega⟩, _, _, rfl, rfl, _, rfl, _, _, rfl, rfl, .inl ⟨by decide, by decide⟩, _, _, rfl, rfl, _, _, rfl, rfl, _, _, rfl, rfl, .inr ⟨by decide, by decide⟩, .inl ⟨_, rfl, _, _, rfl, rfl, (by show (0 : Int) < 2147483647; decide), ?_⟩⟩⟩
      refine ⟨_, rfl, _, rfl, _, _, rfl, rfl, ⟨by decide, by decide, by decide⟩, _, _, rfl, rfl, .inr ⟨_, rfl, _, _, rfl, rfl, .inr ?_, _, rfl, (by show 2 ≤ sizeLine; decide), fun so nso => ?_⟩⟩
      · split <;> exact ⟨by decide, by decide⟩
      · refine q _ _ (Ext.new nso) ⟨so, rfl, ⟨_, _, upd_same, ?_, ?_, Int.emod_nonneg _ (by decide), Int.emod_lt_of_pos _ (by decide)⟩, nso⟩
        · split
          · rw [Int.mul_one]; exact B0
          · rw [Int.mul_zero]; exact Int.le_refl _
        · split
          · rw [Int.mul_one]; exact BB
          · rw [Int.mul_zero]; exact Nat.two_pow_pos _
end
end R
end

-- Err
section
set_option Elab.async false
set_option linter.all false
set_option maxRecDepth 100000
set_option maxHeartbeats 4000000
namespace R
open PySem PySem.Spec PyProof.Rows L2 LamX NdefX LamP
/-! ### errors -/
def spErrInit (K : PySem.W.Frag) : Sp := fun vs H Q _ => ∃ (a C : Addr) (v : V), vs = [.ref a, v] ∧ OexC K C ∧ PySem.W.findIn K (.ref C) "what" = some none ∧ H a = some (exo a C none) ∧
  ∀ dx, H dx = none → dx ≠ a → Q .non (upd (upd H dx (exd dx [("what", v)])) a (exo a C (some dx)))
/-- an error of the class at C is wished, its what as P tells -/
def Rz (TT : List NTab) (E : XK) (H : Hp) (C : Addr) (P : V → Hp → Prop) : Prop := ∀ v d H', Ext TT none H H' → H' d = some (.xd [("what", v)]) → P v H' → E (.ref C) (some d) H'
theorem Rz.step {TT : List NTab} {E : XK} {H H1 : Hp} {C : Addr} {P : V → Hp → Prop} (h : Rz TT E H C P) (x : Ext TT none H H1) : Rz TT E H1 C P := fun v d H' y => h v d H' (x.trans y)
def tErr (C : Addr) (ta : TA) : L2.St → Hp → XK → Prop := fun σ H Q => ta σ H fun vs H1 => ∃ v, vs = [v] ∧ ∀ d, H1 d = none → Q (.ref C) (some d) (upd H1 d (.xd [("what", v)]))
section
variable {P : Program} {w : World} {K : PySem.W.Frag} {mg : Str → Option Value} {base : Heap}
theorem ok_err_init (T : Txt K mg) : FnOk P w K mg base CX0 1 T.a_Refused_init T.d_Refused_init ["self", "what"] (spErrInit K) := by
  refine T.F_Refused_init.ok sc_Refused_init (fun vs H Q E h => ?_) (fun cdv A outer s H vs Q E hr h => ?_)
  · obtain ⟨a, C, v, rfl, _⟩ := h
    rfl
  · obtain ⟨a, C, v, rfl, hC, hw, ha, k⟩ := h
    refine ⟨_, pss_one (ps_ost (pv 0) (pv 1)), ?_⟩
    exact ⟨_, rfl, _, rfl, a, C, rfl, hC, hw, .inl ⟨ha, k⟩⟩
theorem pa_mono {X : Cx} {es : List Expr} {ta : TA} (ha : PA X es ta) : PA X es (fun σ H Q2 => ∃ Q1 : List V → Hp → Prop, ta σ H Q1 ∧ ∀ vs H1, Q1 vs H1 → Q2 vs H1) := by
  refine ⟨fun pos pins s σ H Q I h => ?_⟩
  obtain ⟨Q1, h1, m⟩ := h
  exact wpAny_mono (ha.run pos pins s σ H Q1 I h1) (fun us s' ⟨vs, H', I', r, q⟩ => ⟨vs, H', I', r, m _ _ q⟩) fun _ _ x => x
theorem pmk_err {X : Cx} {x : Str} {C : Addr} {e : Expr} {ta : TA} {p pos : Pos} (T : Txt X.K X.mg) (hE : ErrC X.K X.mg x T.a_Refused_init C) (hr : Room 2 X.A) (hg : Gl X x) (ha : PA X [e] ta)
    (hdb : (x == ("__debug__" : Str)) = false := by decide) (he : starEach (e :: []) X.env = (false, eval e X.env) :: starEach [] X.env := by rfl) (hpl : (backTo pos (starEach [] X.env)).any (·.1) = false := by rfl) :
    PMk X (.Call (.Name x p) [e] [] pos) (tErr C ta) := by
  have q := pmk_oex (pos := pos) (p := p) hE.ox hE.iC T.tI (ok_err_init (P := X.prog) (w := X.w) (base := X.base) T) hr T.b_Refused_init .nil pass0 hg hE.gC (pa_mono ha) hdb he hpl
  intro pins s σ H Q I h
  refine q pins s σ H Q I ?_
  refine ⟨_, h, fun vs H1 hv => ?_⟩
  obtain ⟨v, rfl, k⟩ := hv
  refine ⟨(by show 1 ≤ 1000; decide), fun a na => ?_⟩
  refine ⟨a, C, v, rfl, hE.ox, hE.nw, upd_same, fun dx nd ne => ?_⟩
  have nd1 : H1 dx = none := by
    rw [upd_ne ne] at nd
    exact nd
  refine ⟨rfl, dx, [("what", v)], upd_same, by rw [upd_ne ne]; exact upd_same, nd1, ?_⟩
  have e1 : upd (del (upd (upd (upd H1 a (exo a C none)) dx (exd dx [("what", v)])) a (exo a C (some dx))) a) dx (.xd [("what", v)]) = upd H1 dx (.xd [("what", v)]) := by
    funext b
    by_cases hb : b = dx
    · rw [hb, upd_same, upd_same]
    · rw [upd_ne hb, upd_ne hb]
      by_cases hba : b = a
      · rw [hba, del_same, na]
      · rw [del_ne hba, upd_ne hba, upd_ne hb, upd_ne hba]
  rw [e1]
  exact k dx nd1
/-- a number is refused unless it lies within lo to hi -/
def spCheckCount (T : Txt K mg) (TT : List NTab) : Sp := fun vs H Q E => ∃ n lo hi : Int, vs = [.int n, .int lo, .int hi] ∧ ((lo ≤ n ∧ n ≤ hi) → Q .non H) ∧ (¬ (lo ≤ n ∧ n ≤ hi) → Rz TT E H T.C_BadCount fun v _ => v = .int n)
theorem ok_check_count (T : Txt K mg) (TT : List NTab) : FnOk P w K mg base (L2.CX P w) 3 T.a_check_count T.d_check_count ["number", "least", "most"] (spCheckCount T TT) := by
  refine T.F_check_count.okX sc_check_count (fun vs H Q E h => ?_) (fun cdv A outer s H vs Q E hr h => ?_)
  · obtain ⟨n, lo, hi, rfl, _⟩ := h
    rfl
  · obtain ⟨n, lo, hi, rfl, k1, k2⟩ := h
    refine ⟨_, pss_one (ps_if (pt_not (pt_chain op_le op_le (pv 1) (pv 0) (pv 2)))
      (pss_one (ps_raise rfl (takes_of rfl rfl rfl rfl) (pmk_err (C := T.C_BadCount) T T.e_BadCount hr rfl (pa_cons (pv 0) pa_nil)))) pss_nil), ?_⟩
    refine ⟨_, rfl, _, rfl, _, _, rfl, rfl, _, rfl, ?_⟩
    refine iteB (fun h => ?_) (fun h => ?_)
    · refine ⟨_, rfl, _, _, rfl, rfl, _, rfl, ?_⟩
      refine iteB (fun h2 => ?_) (fun h2 => ?_)
      · have h' : ¬ (lo ≤ n ∧ n ≤ hi) := fun z => by simp at h2; omega
        exact ⟨_, rfl, _, rfl, fun d nd => k2 h' _ _ _ (Ext.new nd) upd_same rfl⟩
      · have h' : lo ≤ n ∧ n ≤ hi := ⟨by simpa using h, by simpa using h2⟩
        exact k1 h'
    · refine ⟨_, rfl, ?_⟩
      refine iteT' rfl ?_
      have h' : ¬ (lo ≤ n ∧ n ≤ hi) := fun z => by simp at h; omega
      exact ⟨_, rfl, _, rfl, fun d nd => k2 h' _ _ _ (Ext.new nd) upd_same rfl⟩
def spCheckCoats (T : Txt K mg) (TT : List NTab) : Sp := fun vs H Q E => ∃ n : Int, vs = [.int n] ∧ ((2 ≤ n ∧ n ≤ 6) → Q .non H) ∧ (¬ (2 ≤ n ∧ n ≤ 6) → Rz TT E H T.C_BadCount fun v _ => v = .int n)
theorem ok_check_coats (T : Txt K mg) (TT : List NTab) : FnOk P w K mg base (L2.CX P w) 4 T.a_check_coats T.d_check_coats ["coats"] (spCheckCoats T TT) := by
  refine T.F_check_coats.okX sc_check_coats (fun vs H Q E h => ?_) (fun cdv A outer s H vs Q E hr h => ?_)
  · obtain ⟨n, rfl, _⟩ := h
    rfl
  · obtain ⟨n, rfl, k1, k2⟩ := h
    have px : Passes (L2.CX P w) (cxOf (L2.CX P w) P w K mg base N_check_coats "check_coats" (defScope s_check_coats) T.a_check_coats cdv A outer s H E) E := passes_call (takes_of rfl rfl rfl rfl) (fun _ _ _ _ h => h)
    refine ⟨_, pss_one (ps_expr (pe_call (ok_check_count T TT) hr rfl T.g_check_count T.F_check_count.kp T.b_check_count .nil px (pa_cons (pv 0) (pa_cons (pe_glob (v := .int 2) rfl T.c_LEAST_COATS ⟨_, rfl⟩) (pa_cons (pe_glob (v := .int 6) rfl T.c_MOST_COATS ⟨_, rfl⟩) pa_nil))))), ?_⟩
    exact ⟨_, rfl, n, 2, 6, rfl, k1, k2⟩
end
end R
end

-- Comb
section
set_option Elab.async false
set_option linter.all false
set_option maxRecDepth 100000
set_option maxHeartbeats 4000000
/-! Comb: math.comb, as a rule of the hand layer. -/
namespace CombX
open PySem PySem.Spec PyProof.Rows L2
/-- numbers that are not negative, of a moderate size -/
def rComb : List V → Hp → VK → Prop := fun vs H Q => ∃ n k : Int, vs = [.int n, .int k] ∧ (0 ≤ n ∧ n < 2 ^ 64) ∧ (0 ≤ k ∧ k ≤ 9000) ∧ Q (.int (PySem.W.mcComb n k)) H
theorem cr_comb {X : Cx} : CallR X (.builtin "math.comb") rComb := by
  rintro pins s σ H vs us Q I r ⟨n, k, rfl, hn, hk, q⟩
  obtain ⟨t, u, rfl⟩ := Vals.int2 r
  exact PySem.W.mc_comb hn.1 hk.1 hn.2 (.inl hk.2) fun _ => ⟨.int _, _, I.tok _, ⟨_, rfl⟩, q⟩
end CombX
end

-- Grid
section
set_option Elab.async false
set_option linter.all false
set_option maxRecDepth 100000
set_option maxHeartbeats 4000000
/-! Grid: a list of lists of numbers, changed in place. -/
namespace GridX
open PySem PySem.Spec PyProof.Rows L2 NdefX R
def nV (n : Nat) : V := .int (n : Int)
def rowV (W : Nat) (g : Nat → Nat) : List V := (List.range W).map fun m => nV (g m)
theorem row_len (W : Nat) (g : Nat → Nat) : (rowV W g).length = W := by unfold rowV; simp
theorem row_at {W m : Nat} (g : Nat → Nat) (h : m < W) : (rowV W g)[m]? = some (nV (g m)) := by
  unfold rowV
  rw [List.getElem?_map, List.getElem?_range h] <;> rfl
theorem row_atI {W m : Nat} (g : Nat → Nat) (h : m < W) : atI (rowV W g) (m : Int) = some (nV (g m)) := atI_nat (row_at g h)
theorem row_succ (W : Nat) (g : Nat → Nat) : rowV W g ++ [nV (g W)] = rowV (W + 1) g := by
  unfold rowV
  rw [List.range_succ, List.map_append] <;> rfl
theorem row_congr {W : Nat} {g g' : Nat → Nat} (h : ∀ m, m < W → g m = g' m) : rowV W g = rowV W g' := by
  unfold rowV
  refine List.map_congr_left fun m hm => ?_
  rw [h m (List.mem_range.mp hm)]
theorem row_set {W m : Nat} (g : Nat → Nat) (v : Nat) (h : m < W) : (rowV W g).set m (nV v) = rowV W (fun x => if x = m then v else g x) := by
  apply List.ext_getElem?
  intro i
  by_cases hi : i < W
  · rw [row_at _ hi, List.getElem?_set]
    by_cases e : m = i
    · subst e
      rw [if_pos rfl, if_pos (by rw [row_len]; exact hi), if_pos rfl]
    · rw [if_neg e, row_at _ hi, if_neg (fun z => e z.symm)]
  · rw [List.getElem?_eq_none (by rw [List.length_set, row_len]; omega), List.getElem?_eq_none (by rw [row_len]; omega)]
theorem ixN_nat {n m : Nat} (h : m < n) : ixN n (m : Int) = some m := by
  unfold ixN
  rw [if_pos (by omega), if_pos (by omega)]
  simp
structure Grid (H : Hp) (a : Addr) (R W : Nat) (f : Nat → Nat → Nat) (ads : List Addr) : Prop where
  top : H a = some (.lst (ads.map V.ref))
  len : ads.length = R
  row : ∀ p r, ads[p]? = some r → H r = some (.lst (rowV W (f p)))
  nd : ads.Nodup
  out : a ∉ ads
theorem Grid.ext {TT : List NTab} {H H1 : Hp} {a : Addr} {R W : Nat} {f : Nat → Nat → Nat} {ads : List Addr} (g : Grid H a R W f ads) (x : Ext TT none H H1) : Grid H1 a R W f ads :=
  ⟨x.lst g.top, g.len, fun p r h => x.lst (g.row p r h), g.nd, g.out⟩
theorem Grid.congr {H : Hp} {a : Addr} {R W : Nat} {f f' : Nat → Nat → Nat} {ads : List Addr} (g : Grid H a R W f ads) (h : ∀ p m, p < R → m < W → f p m = f' p m) : Grid H a R W f' ads :=
  ⟨g.top, g.len, fun p r e => by
    have hp : p < R := by
      rw [← g.len]
      exact (List.getElem?_eq_some_iff.mp e).1
    rw [g.row p r e, row_congr fun m hm => h p m hp hm], g.nd, g.out⟩
/-- where the row p stands -/
theorem Grid.at {H : Hp} {a : Addr} {R W : Nat} {f : Nat → Nat → Nat} {ads : List Addr} (g : Grid H a R W f ads) {p : Nat} (h : p < R) : ∃ r, ads[p]? = some r ∧ atI (ads.map V.ref) (p : Int) = some (.ref r) ∧ H r = some (.lst (rowV W (f p))) ∧ r ∈ ads := by
  have hl : p < ads.length := by rw [g.len]; exact h
  refine ⟨ads[p], List.getElem?_eq_getElem hl, atI_nat ?_, g.row p _ (List.getElem?_eq_getElem hl), List.getElem_mem hl⟩
  rw [List.getElem?_map, List.getElem?_eq_getElem hl] <;> rfl
theorem Grid.put {H : Hp} {a r : Addr} {R W p m : Nat} {f : Nat → Nat → Nat} {ads : List Addr} (g : Grid H a R W f ads) (hp : ads[p]? = some r) (hm : m < W) (v : Nat) :
    Grid (upd H r (.lst ((rowV W (f p)).set m (nV v)))) a R W (fun p' m' => if p' = p ∧ m' = m then v else f p' m') ads := by
  have hr : r ∈ ads := List.mem_of_getElem? hp
  refine ⟨?_, g.len, fun p' r' e => ?_, g.nd, g.out⟩
  · rw [upd_ne (fun z => g.out (by rw [z]; exact hr))]
    exact g.top
  · by_cases ep : p' = p
    · subst ep
      rw [hp] at e
      cases e
      rw [upd_same, row_set _ _ hm]
      refine congrArg (fun z => some (HO.lst z)) (row_congr fun x _ => ?_)
      by_cases ex : x = m
      · rw [if_pos ex, if_pos ⟨rfl, ex⟩]
      · rw [if_neg ex, if_neg (fun z => ex z.2)]
    · have ne : r' ≠ r := fun z => by
        subst z
        obtain ⟨h1, e1⟩ := List.getElem?_eq_some_iff.mp e
        obtain ⟨h2, e2⟩ := List.getElem?_eq_some_iff.mp hp
        have q := List.pairwise_iff_getElem.mp (show ads.Pairwise (· ≠ ·) from g.nd)
        rcases Nat.lt_trichotomy p' p with lt | eq | lt
        · exact q p' p h1 h2 lt (e1.trans e2.symm)
        · exact ep eq
        · exact q p p' h2 h1 lt (e2.trans e1.symm)
      rw [upd_ne ne, g.row p' r' e]
      refine congrArg (fun z => some (HO.lst z)) (row_congr fun x _ => ?_)
      rw [if_neg (fun z => ep z.1)]
theorem Grid.push {H : Hp} {a r : Addr} {R W : Nat} {f : Nat → Nat → Nat} {ads : List Addr} (g : Grid H a R W f ads) (hn : r ∉ ads) (ha : r ≠ a) (hr : H r = some (.lst (rowV W (f R)))) :
    Grid (upd H a (.lst (ads.map V.ref ++ [.ref r]))) a (R + 1) W f (ads ++ [r]) := by
  refine ⟨?_, by rw [List.length_append, g.len] <;> rfl, fun p r' e => ?_, ?_, ?_⟩
  · rw [upd_same, List.map_append] <;> rfl
  · by_cases hp : p < ads.length
    · rw [List.getElem?_append_left hp] at e
      rw [upd_ne (fun z => g.out (by rw [← z]; exact List.mem_of_getElem? e))]
      exact g.row p r' e
    · have hp2 : p < (ads ++ [r]).length := (List.getElem?_eq_some_iff.mp e).1
      rw [List.length_append] at hp2
      have : p = ads.length := by simp only [List.length_cons, List.length_nil] at hp2; omega
      subst this
      rw [List.getElem?_append_right (Nat.le_refl _), Nat.sub_self] at e
      cases e
      rw [upd_ne ha, g.len]
      exact hr
  · rw [List.nodup_append]
    refine ⟨g.nd, by simp, fun x hx y hy z => ?_⟩
    cases List.mem_singleton.mp hy
    subst z
    exact hn hx
  · intro z
    rcases List.mem_append.mp z with z | z
    · exact g.out z
    · exact ha (List.mem_singleton.mp z).symm
end GridX
end

-- Surp
section
set_option Elab.async false
set_option linter.all false
set_option maxRecDepth 100000
set_option maxHeartbeats 4000000
namespace R
open PySem PySem.Spec PyProof.Rows L2 LamX NdefX LamP CombX GridX
/-! ### the counts, as the program makes them -/

def sumTo : Nat → (Nat → Nat) → Nat
  | 0, _ => 0
  | n + 1, g => sumTo n g + g n
def chN (n k : Nat) : Nat := (PySem.W.mcComb n k).toNat
theorem chN_eq (n k : Nat) : PySem.W.mcComb (n : Int) (k : Int) = ((chN n k : Nat) : Int) := by
  have h : 0 ≤ PySem.W.mcComb (n : Int) (k : Int) := (PySem.W.mc_comb_known (a := (n : Int)) (b := (k : Int)) (by omega) (by omega)).1
  unfold chN
  omega
theorem chN_small : ∀ c a : Fin 7, chN c.val a.val ≤ 64 := by decide +kernel
theorem chN_some : ∀ c : Fin 40, ∀ a : Fin 6, chN c.val a.val ≤ 1000000 := by decide +kernel
def sN (t m : Nat) : Nat := if t = 0 ∨ m = 0 then (if t = m then 1 else 0) else chN (t - 1) (m - 1)
theorem sN_le {t m : Nat} (h : t ≤ 40) (hm : m ≤ 6) : sN t m ≤ 1000000 := by
  unfold sN
  by_cases e : t = 0 ∨ m = 0
  · rw [if_pos e]
    split <;> omega
  · rw [if_neg e]
    exact chN_some ⟨t - 1, by omega⟩ ⟨m - 1, by omega⟩
def trm (c p m a b : Nat) : Nat := chN c a * sN p a * chN (c - a) b * sN m b
def rwN (c p m : Nat) : Nat := sumTo (c + 1) fun a => sumTo (c - a + 1) fun b => trm c p m a b
def Cnt (n : Int) : Prop := 1 ≤ n ∧ n ≤ 40
def Cts (n : Int) : Prop := 2 ≤ n ∧ n ≤ 6
/-- what surplus_count comes to -/
def surpL (l d c k : Nat) : List Nat := (List.range k).map fun i => rwN c (l - d + i) (l - d + i + d - l)
def surpN (l d c : Nat) : Nat := (surpL l d c (l - (l - d))).sum
theorem surp_succ (l d c i : Nat) : surpL l d c i ++ [rwN c (l - d + i) (l - d + i + d - l)] = surpL l d c (i + 1) := by
  unfold surpL
  rw [List.range_succ, List.map_append] <;> rfl
theorem surp_len (l d c k : Nat) : (surpL l d c k).length = k := by unfold surpL; simp
theorem sum_nV (L : List Nat) : ∃ ns : List Int, L.map nV = ns.map V.int ∧ ns.sum = ((L.sum : Nat) : Int) := by
  refine ⟨L.map Int.ofNat, by rw [List.map_map] <;> rfl, ?_⟩
  induction L with
  | nil => rfl
  | cons a r ih => rw [List.map_cons, List.sum_cons, ih, List.sum_cons, Int.natCast_add] <;> rfl
section
variable {P : Program} {w : World} {K : PySem.W.Frag} {mg : Str → Option Value} {base : Heap}
def spSumsOf : Sp := fun vs H Q _ => ∃ t m : Nat, vs = [nV t, nV m] ∧ t ≤ 40 ∧ m ≤ 6 ∧ Q (nV (sN t m)) H
theorem ok_sums_of (T : Txt K mg) (TT : List NTab) : FnOk P w K mg base CX0 1 T.a_sums_of T.d_sums_of ["total", "many"] spSumsOf := by
  refine T.F_sums_of.ok sc_sums_of (fun vs H Q E h => ?_) (fun cdv A outer s H vs Q E hr h => ?_)
  · obtain ⟨t, m, rfl, _⟩ := h
    rfl
  · obtain ⟨t, m, rfl, ht, hm, k⟩ := h
    have nd := sc_sums_of.nd
    refine ⟨_, (pss_cons (ps_if (PW.pt (pw_or (pt_cmpR op_eq (pv 0) pe_int (nomark _)) (pw_or1 (pt_cmpR op_eq (pv 1) pe_int (nomark _))))) (pss_one (ps_ret (pe_callTy call_int1 (by rfl) T.n_int (by decide +kernel) (pa_cons (pe_cmpR op_eq (pv 0) (pv 1) (nomark _)) pa_nil)))) pss_nil)
        (pss_one (ps_ret (pe_callBfun cr_comb (by rfl) T.m_comb (pa_cons (pe_op op_sub (pv 0) pe_int) (pa_cons (pe_op op_sub (pv 1) pe_int) pa_nil)))))), ?_⟩
    refine seq_cut (fun σ H' => σ = [some (nV t), some (nV m)] ∧ H = H' ∧ ¬ (t = 0 ∨ m = 0)) (fun R join => ?_) ?_
    · have stop : (t = 0 ∨ m = 0) → ∀ {G : Prop}, (Q (.int (if decide ((t : Int) = (m : Int)) = true then 1 else 0)) H → G) → G := fun e _ f => f (by
        unfold sN at k
        rw [if_pos e] at k
        by_cases z : t = m
        · rw [if_pos z] at k
          rw [if_pos (by simp [z])]
          exact k
        · rw [if_neg z] at k
          rw [if_neg (by simp; omega)]
          exact k)
      refine ⟨_, rfl, rfl, _, rfl, ?_⟩
      refine iteB (fun h => ?_) (fun h => ?_)
      · have e : t = 0 := by simp [nV] at h; omega
        refine ⟨_, rfl, _, rfl, rfl, .inr ⟨_, rfl, ?_⟩⟩
        exact stop (.inl e) (fun z => by first | exact z | simpa [nV] using z)
      · refine ⟨_, rfl, rfl, _, rfl, ?_⟩
        refine iteB (fun h2 => ?_) (fun h2 => ?_)
        · have e : m = 0 := by simp [nV] at h2; omega
          refine ⟨_, rfl, _, rfl, rfl, .inr ⟨_, rfl, ?_⟩⟩
          exact stop (.inr e) (fun z => by first | exact z | simpa [nV] using z)
        · refine join _ _ ⟨rfl, rfl, ?_⟩
          simp [nV] at h h2
          omega
    · rintro σ _ ⟨rfl, rfl, ne⟩
      unfold sN at k
      rw [if_neg ne] at k
      have e1 : (t : Int) - 1 = ((t - 1 : Nat) : Int) := by omega
      have e2 : (m : Int) - 1 = ((m - 1 : Nat) : Int) := by omega
      refine ⟨_, rfl, _, _, rfl, rfl, _, rfl, _, _, rfl, rfl, (t : Int) - 1, (m : Int) - 1, rfl, ⟨by omega, by omega⟩, ⟨by omega, by omega⟩, ?_⟩
      rw [e1, e2, chN_eq]
      exact k
def spRowsWith : Sp := fun vs H Q _ => ∃ p m c : Nat, vs = [nV p, nV m, nV c] ∧ p ≤ 40 ∧ m ≤ 40 ∧ c ≤ 6 ∧ Q (nV (rwN c p m)) H
theorem ok_rows_with (T : Txt K mg) (TT : List NTab) : FnOk P w K mg base CX0 2 T.a_rows_with T.d_rows_with ["above", "below", "coats"] spRowsWith := by
  refine T.F_rows_with.ok sc_rows_with (fun vs H Q E h => ?_) (fun cdv A outer s H vs Q E hr h => ?_)
  · obtain ⟨p, m, c, rfl, _⟩ := h
    rfl
  · obtain ⟨p, m, c, rfl, hp, hm, hc, k⟩ := h
    have nd := sc_rows_with.nd
    refine ⟨_, (pss_cons (ps_set (i := 3) nd rfl (Or.inl rfl) pe_int)
        (pss_cons (ps_for PassesOwn.never rfl (pi_range1 (by rfl) T.n_range (pa_cons (pe_op op_add (pv 2) pe_int) pa_nil)) (pg_name (i := 4) nd rfl (Or.inl rfl))
          (pss_one (ps_for PassesOwn.never rfl (pi_range1 (by rfl) T.n_range (pa_cons (pe_op op_add (pe_op op_sub (pv 2) (pv 4)) pe_int) pa_nil)) (pg_name (i := 5) nd rfl (Or.inl rfl))
          (pss_one (ps_aug (i := 3) nd rfl (Or.inl rfl) (pe_op op_mul (pe_op op_mul (pe_op op_mul (pe_callBfun cr_comb (by rfl) T.m_comb (pa_cons (pv 2) (pa_cons (pv 4) pa_nil))) (pe_call (ok_sums_of T TT) (hr.mono (by decide)) rfl T.g_sums_of T.F_sums_of.kp T.b_sums_of .nil pass0 (pa_cons (pv 0) (pa_cons (pv 4) pa_nil)))) (pe_callBfun cr_comb (by rfl) T.m_comb (pa_cons (pe_op op_sub (pv 2) (pv 4)) (pa_cons (pv 5) pa_nil)))) (pe_call (ok_sums_of T TT) (hr.mono (by decide)) rfl T.g_sums_of T.F_sums_of.kp T.b_sums_of .nil pass0 (pa_cons (pv 1) (pa_cons (pv 5) pa_nil)))) ip_add)))))
        (pss_one (ps_ret (pv 3))))), ?_⟩
    refine ⟨_, rfl, _, _, rfl, rfl, (c : Int) + 1, rfl, by omega, by omega, for_range (lo := 0) (n := ((c : Int) + 1).toNat) (fun i σ H' => ∃ u4 u5, σ = [some (nV p), some (nV m), some (nV c), some (nV (sumTo i fun a => sumTo (c - a + 1) fun b => trm c p m a b)), u4, u5] ∧ H = H') ⟨none, none, rfl, rfl⟩ ?_ ?_⟩
    · rintro i σ _ hi ⟨u4, u5, rfl, rfl⟩
      have hi' : i ≤ c := by omega
      have e0 : (0 : Int) + (i : Int) = (i : Int) := Int.zero_add _
      rw [e0]
      have ei : ((c : Int) - (i : Int) + 1) = ((c - i + 1 : Nat) : Int) := by omega
      refine ⟨_, rfl, _, rfl, _, _, rfl, rfl, _, _, rfl, rfl, (c : Int) - (i : Int) + 1, rfl, by omega, by omega, for_range (lo := 0) (n := ((c : Int) - (i : Int) + 1).toNat) (fun j σ H' => ∃ u5, σ = [some (nV p), some (nV m), some (nV c), some (nV ((sumTo i fun a => sumTo (c - a + 1) fun b => trm c p m a b) + sumTo j fun b => trm c p m i b)), some (nV i), u5] ∧ H = H') ⟨u5, rfl, rfl⟩ ?_ ?_⟩
      · rintro j σ _ hj ⟨u5, rfl, rfl⟩
        rw [show (0 : Int) + (j : Int) = (j : Int) from Int.zero_add _]
        have hj' : j ≤ c - i := by omega
        have c1 := chN_small ⟨c, by omega⟩ ⟨i, by omega⟩
        have c2 := chN_small ⟨c - i, by omega⟩ ⟨j, by omega⟩
        have z1 := sN_le (t := p) (m := i) hp (by omega)
        have z2 := sN_le (t := m) (m := j) hm (by omega)
        dsimp only at c1 c2
        have eci : (c : Int) - (i : Int) = ((c - i : Nat) : Int) := by omega
        refine ⟨_, rfl, ?_⟩
        refine ⟨_, rfl, _, rfl, (c : Int), (i : Int), rfl, ⟨by omega, by omega⟩, ⟨by omega, by omega⟩, ?_⟩
        rw [chN_eq]
        refine ⟨_, rfl, _, rfl, p, i, rfl, hp, by omega, ?_⟩
        refine ⟨_, _, rfl, rfl, .inl ⟨by omega, by omega⟩, ?_⟩
        refine ⟨_, rfl, _, rfl, _, _, rfl, rfl, _, rfl, (c : Int) - (i : Int), (j : Int), rfl, ⟨by omega, by omega⟩, ⟨by omega, by omega⟩, ?_⟩
        rw [eci, chN_eq]
        refine ⟨_, _, rfl, rfl, .inr ⟨by omega, by omega⟩, ?_⟩
        refine ⟨_, rfl, _, rfl, m, j, rfl, hm, by omega, ?_⟩
        refine ⟨_, _, rfl, rfl, .inr ⟨by omega, by omega⟩, ?_⟩
        refine ⟨_, _, rfl, rfl, some (nV j), ?_, rfl⟩
        · show [_, _, _, some (V.int _), _, _] = [_, _, _, some (V.int _), _, _]
          refine congrArg (fun z => [some (nV p), some (nV m), some (nV c), some (V.int z), some (nV i), some (nV j)]) ?_
          show _ = (((sumTo i fun a => sumTo (c - a + 1) fun b => trm c p m a b) + ((sumTo j fun b => trm c p m i b) + trm c p m i j) : Nat) : Int)
          unfold trm
          simp only [Int.natCast_add, Int.natCast_mul]
          omega
      · rintro σ _ ⟨u5, rfl, rfl⟩
        refine ⟨some (nV i), u5, ?_, rfl⟩
        · rw [ei, Int.toNat_natCast] <;> rfl
    · rintro σ _ ⟨u4, u5, rfl, rfl⟩
      refine ⟨_, rfl, ?_⟩
      rw [show ((c : Int) + 1).toNat = c + 1 by omega]
      exact k
end
end R
end

-- Surq
section
set_option Elab.async false
set_option linter.all false
set_option maxRecDepth 100000
set_option maxHeartbeats 4000000
namespace R
open PySem PySem.Spec PyProof.Rows L2 LamX NdefX LamP CombX GridX
section
variable {P : Program} {w : World} {K : PySem.W.Frag} {mg : Str → Option Value} {base : Heap}
def spSurp (T : Txt K mg) (TT : List NTab) : Sp := fun vs H Q E => ∃ l d c : Int, vs = [.int l, .int d, .int c] ∧ (¬ Cnt l → Rz TT E H T.C_BadCount fun v _ => v = .int l) ∧ (Cnt l → ¬ Cnt d → Rz TT E H T.C_BadCount fun v _ => v = .int d) ∧
  (Cnt l → Cnt d → ¬ Cts c → Rz TT E H T.C_BadCount fun v _ => v = .int c) ∧ (Cnt l → Cnt d → Cts c → RetV TT H Q (nV (surpN l.toNat d.toNat c.toNat)))
theorem ok_surplus_count (T : Txt K mg) (TT : List NTab) : FnOk P w K mg base (L2.CX P w) 5 T.a_surplus_count T.d_surplus_count ["light", "dark", "coats"] (spSurp T TT) := by
  refine T.F_surplus_count.okX sc_surplus_count (fun vs H Q E h => ?_) (fun cdv A outer s H vs Q E hr h => ?_)
  · obtain ⟨l, d, c, rfl, _⟩ := h
    rfl
  · obtain ⟨l, d, c, rfl, k1, k2, k3, k4⟩ := h
    have nd := sc_surplus_count.nd
    have px : Passes (L2.CX P w) (cxOf (L2.CX P w) P w K mg base N_surplus_count "surplus_count" (defScope s_surplus_count) T.a_surplus_count cdv A outer s H E) E := passes_call (takes_of rfl rfl rfl rfl) (fun _ _ _ _ h => h)
    refine ⟨_, (pss_cons (ps_expr (pe_call (ok_check_count T TT) (hr.mono (by decide)) rfl T.g_check_count T.F_check_count.kp T.b_check_count .nil px (pa_cons (pv 0) (pa_cons pe_int (pa_cons (pe_glob (v := .int 40) rfl T.c_MOST_CELLS ⟨_, rfl⟩) pa_nil)))))
        (pss_cons (ps_expr (pe_call (ok_check_count T TT) (hr.mono (by decide)) rfl T.g_check_count T.F_check_count.kp T.b_check_count .nil px (pa_cons (pv 1) (pa_cons pe_int (pa_cons (pe_glob (v := .int 40) rfl T.c_MOST_CELLS ⟨_, rfl⟩) pa_nil)))))
        (pss_cons (ps_expr (pe_call (ok_check_coats T TT) (hr.mono (by decide)) rfl T.g_check_coats T.F_check_coats.kp T.b_check_coats .nil px (pa_cons (pv 2) pa_nil)))
        (pss_cons (ps_set (i := 3) nd rfl (Or.inl rfl) (pe_callB (call_max2 rfl) (by rfl) T.n_max (by decide +kernel) (pa_cons pe_int (pa_cons (pe_op op_sub (pv 0) (pv 1)) pa_nil))))
        (pss_one (ps_ret (pe_callB (cr_sum rfl) (by rfl) T.n_sum (by decide +kernel) (pa_cons (pe_lc (own := [("above", 4)]) (g := gName 4) (tt := tYes) rfl nd (pi_range2 (by rfl) T.n_range (pa_cons (pv 3) (pa_cons (pv 0) pa_nil))) (blkOk_by (own := [("above", 4)]) (N := N_surplus_count) (sc := defScope s_surplus_count) (by decide +kernel)) (fun _ _ _ _ _ => (pg_name (i := 4) nd rfl (Or.inl rfl))) (fun _ _ _ _ _ => pts_nil) (fun _ _ _ _ _ => (pe_call (ok_rows_with T TT) (hr.mono (by decide)) rfl T.g_rows_with T.F_rows_with.kp T.b_rows_with .nil pass0 (pa_cons (pv 4) (pa_cons (pe_op op_add (pe_op op_sub (pv 4) (pv 0)) (pv 1)) (pa_cons (pv 2) pa_nil)))))) pa_nil)))))))), ?_⟩
    refine ⟨_, rfl, l, 1, 40, rfl, fun h1 => ?_, fun h1 => k1 h1⟩
    refine ⟨_, rfl, d, 1, 40, rfl, fun h2 => ?_, fun h2 => k2 h1 h2⟩
    refine ⟨_, rfl, c, rfl, fun h3 => ?_, fun h3 => k3 h1 h2 h3⟩
    have k := k4 h1 h2 h3
    have b1 : 1 ≤ l ∧ l ≤ 40 := h1
    have b2 : 1 ≤ d ∧ d ≤ 40 := h2
    have b3 : 2 ≤ c ∧ c ≤ 6 := h3
    obtain ⟨L, rfl⟩ : ∃ L : Nat, l = (L : Int) := ⟨l.toNat, by omega⟩
    obtain ⟨D, rfl⟩ : ∃ D : Nat, d = (D : Int) := ⟨d.toNat, by omega⟩
    obtain ⟨C, rfl⟩ : ∃ C : Nat, c = (C : Int) := ⟨c.toNat, by omega⟩
    simp only [Int.toNat_natCast] at k
    have el : (if (L : Int) - (D : Int) > 0 then (L : Int) - (D : Int) else 0) = ((L - D : Nat) : Int) := by split <;> omega
    refine ⟨_, rfl, _, rfl, _, _, rfl, rfl, _, _, rfl, ?_⟩
    rw [el]
    refine ⟨_, rfl, _, rfl, ((L - D : Nat) : Int), (L : Int), rfl, ⟨by omega, by omega, by omega, by omega⟩, fun q hq => lc_it walk_range (fun i H' => H' = upd H q (.lst ((surpL L D C i).map nV))) rfl (fun _ _ _ _ => trivial) (fun i x H1 H2 hi e y => ?_) (fun H' e => ?_)⟩
    · obtain ⟨rfl, rfl⟩ := y
      subst e
      refine ⟨rfl, ?_⟩
      dsimp only [tYes]
      refine iteT ?_
      have hi' : L - D + i < L := by omega
      have ea : ((L - D : Nat) : Int) + (i : Int) = ((L - D + i : Nat) : Int) := by omega
      have eb : (((L - D + i : Nat) : Int) - (L : Int) + (D : Int)) = ((L - D + i + D - L : Nat) : Int) := by omega
      rw [ea]
      refine ⟨_, rfl, _, rfl, _, rfl, _, _, rfl, rfl, _, rfl, _, _, rfl, rfl, _, rfl, L - D + i, L - D + i + D - L, C, ?_, by omega, by omega, by omega, ?_⟩
      · show [V.int _, V.int _, V.int _] = [V.int _, V.int _, V.int _]
        rw [eb]
      · refine ⟨_, upd_same, by rw [List.length_map, surp_len]; exact small1000 (by omega), ?_⟩
        rw [upd_upd, ← surp_succ, List.map_append] <;> rfl
    · subst e
      obtain ⟨ns, e1, e2⟩ := sum_nV (surpL L D C (L - (L - D)))
      refine ⟨q, ns, rfl, SqL.of ?_, ?_⟩
      · rw [upd_same, ← e1, show ((L : Int) - ((L - D : Nat) : Int)).toNat = L - (L - D) by omega]
      · rw [e2]
        exact k _ (Ext.new hq)
end
end R
end

-- Blk
section
set_option Elab.async false
set_option linter.all false
set_option maxRecDepth 100000
set_option maxHeartbeats 4000000
/-! Blk: rules that speak of the written part, with that part named: for the insides of comprehensions. -/
namespace BlkX
open PySem PySem.Spec PyProof.Rows L2
variable {X : Cx} (K : PySem.W.Frag)
theorem ixl (h : X.K = K := by rfl) : IxR X (rIxL K) := h ▸ ix_list
theorem ixt (h : X.K = K := by rfl) : IxR X (rIxT K) := h ▸ ix_tup
theorem csum (hc : X.calm = true := by rfl) (h : X.K = K := by rfl) : CallR X (.builtin "sum") (rSum K) := h ▸ cr_sum hc
theorem call (hc : X.calm = true := by rfl) (h : X.K = K := by rfl) : CallR X (.builtin "all") (rAll K) := h ▸ cr_all hc
theorem cany (hc : X.calm = true := by rfl) (h : X.K = K := by rfl) : CallR X (.builtin "any") (rAny K) := h ▸ cr_any hc
def rLen : List V → Hp → VK → Prop := fun xs H Q => ∃ p ys, xs = [.ref p] ∧ (SqL K H p ys ∨ SqT K H p ys) ∧ Q (.int ys.length) H
theorem clen (h : X.K = K := by rfl) : CallR X (.builtin "len") (rLen K) := by
  subst h
  exact call_len_seq
def rTupO : List V → Hp → VK → Prop := fun xs H Q => ∃ p ys, xs = [.ref p] ∧ ((SqL K H p ys ∧ ∀ l, H l = none → Q (.ref l) (upd H l (.tup ys))) ∨ (SqT K H p ys ∧ Q (.ref p) H))
theorem ctup (h : X.K = K := by rfl) : CallR X (.type "tuple") (rTupO K) := by
  subst h
  exact call_tuple_of
theorem pil {tg l : Expr} {tl : TE} (hl : PE X l tl) (h : X.K = K := by rfl) : PI X tg l (iList K tl) := h ▸ pi_list hl
theorem pit {tg l : Expr} {tl : TE} (hl : PE X l tl) (h : X.K = K := by rfl) : PI X tg l (iTup K tl) := h ▸ pi_tup hl
theorem sll (h : X.K = K := by rfl) : SlR X (rSlL K) := h ▸ sl_list
theorem slt (h : X.K = K := by rfl) : SlR X (rSlA K) := h ▸ sl_tupA
theorem catT (h : X.K = K := by rfl) : OpR X (binaryOp .Add) (rCatT K) := h ▸ op_catT
def tTru (ta : TE) : TT := fun σ H Q => ta σ H fun x H' => ∃ k, TruV K x H' k ∧ Q k H'
theorem ptru {a : Expr} {ta : TE} (ha : PE X a ta) (he : ∀ whole, isTrue a X.env whole = (do let v ← whole; standAt a.pos; holding [v] (truthy v)) := by intro _; rfl) (h : X.K = K := by rfl) : PT X a (tTru K ta) := h ▸ pt_truth ha he
end BlkX
end

-- TupSum
section
set_option Elab.async false
set_option linter.all false
set_option maxRecDepth 100000
set_option maxHeartbeats 4000000
/-! TupSum: sum(t), t a tuple of whole numbers; a tuple behind a tuple; data of rows of numbers. -/
namespace TupX
open PySem PySem.Spec PyProof.Rows L2 NdefX R
def rSumT (K : PySem.W.Frag) : List V → Hp → VK → Prop := fun vs H Q => ∃ (t : Addr) (ns : List Int), vs = [V.ref t] ∧ SqT K H t (ns.map V.int) ∧ Q (.int ns.sum) H
theorem csumT {X : Cx} (K : PySem.W.Frag) (hc : X.calm = true := by rfl) (hK : X.K = K := by rfl) : CallR X (.builtin "sum") (rSumT K) := by
  subst hK
  rintro pins s σ H vs us Q I r ⟨t, ns, rfl, ht, q⟩
  obtain ⟨its, vi, at_, _⟩ := I.tuple ht
  cases Vals.ref1 r
  obtain ⟨prs, e⟩ := (Vals.ints vi).allInts.items
  have total : numsOf (intItems prs).toList = ns := by
    rw [← e]
    exact (Vals.ints vi).numsOf
  rw [nums_intItems] at total
  have tup : s.heap.IsTuple t (intItems prs) := by
    rw [← e]
    obtain ⟨o, h1, h2, n, h3⟩ := at_
    exact ⟨o, h1, h2, n, h3⟩
  refine PySem.W.ktm_sumG (I.ok.hd hc) tup (fun h' tk t' up => ⟨.int ns.sum, H, I.kept up, ⟨t', ?_⟩, q⟩)
  rw [preSum_eq, List.take_of_length_le (by simp), total]
/-- a row of whole numbers, as data -/
def rowD (r : List Nat) : PyData := .tuple (r.map fun (n : Nat) => .int (n : Int))
def rowsD (L : List (List Nat)) : List PyData := L.map rowD
theorem tps_nats {H : Hp} : ∀ {vs : List V} {r : List Nat}, Tps H vs (r.map fun (n : Nat) => PyData.int (n : Int)) → vs = (r.map Int.ofNat).map V.int
  | _, [], h => by
    cases h
    rfl
  | _, n :: r, h => by
    cases h with
    | cons h1 h2 =>
      cases h1
      rw [tps_nats h2] <;> rfl
theorem nats_tps {H : Hp} : ∀ r : List Nat, Tps H ((r.map Int.ofNat).map V.int) (r.map fun (n : Nat) => PyData.int (n : Int))
  | [] => .nil
  | n :: r => .cons (.int _) (nats_tps r)
theorem row_at {H : Hp} {v : V} {r : List Nat} (h : Tp H v (rowD r)) : ∃ a, v = .ref a ∧ H a = some (.tup ((r.map Int.ofNat).map V.int)) := by
  cases h with
  | tup h t =>
    rw [tps_nats t] at h
    exact ⟨_, rfl, h⟩
theorem row_tp {H : Hp} {a : Addr} {r : List Nat} (h : H a = some (.tup ((r.map Int.ofNat).map V.int))) : Tp H (.ref a) (rowD r) := .tup h (nats_tps r)
theorem sum_nats : ∀ r : List Nat, (r.map Int.ofNat).sum = ((r.sum : Nat) : Int)
  | [] => rfl
  | n :: r => by
    rw [List.map_cons, List.sum_cons, sum_nats r, List.sum_cons, Int.natCast_add] <;> rfl
/-- a row of whole numbers of any sign, as data -/
def rowI (r : List Int) : PyData := .tuple (r.map PyData.int)
def rowsI' (L : List (List Int)) : List PyData := L.map rowI
theorem rowI_at {H : Hp} {v : V} {r : List Int} (h : Tp H v (rowI r)) : ∃ a, v = .ref a ∧ H a = some (.tup (r.map V.int)) := by
  cases h with
  | tup h t =>
    rw [Tps.ints_of t] at h
    exact ⟨_, rfl, h⟩
theorem rowI_tp {H : Hp} {a : Addr} {r : List Int} (h : H a = some (.tup (r.map V.int))) : Tp H (.ref a) (rowI r) := .tup h (Tps.ints r)
/-- a list of such rows -/
def IsRowsI (H : Hp) (l : Addr) (L : List (List Int)) : Prop := ∃ vs, H l = some (.lst vs) ∧ Tps H vs (rowsI' L)
theorem rowsI_len {H : Hp} {vs : List V} {L : List (List Int)} (h : Tps H vs (rowsI' L)) : vs.length = L.length := by
  rw [h.length]
  unfold rowsI'
  rw [List.length_map]
theorem rowsI_get {H : Hp} {vs : List V} {L : List (List Int)} {j : Nat} {x : V} (h : Tps H vs (rowsI' L)) (e : vs[j]? = some x) : ∃ r, L[j]? = some r ∧ Tp H x (rowI r) := by
  obtain ⟨d, h1, h2⟩ := h.get e
  unfold rowsI' at h1
  rw [List.getElem?_map] at h1
  cases er : L[j]? with
  | none => rw [er] at h1; cases h1
  | some r =>
    rw [er] at h1
    cases h1
    exact ⟨r, rfl, h2⟩
theorem rowsI_append (A B : List (List Int)) : rowsI' (A ++ B) = rowsI' A ++ rowsI' B := by
  unfold rowsI'
  rw [List.map_append]
/-- t + u, whichever is empty -/
def rCatK (K : PySem.W.Frag) : R2 := rCatA K
theorem catAK {X : Cx} (K : PySem.W.Frag) (h : X.K = K := by rfl) : OpR X (binaryOp .Add) (rCatA K) := h ▸ op_catA
/-- a tuple and a tuple behind it: whichever way, a tuple of both -/
theorem cat_tup {K : PySem.W.Frag} {TT : List NTab} {H : Hp} {l b : Addr} {xs zs : List V} {Q : VK} (hx : H l = some (.tup xs)) (hz : H b = some (.tup zs)) (small : xs.length + zs.length ≤ sizeLine)
    (h : ∀ q G, Ext TT none H G → G q = some (.tup (xs ++ zs)) → Q (.ref q) G) : rCatA K (.ref l) (.ref b) H Q := by
  refine ⟨l, b, xs, zs, rfl, rfl, SqT.of hx, SqT.of hz, small, fun e => ?_, fun _ e => ?_, fun _ _ p np => ?_⟩
  · subst e
    exact h b H (Ext.refl ..) hz
  · subst e
    rw [List.append_nil] at h
    exact h l H (Ext.refl ..) hx
  · exact h p _ (Ext.new np) upd_same
end TupX
end

-- Splits
section
set_option Elab.async false
set_option linter.all false
set_option maxRecDepth 100000
set_option maxHeartbeats 4000000
namespace R
open PySem PySem.Spec PyProof.Rows L2 LamX NdefX LamP CombX BlkX GridX TupX
/-! ### all rows of so many numbers with one sum -/
def spF (t : Nat) (r : List Nat) : List (List Nat) := (List.range (t - r.sum + 1)).map fun k => r ++ [k]
def spStep (t : Nat) (rows : List (List Nat)) : List (List Nat) := rows.flatMap (spF t)
def spRows (t : Nat) : Nat → List (List Nat)
  | 0 => [[]]
  | k + 1 => spStep t (spRows t k)
def splits (c t : Nat) : List (List Nat) := (spRows t (c - 1)).map fun r => r ++ [t - r.sum]
theorem sp_sum (t : Nat) : ∀ k, ∀ r ∈ spRows t k, r.sum ≤ t ∧ r.length = k
  | 0, r, h => by
    cases List.mem_singleton.mp h
    exact ⟨Nat.zero_le _, rfl⟩
  | k + 1, r, h => by
    obtain ⟨q, hq, hr⟩ := List.mem_flatMap.mp (show r ∈ (spRows t k).flatMap (spF t) from h)
    obtain ⟨n, hn, rfl⟩ := List.mem_map.mp (show r ∈ (List.range (t - q.sum + 1)).map fun k => q ++ [k] from hr)
    have := sp_sum t k q hq
    have hn := List.mem_range.mp hn
    rw [List.sum_append, List.length_append]
    simp only [List.sum_cons, List.sum_nil, List.length_cons, List.length_nil]
    omega
theorem sp_few : ∀ t : Fin 5, ∀ k : Fin 7, (spRows t.val k.val).length ≤ 300 := by decide +kernel
theorem take_len_flat (t : Nat) (L : List (List Nat)) (j : Nat) : ((L.take j).flatMap (spF t)).length ≤ (L.flatMap (spF t)).length := by
  have e : L.flatMap (spF t) = (L.take j).flatMap (spF t) ++ (L.drop j).flatMap (spF t) := by rw [← List.flatMap_append, List.take_append_drop]
  rw [e, List.length_append]
  omega
theorem take_flat {t : Nat} {L : List (List Nat)} {j : Nat} {r : List Nat} (h : L[j]? = some r) : (L.take (j + 1)).flatMap (spF t) = (L.take j).flatMap (spF t) ++ spF t r := by
  rw [List.take_succ, h, List.flatMap_append]
  simp
section
variable {P : Program} {w : World} {K : PySem.W.Frag} {mg : Str → Option Value} {base : Heap}
/-- a list of rows of numbers -/
def IsRows (H : Hp) (l : Addr) (L : List (List Nat)) : Prop := ∃ vs, H l = some (.lst vs) ∧ Tps H vs (rowsD L)
theorem IsRows.len {H : Hp} {vs : List V} {L : List (List Nat)} (h : Tps H vs (rowsD L)) : vs.length = L.length := by
  rw [h.length]
  unfold rowsD
  rw [List.length_map]
theorem rows_get {H : Hp} {vs : List V} {L : List (List Nat)} {j : Nat} {x : V} (h : Tps H vs (rowsD L)) (e : vs[j]? = some x) : ∃ r, L[j]? = some r ∧ Tp H x (rowD r) := by
  obtain ⟨d, h1, h2⟩ := h.get e
  unfold rowsD at h1
  rw [List.getElem?_map] at h1
  cases er : L[j]? with
  | none => rw [er] at h1; cases h1
  | some r =>
    rw [er] at h1
    cases h1
    exact ⟨r, rfl, h2⟩
theorem rowsD_append (A B : List (List Nat)) : rowsD (A ++ B) = rowsD A ++ rowsD B := by
  unfold rowsD
  rw [List.map_append]
def spSplits (TT : List NTab) : Sp := fun vs H Q _ => ∃ c t : Nat, vs = [nV c, nV t] ∧ 2 ≤ c ∧ c ≤ 6 ∧ t ≤ 4 ∧ ∀ (l : Addr) (H' : Hp), Ext TT none H H' → IsRows H' l (splits c t) → Q (.ref l) H'
theorem ok_splits (T : Txt K mg) (TT : List NTab) : FnOk P w K mg base CX0 1 T.a_Lsplits T.d_Lsplits ["_law_many", "_law_total"] (spSplits TT) := by
  refine T.F_Lsplits.ok sc_Lsplits (fun vs H Q E h => ?_) (fun cdv A outer s H vs Q E hr h => ?_)
  · obtain ⟨c, t, rfl, _⟩ := h
    rfl
  · obtain ⟨c, t, rfl, hc1, hc2, ht, k⟩ := h
    have nd := sc_Lsplits.nd
    refine ⟨_, (pss_cons (ps_set (i := 2) nd rfl (Or.inl rfl) (pe_lst (pa_cons (pe_tup pa_nil) pa_nil)))
        (pss_cons (ps_for PassesOwn.never rfl (pi_range1 (by rfl) T.n_range (pa_cons (pe_op op_sub (pv 0) pe_int) pa_nil)) (pg_name (i := 3) nd rfl (Or.inl rfl))
          (pss_cons (ps_set (i := 4) nd rfl (Or.inl rfl) (pe_lst pa_nil))
        (pss_cons (ps_for PassesOwn.never rfl (pi_list (pv 2)) (pg_name (i := 5) nd rfl (Or.inr rfl))
          (pss_one (ps_expr (pe_bm PySem.F.plainAttrs_list PySem.F.slot_list_extend PySem.F.type_list_extend mt_extend (pv 4) (pa_cons (pe_lc (own := [("_law_k", 6)]) (g := gName 6) (tt := tYes) rfl nd (pi_range1 (by rfl) T.n_range (pa_cons (pe_op op_add (pe_op op_sub (pv 1) (pe_callB (TupX.csumT K) (by rfl) T.n_sum (by decide +kernel) (pa_cons (pv 5) pa_nil))) pe_int) pa_nil)) (blkOk_by (own := [("_law_k", 6)]) (N := N_Lsplits) (sc := defScope s_Lsplits) (by decide +kernel)) (fun _ _ _ _ _ => (pg_name (i := 6) nd rfl (Or.inl rfl))) (fun _ _ _ _ _ => pts_nil) (fun _ _ _ _ _ => (pe_op (TupX.catAK K) (pv 5) (pe_tup (pa_cons (pv 6) pa_nil))))) pa_nil)))))
        (pss_one (ps_set (i := 2) nd rfl (Or.inl rfl) (pv 4))))))
        (pss_one (ps_ret (pe_lc (own := [("_law_row", 5)]) (g := gName 5) (tt := tYes) rfl nd (pi_list (pv 2)) (blkOk_by (own := [("_law_row", 5)]) (N := N_Lsplits) (sc := defScope s_Lsplits) (by decide +kernel)) (fun _ _ _ _ _ => (pg_name (i := 5) nd rfl (Or.inl rfl))) (fun _ _ _ _ _ => pts_nil) (fun _ _ _ _ _ => (pe_op (TupX.catAK K) (pv 5) (pe_tup (pa_cons (pe_op op_sub (pv 1) (pe_callB (TupX.csumT K) (by rfl) T.n_sum (by decide +kernel) (pa_cons (pv 5) pa_nil))) pa_nil))))))))), ?_⟩
    have one : 1 ≤ sizeLine := by decide
    have zer : 0 ≤ sizeLine := Nat.zero_le _
    refine ⟨zer, fun p0 n0 => ⟨one, fun l0 nl0 => ?_⟩⟩
    obtain ⟨x0, h0⟩ := newX (TT := TT) (so := none) (o := .lst [V.ref p0]) (Ext.new (T := TT) (so := none) (o := .tup []) n0) nl0
    have r0 : IsRows _ l0 (spRows t 0) := ⟨_, h0, .cons (.tup (xs := []) (ds := []) ((upd_ne (ne_of_none upd_same nl0)).trans upd_same) .nil) .nil⟩
    generalize upd _ l0 _ = H0 at x0 h0 r0 ⊢
    have few : ∀ i, i ≤ 6 → (spRows t i).length ≤ 300 := fun i hi => sp_few ⟨t, by omega⟩ ⟨i, by omega⟩
    refine ⟨_, rfl, _, _, rfl, rfl, (c : Int) - 1, rfl, by omega, by omega, for_range (lo := 0) (n := ((c : Int) - 1).toNat) (fun i σ H' => ∃ (l : Addr) (u3 u4 u5 : Option V), σ = [some (nV c), some (nV t), some (.ref l), u3, u4, u5, none] ∧ Ext TT none H H' ∧ IsRows H' l (spRows t i)) ⟨l0, none, none, none, rfl, x0, r0⟩ ?_ ?_⟩
    · rintro i σ H1 hi ⟨l, u3, u4, u5, rfl, x1, vs, hl, hvs⟩
      have fi := few i (by omega)
      have fi1 := few (i + 1) (by omega)
      have lv := IsRows.len hvs
      refine ⟨zer, fun l2 nl2 => ?_⟩
      obtain ⟨x2, h2⟩ := newX (TT := TT) (so := none) (o := .lst []) (Ext.refl _ _ H1) nl2
      refine ⟨_, rfl, l, rfl, ⟨_, SqL.of (x2.lst hl)⟩, for_list (xs := vs) (fun j σ H' => ∃ (u5 : Option V), σ = [some (nV c), some (nV t), some (.ref l), some (.int (0 + (i : Int))), some (.ref l2), u5, none] ∧ Ext TT none H1 H' ∧ IsRows H' l2 (((spRows t i).take j).flatMap (spF t))) ⟨u5, rfl, x2, ⟨[], h2, .nil⟩⟩ ?_ ?_ ?_⟩
      · rintro j σ H2 _ ⟨u5, rfl, x2, _⟩
        exact SqL.of (x2.lst hl)
      · rintro j x σ H2 hx ⟨u5, rfl, x2, ws, hw, hws⟩
        obtain ⟨r, er, hr0⟩ := rows_get hvs hx
        have rmem := List.mem_of_getElem? er
        obtain ⟨rs, _⟩ := sp_sum t i r rmem
        obtain ⟨b, rfl, hb⟩ := row_at (hr0.mono x2.tk)
        have em : (t : Int) - ((r.sum : Nat) : Int) + 1 = ((t - r.sum + 1 : Nat) : Int) := by omega
        refine ⟨_, rfl, Or.inl ⟨rfl, _, SqL.of hw⟩, ?_⟩
        refine ⟨_, rfl, _, rfl, b, r.map Int.ofNat, rfl, SqT.of hb, ?_⟩
        rw [sum_nats]
        refine ⟨_, _, rfl, rfl, _, _, rfl, rfl, (t : Int) - ((r.sum : Nat) : Int) + 1, rfl, by omega, by omega, fun D hD => ?_⟩
        rw [em, Int.toNat_natCast]
        refine lc_it walk_range (fun q H' => Ext TT none H2 H' ∧ IsRows H' D ((List.range q).map fun k => r ++ [k])) ⟨Ext.new hD, ⟨[], upd_same, .nil⟩⟩ (fun _ _ _ _ => trivial) (fun q x H4 H3 hq e y => ?_) (fun H3 e => ?_)
        · obtain ⟨rfl, rfl⟩ := y
          obtain ⟨x3, zs, hz, hzs⟩ := e
          have lz := IsRows.len hzs
          refine ⟨rfl, ?_⟩
          dsimp only [tYes]
          refine iteT ?_
          refine ⟨_, rfl, _, rfl, one, fun p np => ?_⟩
          have hb3 : upd H3 p (.tup [.int (0 + (q : Int))]) b = some (.tup ((r.map Int.ofNat).map V.int)) := (upd_ne (ne_of_none (x3.tup hb) np)).trans (x3.tup hb)
          refine cat_tup (TT := TT) hb3 upd_same (by rw [List.length_map, List.length_map]; exact Nat.le_of_lt (small1000 (by
            have := (sp_sum t i r rmem).2
            simp only [List.length_cons, List.length_nil]
            omega))) (fun q2 G xG hG => ?_)
          have x4 := (Ext.new (T := TT) (so := none) (o := .tup [.int (0 + (q : Int))]) np).trans xG
          have hD4 := x4.lst hz
          refine ⟨_, hD4, small1000 (by rw [lz, List.length_map, List.length_range]; omega), (x3.trans x4).mutL hD hD4 (fun z => nomatch z), _, upd_same, ?_⟩
          rw [List.range_succ, List.map_append, rowsD_append]
          refine ((hzs.mono x4.tk).mono (TK.lst hD4)).append (.cons ?_ .nil)
          refine (row_tp ?_).mono (TK.lst hD4)
          rw [hG, List.map_append, List.map_append, Int.zero_add] <;> rfl
        · obtain ⟨x3, zs, hz, hzs⟩ := e
          have lz := IsRows.len hzs
          have hw3 := x3.lst hw
          have lw := IsRows.len hws
          have full : (((spRows t i).take j).flatMap (spF t)).length ≤ 300 := Nat.le_trans (take_len_flat t _ j) fi1
          have lD : l2 ≠ D := ne_of_none hw hD
          refine ⟨l2, D, ws, zs, rfl, rfl, hw3, hz, ?_, _, rfl, (x2.trans x3).mutL nl2 hw3 (fun z => nomatch z), _, upd_same, ?_⟩
          · rw [lw, lz, List.length_map, List.length_range]
            exact Nat.le_of_lt (small1000 (by omega))
          · rw [take_flat er, rowsD_append]
            exact ((hws.mono x3.tk).mono (TK.lst hw3)).append (hzs.mono (TK.lst hw3))
      · rintro σ H2 ⟨u5, rfl, x2, hw⟩
        rw [lv, List.take_length] at hw
        exact ⟨_, rfl, l2, _, _, _, rfl, x1.trans x2, hw⟩
    · rintro σ H1 ⟨l, u3, u4, u5, rfl, x1, vs, hl, hvs⟩
      rw [show ((c : Int) - 1).toNat = c - 1 by omega] at hvs
      have lv := IsRows.len hvs
      have fi := few (c - 1) (by omega)
      refine ⟨_, rfl, l, rfl, ⟨_, SqL.of hl⟩, fun D hD => lc_it (walk_list (xs := vs)) (fun j H' => Ext TT none H1 H' ∧ IsRows H' D (((spRows t (c - 1)).take j).map fun r => r ++ [t - r.sum])) ⟨Ext.new hD, ⟨[], upd_same, .nil⟩⟩ ?_ (fun j x H3 H2 hj e y => ?_) (fun H2 e => ?_)⟩
      · rintro j H' _ ⟨x2, _⟩
        exact SqL.of (x2.lst hl)
      · obtain ⟨rfl, y⟩ := y
        obtain ⟨x2, zs, hz, hzs⟩ := e
        obtain ⟨r, er, hr0⟩ := rows_get hvs y
        have rmem := List.mem_of_getElem? er
        obtain ⟨rs, rl⟩ := sp_sum t (c - 1) r rmem
        obtain ⟨b, rfl, hb⟩ := row_at (hr0.mono x2.tk)
        have lz := IsRows.len hzs
        refine ⟨rfl, ?_⟩
        dsimp only [tYes]
        refine iteT ?_
        refine ⟨_, rfl, _, rfl, _, rfl, b, r.map Int.ofNat, rfl, SqT.of hb, ?_⟩
        rw [sum_nats]
        refine ⟨_, _, rfl, rfl, one, fun p np => ?_⟩
        have hb3 : upd H2 p (.tup [.int ((t : Int) - ((r.sum : Nat) : Int))]) b = some (.tup ((r.map Int.ofNat).map V.int)) := (upd_ne (ne_of_none hb np)).trans hb
        refine cat_tup (TT := TT) hb3 upd_same (by rw [List.length_map, List.length_map, rl]; exact Nat.le_of_lt (small1000 (by
            simp only [List.length_cons, List.length_nil]
            omega))) (fun q2 G xG hG => ?_)
        have x4 := (Ext.new (T := TT) (so := none) (o := .tup [.int ((t : Int) - ((r.sum : Nat) : Int))]) np).trans xG
        have hD4 := x4.lst hz
        refine ⟨_, hD4, small1000 (by rw [lz, List.length_map, List.length_take]; omega), (x2.trans x4).mutL hD hD4 (fun z => nomatch z), _, upd_same, ?_⟩
        rw [show ((spRows t (c - 1)).take (j + 1)) = (spRows t (c - 1)).take j ++ [r] by rw [List.take_succ, er] <;> rfl, List.map_append, rowsD_append]
        refine ((hzs.mono x4.tk).mono (TK.lst hD4)).append (.cons ?_ .nil)
        refine (row_tp ?_).mono (TK.lst hD4)
        rw [hG, List.map_append, List.map_append]
        exact congrArg (fun z => some (HO.tup (((r.map Int.ofNat).map V.int) ++ [V.int z]))) (show (t : Int) - ((r.sum : Nat) : Int) = ((t - r.sum : Nat) : Int) by omega)
      · obtain ⟨x2, zs, hz, hzs⟩ := e
        rw [lv, List.take_length] at hzs
        exact k D H2 (x1.trans x2) ⟨zs, hz, hzs⟩
end
end R
end

-- Due
section
set_option Elab.async false
set_option linter.all false
set_option maxRecDepth 100000
set_option maxHeartbeats 4000000
namespace R
open PySem PySem.Spec PyProof.Rows L2 LamX NdefX LamP CombX BlkX GridX TupX
/-! ### the unlike surpluses, kept in a dict -/
/-- coat by coat: the first row less the other one -/
def dif (c : Nat) (r o : List Nat) : List Int := (List.range c).map fun i => (((r.getD i 0 : Nat) : Int) - ((o.getD i 0 : Nat) : Int))
/-- one more key, if it is new -/
def keep (acc : List (List Int)) (k : List Int) : List (List Int) := if acc.any (fun q => decide (q = k)) = true then acc else acc ++ [k]
def keepRow (c : Nat) (B : List (List Nat)) (acc : List (List Int)) (r : List Nat) : List (List Int) := (B.map (dif c r)).foldl keep acc
def keepAll (c : Nat) (A B : List (List Nat)) : List (List Int) := A.foldl (keepRow c B) []
theorem keep_le (acc : List (List Int)) (k : List Int) : (keep acc k).length ≤ acc.length + 1 := by
  unfold keep
  split
  · omega
  · rw [List.length_append] <;> exact Nat.le_refl _
def kvsOf (acc : List (List Int)) : List (List Key × V) := acc.map fun k => (k.map Sum.inl, V.int 1)
theorem inl_inj : ∀ {a b : List Int}, a.map (Sum.inl : Int → Key) = b.map Sum.inl → a = b
  | [], [], _ => rfl
  | x :: a, y :: b, h => by
    rw [List.map_cons, List.map_cons] at h
    injection h with h1 h2
    injection h1 with h1
    rw [h1, inl_inj h2]
  | [], _ :: _, h => by cases h
  | _ :: _, [], h => by cases h
theorem put_keep (acc : List (List Int)) (k : List Int) : putK (kvsOf acc) (k.map Sum.inl) (V.int 1) = kvsOf (keep acc k) := by
  have e : ((kvsOf acc).any fun kv => decide (kv.1 = k.map Sum.inl)) = acc.any fun q => decide (q = k) := by
    unfold kvsOf
    rw [List.any_map]
    refine List.any_congr rfl fun q => ?_
    show decide (q.map Sum.inl = k.map Sum.inl) = decide (q = k)
    by_cases z : q = k
    · rw [z, decide_eq_true rfl, decide_eq_true rfl]
    · rw [decide_eq_false z, decide_eq_false (fun y => z (inl_inj y))]
  unfold putK keep
  rw [e]
  by_cases z : acc.any (fun q => decide (q = k)) = true
  · rw [if_pos z, if_pos z]
    unfold kvsOf
    rw [List.map_map]
    refine List.map_congr_left fun q _ => ?_
    show (if q.map Sum.inl = k.map Sum.inl then ((q.map Sum.inl : List Key), V.int 1) else (q.map Sum.inl, V.int 1)) = _
    split <;> rfl
  · rw [if_neg z, if_neg z]
    unfold kvsOf
    rw [List.map_append] <;> rfl
section
variable {P : Program} {w : World} {K : PySem.W.Frag} {mg : Str → Option Value} {base : Heap}
theorem sp_len (c t : Nat) (hc : 1 ≤ c) : ∀ r ∈ splits c t, r.length = c := by
  intro r h
  obtain ⟨q, hq, rfl⟩ := List.mem_map.mp (show r ∈ (spRows t (c - 1)).map fun r => r ++ [t - r.sum] from h)
  rw [List.length_append, (sp_sum t (c - 1) q hq).2]
  simp only [List.length_cons, List.length_nil]
  omega
theorem sp_many {c t : Nat} (hc : c ≤ 6) (ht : t ≤ 4) : (splits c t).length ≤ 300 := by
  unfold splits
  rw [List.length_map]
  exact sp_few ⟨t, by omega⟩ ⟨c - 1, by omega⟩
theorem Ext.mutSo {TT : List NTab} {D : Addr} {H H1 : Hp} {u o : HO} (x : Ext TT (some D) H H1) (h1 : H1 D = some u) (nt : ∀ ps, u ≠ .tbl ps) (nc : ∀ c q, u ≠ CodeO c q) (ns : ¬ Src H D) : Ext TT (some D) H (upd H1 D o) :=
  ⟨fun b w nb t e => by
    rw [upd_ne (fun z => nb (by rw [z]))]
    exact x.kp b w nb t e, fun h => by
    have q := x.tb h
    intro t ht
    obtain ⟨ps, a1, a2, a3⟩ := q t ht
    refine ⟨ps, by rw [upd_ne (ne_of a1 h1 (Ne.symm (nt ps)))]; exact a1, a2, fun pos cv hc => ?_⟩
    obtain ⟨c, e1, e2⟩ := a3 pos cv hc
    exact ⟨c, e1, by rw [upd_ne (ne_of e2 h1 (Ne.symm (nc c _)))]; exact e2⟩, fun b e q => by
    cases e
    exact absurd q ns, fun b e => x.fr b (upd_none' e)⟩
def spDue (TT : List NTab) : Sp := fun vs H Q _ => ∃ u d c : Nat, vs = [nV u, nV d, nV c] ∧ 2 ≤ c ∧ c ≤ 6 ∧ 1 ≤ u ∧ 1 ≤ d ∧ u ≤ 5 ∧ d ≤ 5 ∧ RetV TT H Q (nV (keepAll c (splits c (u - 1)) (splits c (d - 1))).length)
theorem keepRow_le (c : Nat) (B : List (List Nat)) : ∀ (L : List (List Int)) (acc : List (List Int)), (L.foldl keep acc).length ≤ acc.length + L.length
  | [], acc => Nat.le_refl _
  | k :: r, acc => by
    have := keepRow_le c B r (keep acc k)
    have := keep_le acc k
    show (r.foldl keep (keep acc k)).length ≤ acc.length + (r.length + 1)
    omega
theorem ok_due (T : Txt K mg) (TT : List NTab) : FnOk P w K mg base CX0 2 T.a_Ldue T.d_Ldue ["_law_ups", "_law_downs", "_law_shades"] (spDue TT) := by
  refine T.F_Ldue.ok sc_Ldue (fun vs H Q E h => ?_) (fun cdv A outer s H vs Q E hr h => ?_)
  · obtain ⟨u, d, c, rfl, _⟩ := h
    rfl
  · obtain ⟨u, d, c, rfl, hc1, hc2, hu1, hd1, hu, hd, k⟩ := h
    have nd := sc_Ldue.nd
    refine ⟨_, (pss_cons (ps_set (i := 3) nd rfl (Or.inl rfl) pe_dnewT)
        (pss_cons (ps_set (i := 4) nd rfl (Or.inl rfl) (pe_call (ok_splits T TT) (hr.mono (by decide)) rfl T.g_Lsplits T.F_Lsplits.kp T.b_Lsplits .nil pass0 (pa_cons (pv 2) (pa_cons (pe_op op_sub (pv 1) pe_int) pa_nil))))
        (pss_cons (ps_for PassesOwn.never rfl (pi_list (pe_call (ok_splits T TT) (hr.mono (by decide)) rfl T.g_Lsplits T.F_Lsplits.kp T.b_Lsplits .nil pass0 (pa_cons (pv 2) (pa_cons (pe_op op_sub (pv 0) pe_int) pa_nil)))) (pg_name (i := 5) nd rfl (Or.inr rfl))
          (pss_one (ps_for PassesOwn.never rfl (pi_list (pv 4)) (pg_name (i := 6) nd rfl (Or.inr rfl))
          (pss_one (ps_dput (hu_of hr) (pv 3) (pe_callTy call_tuple_of (by rfl) T.n_tuple (by decide +kernel) (pa_cons (pe_lc (own := [("_law_c", 7)]) (g := gName 7) (tt := tYes) rfl nd (pi_range1 (by rfl) T.n_range (pa_cons (pv 2) pa_nil)) (blkOk_by (own := [("_law_c", 7)]) (N := N_Ldue) (sc := defScope s_Ldue) (by decide +kernel)) (fun _ _ _ _ _ => (pg_name (i := 7) nd rfl (Or.inl rfl))) (fun _ _ _ _ _ => pts_nil) (fun _ _ _ _ _ => (pe_op op_sub (pe_ix (ixt K) (pv 5) (pv 7) (fun _ _ => rfl)) (pe_ix (ixt K) (pv 6) (pv 7) (fun _ _ => rfl))))) pa_nil)) pe_int rfl)))))
        (pss_one (ps_ret (pe_callB call_len_dT (by rfl) T.n_len PySem.boot_len (pa_cons (pv 3) pa_nil))))))), ?_⟩
    have e1 : (d : Int) - 1 = ((d - 1 : Nat) : Int) := by omega
    have e2 : (u : Int) - 1 = ((u - 1 : Nat) : Int) := by omega
    have mA := sp_many (c := c) (t := u - 1) hc2 (by omega)
    have mB := sp_many (c := c) (t := d - 1) hc2 (by omega)
    have lA := sp_len c (u - 1) (by omega)
    have lB := sp_len c (d - 1) (by omega)
    refine fun D nD => ?_
    obtain ⟨xD, hD⟩ := newX (TT := TT) (so := none) (o := .dT []) (Ext.refl _ _ H) nD
    generalize upd H D (.dT []) = H0 at xD hD ⊢
    refine ⟨_, rfl, _, rfl, _, _, rfl, rfl, c, d - 1, congrArg (fun z => [nV c, V.int z]) e1, hc1, hc2, by omega, fun lb H1 xb hb => ?_⟩
    obtain ⟨bs, hb, hbs⟩ := hb
    have hD1 : H1 D = some (.dT []) := xb.kp D _ (fun z => nomatch z) (fun _ z => nomatch z) hD
    refine ⟨_, rfl, _, rfl, _, _, rfl, rfl, c, u - 1, congrArg (fun z => [nV c, V.int z]) e2, hc1, hc2, by omega, fun la H2 xa ha => ?_⟩
    obtain ⟨as, ha, has⟩ := ha
    have hD2 : H2 D = some (.dT []) := xa.kp D _ (fun z => nomatch z) (fun _ z => nomatch z) hD1
    have hb2 := xa.lst hb
    have hbs2 := hbs.mono xa.tk
    have nsD : ¬ Src H2 D := fun ⟨_, _, z, _⟩ => by rw [hD2] at z; cases z
    have tk : ∀ {G}, Ext TT (some D) H2 G → TK H2 G := fun x b xs h => x.kp b _ (fun z => by cases z; rw [hD2] at h; cases h) tup_nt h
    have laD : la ≠ D := fun z => by rw [z, hD2] at ha; cases ha
    have lbD : lb ≠ D := fun z => by rw [z, hD2] at hb2; cases hb2
    have lenA := IsRows.len has
    have lenB := IsRows.len hbs2
    obtain ⟨A, hA⟩ : ∃ A, A = splits c (u - 1) := ⟨_, rfl⟩
    obtain ⟨B, hB⟩ : ∃ B, B = splits c (d - 1) := ⟨_, rfl⟩
    rw [← hA, ← hB] at k
    rw [← hA] at has mA lA lenA
    rw [← hB] at hbs2 mB lB lenB
    have bound : ∀ (r : List Nat) (acc : List (List Int)) j, ((((B.take j).map (dif c r))).foldl keep acc).length ≤ acc.length + 300 := fun r acc j => by
      have := keepRow_le c B ((B.take j).map (dif c r)) acc
      rw [List.length_map, List.length_take] at this
      omega
    have bound2 : ∀ (L : List (List Nat)) (acc : List (List Int)), (L.foldl (keepRow c B) acc).length ≤ acc.length + 300 * L.length := by
      intro L
      induction L with
      | nil => intro acc; exact Nat.le_refl _
      | cons r L ih =>
        intro acc
        have h1 := ih (keepRow c B acc r)
        have h2 := bound r acc B.length
        rw [List.take_length] at h2
        show (L.foldl (keepRow c B) (keepRow c B acc r)).length ≤ _
        have h3 : (keepRow c B acc r).length ≤ acc.length + 300 := h2
        rw [List.length_cons]
        omega
    refine ⟨la, rfl, ⟨_, SqL.of ha⟩, for_list (xs := as) (fun i σ H' => ∃ (u5 u6 : Option V), σ = [some (nV u), some (nV d), some (nV c), some (.ref D), some (.ref lb), u5, u6, none] ∧ Ext TT (some D) H2 H' ∧ H' D = some (.dT (kvsOf ((A.take i).foldl (keepRow c B) [])))) ⟨none, none, rfl, Ext.refl .., hD2⟩ ?_ ?_ ?_⟩
    · rintro i σ H3 _ ⟨u5, u6, rfl, x3, _⟩
      exact SqL.of (x3.lstS laD ha)
    · rintro i x σ H3 hx ⟨u5, u6, rfl, x3, h3⟩
      obtain ⟨r, er, hr0⟩ := rows_get has hx
      have hi : i < A.length := (List.getElem?_eq_some_iff.mp er).1
      have rl := lA r (List.mem_of_getElem? er)
      obtain ⟨ra, rfl, hra⟩ := row_at hr0
      have acc0 := bound2 (A.take i) []
      rw [List.length_nil, List.length_take] at acc0
      generalize hacc : (A.take i).foldl (keepRow c B) [] = acc at h3 acc0
      refine ⟨_, rfl, lb, rfl, ⟨_, SqL.of (x3.lstS lbD hb2)⟩, for_list (xs := bs) (fun j σ H' => ∃ (u6 : Option V), σ = [some (nV u), some (nV d), some (nV c), some (.ref D), some (.ref lb), some (.ref ra), u6, none] ∧ Ext TT (some D) H2 H' ∧ H' D = some (.dT (kvsOf (((B.take j).map (dif c r)).foldl keep acc)))) ⟨u6, rfl, x3, h3⟩ ?_ ?_ ?_⟩
      · rintro j σ H4 _ ⟨u6, rfl, x4, _⟩
        exact SqL.of (x4.lstS lbD hb2)
      · rintro j x σ H4 hx ⟨u6, rfl, x4, h4⟩
        obtain ⟨o, eo, ho0⟩ := rows_get hbs2 hx
        have ol := lB o (List.mem_of_getElem? eo)
        obtain ⟨ob, rfl, hob⟩ := row_at ho0
        have acc1 := bound r acc j
        have hra4 := tk x4 _ _ hra
        have hob4 := tk x4 _ _ hob
        have at1 : ∀ {z : List Nat} {q : Nat}, q < z.length → atI ((z.map Int.ofNat).map V.int) (0 + (q : Int)) = some (.int ((z.getD q 0 : Nat) : Int)) := fun {z q} hq => by
          rw [Int.zero_add]
          refine atI_nat ?_
          rw [List.getElem?_map, List.getElem?_map, List.getElem?_eq_getElem hq, List.getD_eq_getElem?_getD, List.getElem?_eq_getElem hq] <;> rfl
        refine ⟨_, rfl, _, rfl, (c : Int), rfl, by omega, by omega, fun L hL => ?_⟩
        rw [Int.toNat_natCast]
        refine lc_it walk_range (fun q H' => H' = upd H4 L (.lst (((List.range q).map fun i => (((r.getD i 0 : Nat) : Int) - ((o.getD i 0 : Nat) : Int))).map V.int))) rfl (fun _ _ _ _ => trivial) (fun q x H6 H5 hq e y => ?_) (fun H5 e => ?_)
        · obtain ⟨rfl, rfl⟩ := y
          subst e
          refine ⟨rfl, ?_⟩
          dsimp only [tYes]
          refine iteT ?_
          refine ⟨_, rfl, _, rfl, ra, _, _, _, rfl, rfl, SqT.of (by rw [upd_ne (ne_of_none hra4 hL)]; exact hra4), at1 (by omega), ?_⟩
          refine ⟨_, rfl, _, rfl, ob, _, _, _, rfl, rfl, SqT.of (by rw [upd_ne (ne_of_none hob4 hL)]; exact hob4), at1 (by omega), _, _, rfl, rfl, _, upd_same, by rw [List.length_map, List.length_map, List.length_range]; exact small1000 (by omega), ?_⟩
          rw [upd_upd, List.range_succ, List.map_append, List.map_append] <;> rfl
        · subst e
          have x5 : Ext TT (some D) H2 (upd H4 L (.lst ((dif c r o).map V.int))) := x4.trans (Ext.new hL)
          have h5 : upd H4 L (.lst ((dif c r o).map V.int)) D = some (.dT (kvsOf (((B.take j).map (dif c r)).foldl keep acc))) := (upd_ne (ne_of_none h4 hL)).trans h4
          refine ⟨L, (dif c r o).map V.int, rfl, .inl ⟨SqL.of upd_same, fun t nt => ?_⟩⟩
          have x6 := x5.trans (Ext.new (o := .tup ((dif c r o).map V.int)) nt)
          have h6 := (upd_ne (ne_of_none h5 nt) (o := .tup ((dif c r o).map V.int))).trans h5
          refine ⟨D, _, rfl, DPut.t (k := (dif c r o).map Sum.inl) h6 (by rw [upd_same, List.map_map] <;> rfl) (by
            unfold kvsOf
            rw [List.length_map]
            show _ < 2 ^ 24
            omega), ?_⟩
          refine ⟨_, rfl, x6.mutSo h6 (fun _ z => by cases z) (fun c q z => by unfold CodeO at z; cases z) nsD, ?_⟩
          rw [upd_same, put_keep, List.take_succ, eo, List.map_append, List.foldl_append] <;> rfl
      · rintro σ H4 ⟨u6, rfl, x4, h4⟩
        rw [lenB, List.take_length] at h4
        refine ⟨_, _, rfl, x4, ?_⟩
        rw [h4, List.take_succ, er, List.foldl_append, hacc] <;> rfl
    · rintro σ H3 ⟨u5, u6, rfl, x3, h3⟩
      rw [lenA, List.take_length] at h3
      refine ⟨_, rfl, D, _, rfl, h3, ?_⟩
      have e : ((kvsOf (A.foldl (keepRow c B) [])).length : Int) = (((keepAll c A B).length : Nat) : Int) := by
        unfold kvsOf
        rw [List.length_map] <;> rfl
      rw [e]
      exact k _ (((xD.trans xb).trans xa).dropS nD x3)
end
end R
end

-- Mth
section
set_option Elab.async false
set_option linter.all false
set_option maxRecDepth 100000
set_option maxHeartbeats 4000000
namespace R
/-! ### the listed surpluses are as many as are counted: a set of bits stands for the rows seen -/
def code : List Int → Nat
  | [] => 0
  | x :: r => (x + 4).toNat + 9 * code r
def OkK (c : Nat) (k : List Int) : Prop := k.length = c ∧ ∀ x ∈ k, -4 ≤ x ∧ x ≤ 4
theorem code_inj : ∀ {c : Nat} {a b : List Int}, OkK c a → OkK c b → code a = code b → a = b
  | 0, [], [], _, _, _ => rfl
  | c + 1, x :: a, y :: b, ha, hb, h => by
    have h : (x + 4).toNat + 9 * code a = (y + 4).toNat + 9 * code b := h
    have hx := ha.2 x List.mem_cons_self
    have hy := hb.2 y List.mem_cons_self
    have e1 : x = y := by omega
    have e2 : code a = code b := by omega
    rw [e1, code_inj (c := c) ⟨by have := ha.1; simp only [List.length_cons] at this; omega, fun z m => ha.2 z (List.mem_cons_of_mem _ m)⟩ ⟨by have := hb.1; simp only [List.length_cons] at this; omega, fun z m => hb.2 z (List.mem_cons_of_mem _ m)⟩ e2]
  | 0, _ :: _, _, ha, _, _ => absurd ha.1 (by simp)
  | 0, [], _ :: _, _, hb, _ => absurd hb.1 (by simp)
  | c + 1, [], _, ha, _, _ => absurd ha.1 (by simp)
  | c + 1, _ :: _, [], _, hb, _ => absurd hb.1 (by simp)
def bStep (s : Nat × Nat) (k : List Int) : Nat × Nat := if s.1.testBit (code k) = true then s else (s.1 ||| 2 ^ code k, s.2 + 1)
structure Like (c : Nat) (s : Nat × Nat) (acc : List (List Int)) : Prop where
  len : s.2 = acc.length
  ok : ∀ k ∈ acc, OkK c k
  bit : ∀ k, OkK c k → s.1.testBit (code k) = acc.any fun q => decide (q = k)
theorem like_step {c : Nat} {s : Nat × Nat} {acc : List (List Int)} (h : Like c s acc) {k : List Int} (hk : OkK c k) : Like c (bStep s k) (keep acc k) := by
  unfold bStep keep
  rw [h.bit k hk]
  by_cases z : (acc.any fun q => decide (q = k)) = true
  · rw [if_pos z, if_pos z]
    exact h
  · rw [if_neg z, if_neg z]
    refine ⟨by rw [List.length_append, h.len] <;> rfl, fun q hq => ?_, fun q hq => ?_⟩
    · rcases List.mem_append.mp hq with m | m
      · exact h.ok q m
      · cases List.mem_singleton.mp m
        exact hk
    · show (s.1 ||| 2 ^ code k).testBit (code q) = _
      rw [Nat.testBit_or, h.bit q hq, List.any_append, Nat.testBit_two_pow]
      have e : ([k].any fun p => decide (p = q)) = decide (k = q) := by simp
      rw [e]
      refine congrArg (fun b => (acc.any fun p => decide (p = q)) || b) ?_
      by_cases y : k = q
      · rw [decide_eq_true y, decide_eq_true (congrArg code y)]
      · rw [decide_eq_false y, decide_eq_false (fun x => y (code_inj hk hq x))]
theorem like_all {c : Nat} : ∀ {L : List (List Int)} {s : Nat × Nat} {acc : List (List Int)}, Like c s acc → (∀ k ∈ L, OkK c k) → Like c (L.foldl bStep s) (L.foldl keep acc)
  | [], _, _, h, _ => h
  | k :: r, _, _, h, hL => like_all (L := r) (like_step h (hL k List.mem_cons_self)) fun q m => hL q (List.mem_cons_of_mem _ m)
def bRow (c : Nat) (B : List (List Nat)) (s : Nat × Nat) (r : List Nat) : Nat × Nat := (B.map (dif c r)).foldl bStep s
theorem like_rows {c : Nat} {B : List (List Nat)} : ∀ {A : List (List Nat)} {s : Nat × Nat} {acc : List (List Int)}, Like c s acc → (∀ r ∈ A, ∀ o ∈ B, OkK c (dif c r o)) → Like c (A.foldl (bRow c B) s) (A.foldl (keepRow c B) acc)
  | [], _, _, h, _ => h
  | r :: A, _, _, h, hA => like_rows (A := A) (like_all h fun k hk => by
      obtain ⟨o, ho, rfl⟩ := List.mem_map.mp hk
      exact hA r List.mem_cons_self o ho) fun q m => hA q (List.mem_cons_of_mem _ m)
def cnt (c : Nat) (A B : List (List Nat)) : Nat := (A.foldl (bRow c B) (0, 0)).2
theorem get_le_sum : ∀ (r : List Nat) (i : Nat), r.getD i 0 ≤ r.sum
  | [], i => by simp
  | x :: r, 0 => by
    show x ≤ (x :: r).sum
    rw [List.sum_cons]
    omega
  | x :: r, i + 1 => by
    have := get_le_sum r i
    show r.getD i 0 ≤ (x :: r).sum
    rw [List.sum_cons]
    omega
theorem split_le {c t : Nat} (ht : t ≤ 4) : ∀ r ∈ splits c t, ∀ i, r.getD i 0 ≤ 4 := by
  intro r h i
  obtain ⟨q, hq, rfl⟩ := List.mem_map.mp (show r ∈ (spRows t (c - 1)).map fun r => r ++ [t - r.sum] from h)
  have h1 := (sp_sum t (c - 1) q hq).1
  have h2 := get_le_sum (q ++ [t - q.sum]) i
  rw [List.sum_append] at h2
  simp only [List.sum_cons, List.sum_nil] at h2
  omega
theorem keep_cnt {c t t' : Nat} (ht : t ≤ 4) (ht' : t' ≤ 4) : (keepAll c (splits c t) (splits c t')).length = cnt c (splits c t) (splits c t') := by
  have h : Like c ((splits c t).foldl (bRow c (splits c t')) (0, 0)) (keepAll c (splits c t) (splits c t')) := by
    refine like_rows ⟨rfl, (fun _ z => nomatch z), fun k _ => by rw [Nat.zero_testBit] <;> rfl⟩ fun r hr o ho => ⟨by unfold dif; simp, fun x hx => ?_⟩
    unfold dif at hx
    obtain ⟨i, _, rfl⟩ := List.mem_map.mp hx
    have h1 := split_le ht r hr i
    have h2 := split_le ht' o ho i
    omega
  exact h.len.symm
def all48 (c : Nat) : Bool := (List.range 5).all fun u => (List.range (5 - u)).all fun d => Nat.beq (cnt c (splits c u) (splits c d)) (surpN (u + 1) (d + 1) c)
theorem c2 : all48 2 = true := by decide +kernel
theorem c3 : all48 3 = true := by decide +kernel
theorem c4 : all48 4 = true := by decide +kernel
theorem c5 : all48 5 = true := by decide +kernel
theorem c6 : all48 6 = true := by decide +kernel
def sym48 (c : Nat) : Bool := (List.range 5).all fun u => (List.range (5 - u)).all fun d => Nat.beq (surpN (d + 1) (u + 1) c) (surpN (u + 1) (d + 1) c)
theorem sym_all : ∀ c : Fin 7, sym48 c.val = true := by decide +kernel
theorem surp_sym {c u d : Nat} (hc : c ≤ 6) (hu : 1 ≤ u) (hd : 1 ≤ d) (h : u + d ≤ 6) : surpN d u c = surpN u d c := by
  have q := sym_all ⟨c, by omega⟩
  unfold sym48 at q
  rw [List.all_eq_true] at q
  have q1 := q (u - 1) (List.mem_range.mpr (by omega))
  rw [List.all_eq_true] at q1
  have q2 := Nat.eq_of_beq_eq_true (q1 (d - 1) (List.mem_range.mpr (by omega)))
  rw [show u - 1 + 1 = u by omega, show d - 1 + 1 = d by omega] at q2
  exact q2
theorem due_surp {c u d : Nat} (hc : 2 ≤ c ∧ c ≤ 6) (hu : 1 ≤ u) (hd : 1 ≤ d) (h : u + d ≤ 6) : (keepAll c (splits c (u - 1)) (splits c (d - 1))).length = surpN u d c := by
  rw [keep_cnt (by omega) (by omega)]
  have q : all48 c = true := by
    have : c = 2 ∨ c = 3 ∨ c = 4 ∨ c = 5 ∨ c = 6 := by omega
    rcases this with e | e | e | e | e <;> subst e
    · exact c2
    · exact c3
    · exact c4
    · exact c5
    · exact c6
  unfold all48 at q
  rw [List.all_eq_true] at q
  have q1 := q (u - 1) (List.mem_range.mpr (by omega))
  rw [List.all_eq_true] at q1
  have q2 := Nat.eq_of_beq_eq_true (q1 (d - 1) (List.mem_range.mpr (by omega)))
  rw [show u - 1 + 1 = u by omega, show d - 1 + 1 = d by omega] at q2
  exact q2
end R
end

-- TryB
section
set_option Elab.async false
set_option linter.all false
set_option maxRecDepth 100000
set_option maxHeartbeats 4000000
/-! TryB: try with several clauses, `except C as n` (one name n for all of them, place i) or `except C`. -/
namespace TryB
open PySem PySem.Spec PyProof.Rows L2
abbrev Suite := Addr → Value → Option Addr → TS
theorem iteT_of {A B : Prop} (h : if (true = true) then A else B) : A := by simpa using h
theorem iteF_of {A B : Prop} (h : if (false = true) then A else B) : B := by simpa using h
/-- behind a clause the name is gone -/
def gone (i : Nat) (D : Ends) : Ends := ⟨fun σ H => D.nx (σ.set i none) H, D.rt, fun σ H => D.bk (σ.set i none) H, fun σ H => D.ct (σ.set i none) H⟩
def wClauses (K : PySem.W.Frag) (i : Nat) (Wout : WX) (D : Ends) : List (Value × Bool × Suite) → WX
  | [] => Wout
  | k :: r => fun cls d σ H => ∃ b, PySem.W.exmOne K cls k.1 = some b ∧ (b = true → ∀ a, H a = none → if k.2.1 = true then k.2.2 a cls d (gone i D) (σ.set i (some (.ref a))) H else k.2.2 a cls d D σ H) ∧ (b = false → wClauses K i Wout D r cls d σ H)
inductive Clauses (X : Cx) (n : Str) : List ExceptHandler → List (Value × Bool × Suite) → Prop
  | none : Clauses X n [] []
  | one {x : Str} {c : Value} {ts : Suite} {b₀ : Stmt} {suite : List Stmt} {np hp : Pos} {hds : List ExceptHandler} {l : List (Value × Bool × Suite)} (names : Names X x c)
      (reads : ∀ a oe cls d pn, Zc cls d oe → (∃ vs, oe.data = .fields vs) → PSs (X.suite a ((a, oe) :: pn)) (b₀ :: suite) (ts a cls d)) (rest : Clauses X n hds l) : Clauses X n (.ExceptHandler (some (.Name x np)) (some n) (b₀ :: suite) hp :: hds) ((c, true, ts) :: l)
  | bare {x : Str} {c : Value} {ts : Suite} {b₀ : Stmt} {suite : List Stmt} {np hp : Pos} {hds : List ExceptHandler} {l : List (Value × Bool × Suite)} (names : Names X x c)
      (reads : ∀ a oe cls d pn, Zc cls d oe → (∃ vs, oe.data = .fields vs) → PSs (X.suite a ((a, oe) :: pn)) (b₀ :: suite) (ts a cls d)) (rest : Clauses X n hds l) : Clauses X n (.ExceptHandler (some (.Name x np)) none (b₀ :: suite) hp :: hds) ((c, false, ts) :: l)
section
variable {X : Cx} {i : Nat} {n : Str} {Wout : WX} {pins : List (Addr × Obj)} {σ : L2.St} {H : Hp} {S : Shared} {D : Ends} {a : Addr} {cls : Value} {d : Option Addr}
/-- the clauses, one after the other, in the state S in which the exception at a is caught -/
theorem clauses_run (ok : X.Ok) (hN : X.N.Nodup) (hi : X.N[i]? = some n) (hln : X.env.kindOf n = some .local) (isNew : H a = none)
    (look : ∀ {c b}, PySem.W.exmOne X.K cls c = some b → PySem.W.Looks (model X.prog X.w) S.heap (excMatches (.ref a) c) b)
    (name : ∀ {x c np}, Names X x c → ∀ {Q : Value → Shared → Prop} {E : Value → Shared → Prop}, Q c S → wpAny (model X.prog X.w) (X.A.mark (some (.ref a))) (eval (.Name x np) X.env) Q E S)
    (enter : ∀ {A : Around} {E : Value → Shared → Prop} {Q : Unit → Shared → Prop}, (∀ oe s4, Zc cls d oe → (∃ vs, oe.data = .fields vs) → Inv (X.suite a ((a, oe) :: (X.pn ++ pins))) [] σ H s4 → Q () s4) → wpAny (model X.prog X.w) A (setFlight (.ref a) none) Q E S)
    (out : Wout cls d σ H → wpAny (model X.prog X.w) X.A (handleBy (.ref a) X.env []) (SP X pins D) X.xe S) :
    ∀ {hds l}, Clauses X n hds l → wClauses X.K i Wout D l cls d σ H → wpAny (model X.prog X.w) X.A (handleBy (.ref a) X.env hds) (SP X pins D) X.xe S := by
  intro hds l cs
  induction cs with
  | none => exact out
  | one names reads _ next =>
    rintro ⟨b, is, yes, no⟩
    refine wpAny_handleBy_cons (codeAny_handlers_test (name names ((look is).here ?_))) (fun z => nomatch z)
    cases b
    · exact next (no rfl)
    · refine codeAny_handlers_suite_as (enter fun oe s4 hz hf I4 => ?_)
      refine store_ok (X := X.suite a ((a, oe) :: (X.pn ++ pins))) (v := .ref a) I4 hN hi (.inl hln) rfl (fun s5 I5 => ?_) (.inr hln)
      refine wpAny_mono ((reads a oe cls d (X.pn ++ pins) hz hf).run [] s5 _ H _ I5 (iteT_of (yes rfl a isNew))) (fun f s6 left => ?_) fun _ _ z => z.elim
      cases f
      case ret =>
        obtain ⟨v, σ6, H6, I6, r, q⟩ := left
        exact gone_ok (I6.unsuite ok) hN hi hln fun s7 I7 => ⟨v, _, H6, I7, r, q⟩
      all_goals
        obtain ⟨σ6, H6, I6, q⟩ := left
        exact gone_ok (I6.unsuite ok) hN hi hln fun s7 I7 => ⟨_, H6, I7, q⟩
  | bare names reads _ next =>
    rintro ⟨b, is, yes, no⟩
    refine wpAny_handleBy_cons (codeAny_handlers_test (name names ((look is).here ?_))) (fun z => nomatch z)
    cases b
    · exact next (no rfl)
    · refine codeAny_handlers_suite (enter fun oe s4 hz hf I4 => ?_)
      refine wpAny_mono ((reads a oe cls d (X.pn ++ pins) hz hf).run [] s4 _ H _ I4 (iteF_of (yes rfl a isNew))) (fun f s6 left => ?_) fun _ _ z => z.elim
      cases f
      case ret =>
        obtain ⟨v, σ6, H6, I6, r, q⟩ := left
        exact ⟨v, _, _, I6.unsuite ok, r, q⟩
      all_goals
        obtain ⟨σ6, H6, I6, q⟩ := left
        exact ⟨_, _, I6.unsuite ok, q⟩
theorem ps_try_clauses {body : List Stmt} {h₀ : ExceptHandler} {hds : List ExceptHandler} {l : List (Value × Bool × Suite)} {pos : Pos} {tb : WX → TS} (hs : X.stack = X.env :: X.outer) (hf : X.env.frame = some X.env.locals) (hN : X.N.Nodup) (hi : X.N[i]? = some n) (hln : X.env.kindOf n = some .local)
    (tk : Takes X Wout) (hb : ∀ (W : WX) (pn : List (Addr × Obj)) (xe : Value → Shared → Prop), Takes (X.tr pn xe) W → PassesOwn (model X.prog X.w) X.A X.env xe → PSs (X.tr pn xe) body (tb W)) (cs : Clauses X n (h₀ :: hds) l) :
    PS X (.Try body (h₀ :: hds) [] [] pos) (fun D σ H => tb (wClauses X.K i Wout D l) D σ H) := by
  constructor
  intro pins s σ H D I h
  have ok := I.ok
  have frames : X.A.frames = some (X.env :: X.outer) := ok.frames.trans (congrArg some hs)
  let caught : Value → Shared → Prop := fun e s₁ => wpAny (model X.prog X.w) X.A (noteFrame e X.env) (fun _ s₂ => wpAny (model X.prog X.w) X.A (setFlight e none) (fun _ s₃ => wpAny (model X.prog X.w) X.A (handleBy e X.env (h₀ :: hds)) (SP X pins D) X.xe s₃) X.xe s₂) X.xe s₁
  have run := (hb (wClauses X.K i Wout D l) (X.pn ++ pins) caught ?taken PassesOwn.looking).run [] s σ H D (I.toTry _) h
  · refine wpAny_Try_except (wpAny_mono run (fun f s1 left => ?_) fun _ _ z => z)
    cases f
    case ret =>
      obtain ⟨v, σ1, H1, I1, r, q⟩ := left
      exact ⟨v, σ1, H1, I1.ofTry ok, r, q⟩
    case next =>
      obtain ⟨σ1, H1, I1, q⟩ := left
      exact wpAny_execs_nil ⟨σ1, H1, I1.ofTry ok, q⟩
    all_goals
      obtain ⟨σ1, H1, I1, q⟩ := left
      exact ⟨σ1, H1, I1.ofTry ok, q⟩
  case taken =>
    rintro e s' ⟨a, B, sI, pins', σ', H', cls, d, rfl, J', nb, up, sky, isNew, os, bare, wish⟩
    have J : Inv X pins σ' H' sI := J'.ofTry ok
    rw [show (X.tr (X.pn ++ pins) caught).stack = X.env :: X.outer from hs] at sky
    refine Sky.land Zc.steady frames hf sky fun h3 fly up3 => ?_
    have J3 := J.landed (s' := { s' with heap := h3 }) nb fly.1 (up.trans up3) os bare
    obtain ⟨oe, vs, at_, hz, hd⟩ := fly.there
    have apart : a ∉ frs (X.env :: X.outer) := fun m => by
      obtain ⟨_, o, e1, hno⟩ := fly.2.2.1.mem m
      cases at_.symm.trans e1
      exact hno _ hd
    have notL : a ≠ X.env.locals := fun z => apart (List.mem_filterMap.mpr ⟨X.env, List.mem_cons_self, z ▸ hf⟩)
    have notF : a ∉ X.fs := fun m => by
      obtain ⟨e, he, q⟩ := List.mem_filterMap.mp m
      exact apart (List.mem_filterMap.mpr ⟨e, List.mem_cons_of_mem _ he, q⟩)
    have S3 := J3.suite at_ hd isNew notL notF
    refine clauses_run ok hN hi hln isNew (fun is => ?_) (fun names Q E q => ?_) (fun k => ?_) (fun q => ?_) cs wish
    · exact PySem.W.exm_one J3.kIn (fun _ _ _ _ k q => wpAny_typeOf_ref (k _ _ at_) (by rw [hz.1]; exact q)) is
    · rcases names with ⟨g, dbg, m | ⟨m, v, nn⟩⟩
      · exact ld_glob (X := X.suite a ((a, oe) :: (X.pn ++ pins))) S3 g m q dbg
      · exact ld_blt (X := X.suite a ((a, oe) :: (X.pn ++ pins))) S3 g m v q nn dbg
    · refine HandSPX.lands_againZ fly fun h4 fly4 up4 => ?_
      obtain ⟨oe4, vs4, at4, hz4, hd4⟩ := fly4.there
      have J4 : Inv X pins σ' H' { s' with heap := h4 } := J.landed nb fly4.1 ((up.trans up3).trans up4) os bare
      exact k oe4 _ hz4 ⟨_, hd4⟩ (J4.suite at4 hd4 isNew notL notF)
    · obtain ⟨_, _, _, o, fs, T, _, _, at2, _, hd2, first, _⟩ := id fly
      refine wpAny_handleBy_nil ?_
      unfold PySem.passOn
      refine wpAny_bind (wpAny_field at2 hd2 first ?_)
      rw [if_neg (show ¬ ((Value.ref T == Value.none) = true) from by simp)]
      have last : wpAny (model X.prog X.w) X.A (setFlight (.ref a) X.env.frame) (fun _ s4 => wpAny (model X.prog X.w) X.A (throw (.ref a) : Sem Flow) (SP X pins D) X.xe s4) X.xe { s' with heap := h3 } := by
        rw [hf]
        refine HandSPX.setFlight_upZ fly fun h4 h4sky up4 => wpAny_throw (tk _ _ ?_)
        exact ⟨a, B, sI, pins, σ', H', cls, d, rfl, J, nb, (up.trans up3).trans up4, .inr (.inr (hs.symm ▸ h4sky)), isNew, os, bare, q⟩
      first
        | exact wpAny_bind (wpAny_pure (wpAny_bind last))
        | exact wpAny_bind last
end
end TryB
end

-- Ref
section
set_option Elab.async false
set_option linter.all false
set_option maxRecDepth 100000
set_option maxHeartbeats 4000000
namespace R
open PySem PySem.Spec PyProof.Rows L2 LamX NdefX LamP TryB GridX
/-! what the law tells of a call with a bad number -/
section
variable {P : Program} {w : World} {K : PySem.W.Frag} {mg : Str → Option Value} {base : Heap}
def spRefused (TT : List NTab) : Sp := fun vs H Q _ => ∃ l d c b : Int, vs = [.int l, .int d, .int c] ∧ ((¬ Cnt l ∧ b = l) ∨ (Cnt l ∧ ¬ Cnt d ∧ b = d) ∨ (Cnt l ∧ Cnt d ∧ ¬ Cts c ∧ b = c)) ∧ Ret TT H Q fun v H' => Tp H' v (.tuple [.str "count", .int b])
def clsRef (T : Txt K mg) : List (Value × Bool × Suite) :=
  [(.ref T.C_BadCount, true, fun a cls d => tRet (tTup (tCons (tC (.str "count")) (tCons (tXf a cls d T.C_BadCount "what" (tVar 3)) tNil)))),
   (.ref T.C_Refused, false, fun a cls d => tRet (tTup (tCons (tC (.str "another")) (tCons (tC (.int 0)) tNil))))]
theorem ok_refused (T : Txt K mg) (TT : List NTab) : FnOk P w K mg base CX0 6 T.a_Lrefused T.d_Lrefused ["_law_ups", "_law_downs", "_law_shades"] (spRefused TT) := by
  refine T.F_Lrefused.ok sc_Lrefused (fun vs H Q E h => ?_) (fun cdv A outer s H vs Q E hr h => ?_)
  · obtain ⟨l, d, c, b, rfl, _⟩ := h
    rfl
  · obtain ⟨l, d, c, b, rfl, bad, k⟩ := h
    have nd := sc_Lrefused.nd
    have GC : FnOk P w K mg base (L2.CX P w) 5 T.a_surplus_count T.d_surplus_count ["light", "dark", "coats"] (spSurp T TT) := ok_surplus_count T TT
    have hr1 : Room 5 _ := hr
    refine ⟨_, pss_one (ps_try_clauses (i := 3) (n := "e") (l := clsRef T) (tb := fun W => tRet (tTup (tCons (tC (.str "told")) (tCons (tCallS (spSurp T TT) (WE W) (tCons (tVar 0) (tCons (tVar 1) (tCons (tVar 2) tNil)))) tNil)))) (Wout := fun _ _ _ _ => False) rfl rfl nd rfl rfl takes_none5
          (fun W pn xe tk _ => pss_one (ps_ret (pe_tup (pa_cons pe_str (pa_cons (by exact (pe_callS GC hr1 rfl T.g_surplus_count T.F_surplus_count.kp T.b_surplus_count (fun σ => passAt tk σ) (by exact (pa_cons (pv 0) (pa_cons (pv 1) (pa_cons (pv 2) pa_nil)))))) pa_nil)))))
          (.one ⟨rfl, by decide, Or.inl T.e_BadCount.gC⟩ (fun a oe cls d pn hz hf => pss_one (ps_ret (pe_tup (pa_cons pe_str (pa_cons (pe_xf T.e_BadCount.xf T.e_BadCount.nw hz hf (pv 3)) pa_nil)))))
          (.bare ⟨rfl, by decide, Or.inl T.e_Refused.gC⟩ (fun a oe cls d pn hz hf => pss_one (ps_ret (pe_tup (pa_cons pe_str (pa_cons pe_int pa_nil))))) .none))), ?_⟩
    have s2 : 2 ≤ sizeLine := by decide
    have out : ∀ {σ : L2.St} {D : Ends} (v : V) (e : Addr) (H1 : Hp), σ.length = 4 → D.rt = Q → Ext TT none H H1 → H1 e = some (.xd [("what", v)]) → v = .int b → wClauses K 3 (fun _ _ _ _ => False) D (clsRef T) (.ref T.C_BadCount) (some e) σ H1 := by
      rintro σ D v e H1 hl hD x1 hd rfl
      refine ⟨true, T.x_BadCount_BadCount, fun _ a0 na => iteT ?_, (fun z => nomatch z)⟩
      have e3 : (σ.set 3 (some (V.ref a0)))[3]? = some (some (V.ref a0)) := by rw [List.getElem?_set]; simp [hl]
      refine ⟨_, e3, rfl, rfl, e, _, _, rfl, hd, rfl, s2, fun p0 np => ?_⟩
      show (gone 3 D).rt _ _
      show D.rt _ _
      rw [hD]
      exact k _ _ (x1.trans (Ext.new np)) (.tup upd_same (.cons (.str _) (.cons (.int _) .nil)))
    refine ⟨_, rfl, _, rfl, _, rfl, l, d, c, rfl, fun h1 => ?_, fun h1 h2 => ?_, fun h1 h2 h3 => ?_, fun h1 h2 h3 => ?_⟩
    · rintro v e H1 x1 hd hv
      refine out v e H1 rfl rfl x1 hd ?_
      rcases bad with ⟨_, e⟩ | ⟨z, _⟩ | ⟨z, _⟩
      · rw [hv, e]
      · exact absurd z h1
      · exact absurd z h1
    · rintro v e H1 x1 hd hv
      refine out v e H1 rfl rfl x1 hd ?_
      rcases bad with ⟨z, _⟩ | ⟨_, _, e⟩ | ⟨_, z, _⟩
      · exact absurd h1 z
      · rw [hv, e]
      · exact absurd z h2
    · rintro v e H1 x1 hd hv
      refine out v e H1 rfl rfl x1 hd ?_
      rcases bad with ⟨z, _⟩ | ⟨_, z, _⟩ | ⟨_, _, _, e⟩
      · exact absurd h1 z
      · exact absurd h2 z
      · rw [hv, e]
    · rcases bad with ⟨z, _⟩ | ⟨_, z, _⟩ | ⟨_, _, z, _⟩
      · exact absurd h1 z
      · exact absurd h2 z
      · exact absurd h3 z
end
end R
end

-- Beyond
section
set_option Elab.async false
set_option linter.all false
set_option maxRecDepth 100000
set_option maxHeartbeats 4000000
namespace R
open PySem PySem.Spec PyProof.Rows L2 LamX NdefX LamP
section
variable {P : Program} {w : World} {K : PySem.W.Frag} {mg : Str → Option Value} {base : Heap}
/-- a number outside lo to hi -/
def spBeyond (TT : List NTab) : Sp := fun vs H Q _ => ∃ (so : Addr) (lo hi : Int), vs = [.ref so, .int lo, .int hi] ∧ Src H so ∧ lo ≤ hi ∧ RetS TT so H Q fun v _ => ∃ m : Int, v = .int m ∧ (m < lo ∨ hi < m)
theorem ok_beyond (T : Txt K mg) (TT : List NTab) : FnOk P w K mg base CX0 3 T.a_Lbeyond T.d_Lbeyond ["_law_source", "_law_least", "_law_most"] (spBeyond TT) := by
  refine T.F_Lbeyond.ok sc_Lbeyond (fun vs H Q E h => ?_) (fun cdv A outer s H vs Q E hr h => ?_)
  · obtain ⟨so, lo, hi, rfl, _⟩ := h
    rfl
  · obtain ⟨so, lo, hi, rfl, hs, lh, k⟩ := h
    have nd := sc_Lbeyond.nd
    refine ⟨_, pss_cons (ps_set (i := 3) nd rfl (Or.inl rfl) (pe_call (ok_take T TT) (hr.mono (by decide)) rfl T.g_Ltake T.F_Ltake.kp T.b_Ltake .nil pass0 (pa_cons (pv 0) (pa_cons (pe_op op_pow pe_int pe_int) pa_nil))))
      (pss_one (ps_ret (pe_call (ok_one T TT) (hr.mono (by decide)) rfl T.g_Lone T.F_Lone.kp T.b_Lone .nil pass0 (pa_cons (pv 0) (pa_cons (pe_lst (pa_cons (pe_op op_sub (pv 1) pe_int) (pa_cons (pe_op op_add (pv 2) pe_int) (pa_cons (pe_op op_add (pv 2) pe_int)
        (pa_cons (pe_op op_sub (pe_op op_sub (pv 1) pe_int) (pv 3)) (pa_cons (pe_op op_add (pe_op op_add (pv 2) pe_int) (pv 3)) pa_nil)))))) pa_nil))))), ?_⟩
    refine ⟨_, rfl, _, _, rfl, rfl, ⟨by decide, by decide, by decide⟩, so, _, rfl, hs, by decide, by decide, fun v H1 x1 s1 hv => ?_⟩
    obtain ⟨f, rfl, f0, _⟩ := hv
    refine ⟨_, rfl, _, rfl, _, _, rfl, rfl, _, rfl, _, _, rfl, rfl, _, rfl, _, _, rfl, rfl, _, rfl, _, _, rfl, rfl, _, rfl, _, _, rfl, rfl, _, rfl, _, _, rfl, rfl, _, rfl, _, _, rfl, rfl, (by show 5 ≤ sizeLine; decide), fun l nl => ?_⟩
    have ne := src_ne s1 nl
    have x2 := x1.trans (Ext.new (o := .lst [.int (lo - 1), .int (hi + 1), .int (hi + 1), .int (lo - 2 - f), .int (hi + 2 + f)]) nl)
    refine ⟨so, l, _, rfl, x2.src hs, upd_same, ne, by show 0 < 5; decide, by show 5 < 1000; decide, fun v H2 x3 s3 hv => ?_⟩
    refine k _ _ (x2.trans x3) s3 ?_
    simp only [List.mem_cons, List.not_mem_nil, or_false] at hv
    rcases hv with z | z | z | z | z <;> exact ⟨_, z, by omega⟩
end
end R
end

-- Kw
section
set_option Elab.async false
set_option linter.all false
set_option maxRecDepth 100000
set_option maxHeartbeats 4000000
/-! Kw: a def called by keywords alone. -/
namespace KwX
open PySem PySem.Spec PyProof.Rows L2
/-- the keywords' values, put in the parameters' order by g -/
theorem fun_kbn {K : PySem.W.Frag} {x qual : Str} {st : Stmt} {f : Addr} {fd : FuncData} (F : Fun K x qual st f fd) {ps ks : List Str} (g : List Value → List Value) (gV : List V → List V)
    (h : ∀ (kV doc pm : Value) (an : Option Addr) (cdv ct : Value) (ws : List Value), ws.length = ks.length → bindArgs (PySem.W.fnOf x qual (defArgs st) (defBody st) (defScope st) .none kV doc pm an cdv ct) ⟨[], ks.zip ws⟩ = pure (ps.zip (g ws)))
    (hv : ∀ {zs : List V} {ws : List Value}, Vals zs ws → Vals (gV zs) (g ws)) : KBn K fd ps 0 ks (fun _ ws => g ws) (fun _ zs => gV zs) := by
  obtain ⟨oc, od, kV, doc, pm, an, cdv, ct, osl, rfl, _, _⟩ := F.ex
  refine ⟨fun s us ws _ l1 l2 => ?_, fun _ r => hv r⟩
  cases us with
  | nil => exact .of_eq (h kV doc pm an cdv ct ws l2)
  | cons _ _ => cases l1
def tCallKw (m : Nat) (sp : Sp) (gV : List V → List V) (E : XK) (tk : TA) : TE := fun σ H Q => tk σ H fun zs H2 => zs.length = m ∧ sp (gV zs) H2 Q E
section
variable {X : Cx} {CX : CXT} {k : Nat} {f : Addr} {fd : FuncData} {ps ks : List Str} {sp : Sp} {E : XK} {x : Str} {p pos : Pos} {kws : List Keyword} {tk : TA} {g : List Value → List Value} {gV : List V → List V}
theorem pe_callKw (F : FnOk X.prog X.w X.K X.mg X.base CX k f fd ps sp) (hr : Room k X.A) (hg : Gl X x) (hm : X.mg x = some (.ref f)) (hk : PySem.W.keepIn X.K (.ref f) = true) (hb : KBn X.K fd ps 0 ks (fun _ ws => g ws) (fun _ zs => gV zs)) (hx : Passes CX X E)
    (args : PK X kws tk) (all : (backToKw pos (keywordEach kws X.env)).all (·.1.isSome) = true := by rfl) (names : (backToKw pos (keywordEach kws X.env)).filterMap (·.1) = ks := by rfl)
    (dbg : (x == ("__debug__" : Str)) = false := by decide) (plain : ((backTo pos (starEach [] X.env)).any (·.1) || (backToKw pos (keywordEach kws X.env)).any (·.1.isNone)) = false := by rfl) :
    PE X (.Call (.Name x p) [] kws pos) (tCallKw ks.length sp gV E tk) := by
  constructor
  intro pins s σ H Q I h
  refine wpAny_Call_Name_kw (ld_glob I hg hm ?_ dbg)
  refine PySem.W.callWith_KW0 (h₀ := X.base) I.ok.mod.kin hk all ?_ plain
  refine thn (args.run pos pins s σ H _ I h) ?_
  rintro ws s2 ⟨zs, H2, I2, rz, l2, q2⟩
  refine ⟨I2.kIn, ?_⟩
  rw [names]
  exact run_fnN (n := 0) (vs := []) F hr hb hx I2 .nil rz rfl l2 q2
end
end KwX
end

-- LawL
section
set_option Elab.async false
set_option linter.all false
set_option maxRecDepth 100000
set_option maxHeartbeats 4000000
namespace R
open PySem PySem.Spec PyProof.Rows L2 LamX NdefX LamP GridX
theorem shaped_of {d : PyData} (h1 : d.canLay0 = true) (h2 : d.depth ≤ 64) : SeqAt.shaped d = true := by
  show (d.canLay0 && decide (d.depth ≤ 64)) = true
  rw [Bool.and_eq_true]
  exact ⟨h1, decide_eq_true h2⟩
theorem lay2 (q : Str) (i : Int) (hq : PyData.strOk q = true) : (PyData.tuple [.str q, .int i]).canLay0 = true := by simp [PyData.canLay0, PyData.canLayAll0, hq]
theorem shaped2 (q : Str) (i : Int) (hq : PyData.strOk q = true := by decide +kernel) : SeqAt.shaped (.tuple [.str q, .int i]) = true := shaped_of (lay2 q i hq) (by simp [PyData.depth, PyData.depthAll])
theorem eqv2 (q : Str) (i : Int) (hq : PyData.strOk q = true) : PyData.eqv (.tuple [.str q, .int i]) (.tuple [.str q, .int i]) = true := SeqAt.eqv_refl _ (lay2 q i hq)
/-- dark, light, coats -> light, dark, coats -/
def swp {α : Type} : List α → List α
  | [a, b, c] => [b, a, c]
  | l => l
theorem vals_swp : ∀ {zs : List V} {ws : List Value}, Vals zs ws → Vals (swp zs) (swp ws)
  | _, _, .nil => .nil
  | _, _, .cons r .nil => .cons r .nil
  | _, _, .cons r (.cons r' .nil) => .cons r (.cons r' .nil)
  | _, _, .cons r (.cons r' (.cons r'' .nil)) => .cons r' (.cons r (.cons r'' .nil))
  | _, _, .cons r (.cons r' (.cons r'' (.cons s t))) => .cons r (.cons r' (.cons r'' (.cons s t)))
section
variable {P : Program} {w : World} {K : PySem.W.Frag} {mg : Str → Option Value} {base : Heap}
theorem kb_surplus_count (T : Txt K mg) : KBn K T.d_surplus_count ["light", "dark", "coats"] 0 ["dark", "light", "coats"] (fun _ ws => swp ws) (fun _ zs => swp zs) :=
  KwX.fun_kbn T.F_surplus_count swp swp (fun _ _ _ _ _ _ ws hl => match ws, hl with | [_, _, _], _ => rfl) vals_swp
def spLaw (K : PySem.W.Frag) (TT : List NTab) : Sp := fun vs H Q _ => ∃ (l : Addr) (ns : List Int), vs = [.ref l] ∧ SqL K H l (ns.map V.int) ∧ (∀ z ∈ ns, Builtin.Int.intBits z ≤ 1048576) ∧ TabsN TT H ∧ ∀ H', Q (.bl true) H'
theorem ok_law (T : Txt K mg) (TT : List NTab) : FnOk P w K mg base CX0 7 T.a_law T.d_law ["_law_script"] (spLaw K TT) := by
  refine T.F_law.ok sc_law (fun vs H Q E h => ?_) (fun cdv A outer s H vs Q E hr h => ?_)
  · obtain ⟨l, ns, rfl, _⟩ := h
    rfl
  · obtain ⟨l0, ns, rfl, hl0, hb, hT, k⟩ := h
    have nd := sc_law.nd
    have px : Passes (L2.CX P w) (cxOf CX0 P w K mg base N_law "law" (defScope s_law) T.a_law cdv A outer s H E).nox (fun _ _ _ => False) := passes_call takes_none5 (fun _ _ _ _ h => h)
    refine ⟨_, (pss_cons (ps_for PassesOwn.never rfl (pi_range1 (by rfl) T.n_range (pa_cons (pe_callB (call_max2 rfl) (by rfl) T.n_max (by decide +kernel) (pa_cons pe_int (pa_cons (pe_callB (call_min2 rfl) (by rfl) T.n_min (by decide +kernel) (pa_cons pe_int (pa_cons (pe_callB call_len_seq (by rfl) T.n_len PySem.boot_len (pa_cons (pv 0) pa_nil)) pa_nil))) pa_nil))) pa_nil)) (pg_name (i := 1) nd rfl (Or.inl rfl))
          (pss_cons (ps_set (i := 2) nd rfl (Or.inl rfl) (pe_call (ok_pool T TT) (hr.mono (by decide)) rfl T.g_Lpool T.F_Lpool.kp T.b_Lpool .nil pass0 (pa_cons (pv 0) (pa_cons (pv 1) pa_nil))))
        (pss_cons (ps_set (i := 3) nd rfl (Or.inl rfl) (pe_op op_add pe_int (pe_call (ok_take T TT) (hr.mono (by decide)) rfl T.g_Ltake T.F_Ltake.kp T.b_Ltake .nil pass0 (pa_cons (pv 2) (pa_cons pe_int pa_nil)))))
        (pss_cons (ps_set (i := 4) nd rfl (Or.inl rfl) (pe_op op_add pe_int (pe_call (ok_take T TT) (hr.mono (by decide)) rfl T.g_Ltake T.F_Ltake.kp T.b_Ltake .nil pass0 (pa_cons (pv 2) (pa_cons pe_int pa_nil)))))
        (pss_cons (ps_set (i := 5) nd rfl (Or.inl rfl) (pe_op op_add pe_int (pe_call (ok_take T TT) (hr.mono (by decide)) rfl T.g_Ltake T.F_Ltake.kp T.b_Ltake .nil pass0 (pa_cons (pv 2) (pa_cons (pe_op op_sub (pv 4) pe_int) pa_nil)))))
        (pss_cons (ps_set (i := 6) nd rfl (Or.inl rfl) (pe_call (ok_due T TT) (hr.mono (by decide)) rfl T.g_Ldue T.F_Ldue.kp T.b_Ldue .nil pass0 (pa_cons (pv 5) (pa_cons (pe_op op_sub (pv 4) (pv 5)) (pa_cons (pv 3) pa_nil)))))
        (pss_cons (ps_set (i := 7) nd rfl (Or.inl rfl) (pe_call (ok_surplus_count T TT) (hr.mono (by decide)) rfl T.g_surplus_count T.F_surplus_count.kp T.b_surplus_count .nil px (pa_cons (pv 5) (pa_cons (pe_op op_sub (pv 4) (pv 5)) (pa_cons (pv 3) pa_nil)))))
        (pss_cons (ps_if (PW.pt (pw_or (pt_not (pt_val (pe_callB call_isi (by rfl) T.n_isinstance (by decide +kernel) (pa_cons (pv 7) (pa_cons (pe_bltn (v := .ty "int") (u := Value.type "int") (by rfl) T.n_int (by decide +kernel) rfl) pa_nil))))) (pw_or (pt_val (pe_callB call_isi (by rfl) T.n_isinstance (by decide +kernel) (pa_cons (pv 7) (pa_cons (pe_bltn (v := .ty "bool") (u := Value.type "bool") (by rfl) T.n_bool (by decide +kernel) rfl) pa_nil)))) (pw_or1 (pt_cmpR op_ne (pv 7) (pv 6) (nomark _)))))) (pss_one (ps_ret pe_bl)) pss_nil)
        (pss_cons (ps_if (pt_cmpR op_ne (KwX.pe_callKw (ok_surplus_count T TT) (hr.mono (by decide)) rfl T.g_surplus_count T.F_surplus_count.kp (kb_surplus_count T) px (pk_cons (pv 5) (pk_cons (pe_op op_sub (pv 4) (pv 5)) (pk_cons (pv 3) pk_nil)))) (pv 6) (nomark _)) (pss_one (ps_ret pe_bl)) pss_nil)
        (pss_cons (ps_set (i := 8) nd rfl (Or.inl rfl) (pe_lst (pa_cons (pv 5) (pa_cons (pe_op op_sub (pv 4) (pv 5)) (pa_cons (pv 3) pa_nil)))))
        (pss_cons (ps_set (i := 9) nd rfl (Or.inl rfl) (pe_call (ok_one T TT) (hr.mono (by decide)) rfl T.g_Lone T.F_Lone.kp T.b_Lone .nil pass0 (pa_cons (pv 2) (pa_cons (pe_lst (pa_cons (pe_lst (pa_cons pe_int pa_nil)) (pa_cons (pe_lst (pa_cons pe_int pa_nil)) (pa_cons (pe_lst (pa_cons pe_int pa_nil)) (pa_cons (pe_lst (pa_cons pe_int (pa_cons pe_int pa_nil))) (pa_cons (pe_lst (pa_cons pe_int (pa_cons pe_int pa_nil))) (pa_cons (pe_lst (pa_cons pe_int (pa_cons pe_int pa_nil))) (pa_cons (pe_lst (pa_cons pe_int (pa_cons pe_int (pa_cons pe_int pa_nil)))) pa_nil)))))))) pa_nil))))
        (pss_cons (ps_for PassesOwn.never rfl (pi_list (pv 9)) (pg_name (i := 10) nd rfl (Or.inl rfl))
          (pss_one (ps_asg (pe_call (ok_beyond T TT) (hr.mono (by decide)) rfl T.g_Lbeyond T.F_Lbeyond.kp T.b_Lbeyond .nil pass0 (pa_cons (pv 2) (pa_cons (pe_op op_add pe_int (pe_callTy call_int1 (by rfl) T.n_int (by decide +kernel) (pa_cons (pe_cmpR op_eq (pv 10) pe_int (nomark _)) pa_nil))) (pa_cons (pe_op op_sub pe_int (pe_op op_mul pe_int (pe_callTy call_int1 (by rfl) T.n_int (by decide +kernel) (pa_cons (pe_cmpR op_eq (pv 10) pe_int (nomark _)) pa_nil)))) pa_nil)))) (pg_sub (pv 8) (pv 10) set_list))))
        (pss_one (ps_if (pt_cmpR (op_neD hr.units) (pe_call (ok_refused T TT) (hr.mono (by decide)) rfl T.g_Lrefused T.F_Lrefused.kp T.b_Lrefused .nil pass0 (pa_cons (pe_ix ix_list (pv 8) pe_int (fun _ _ => rfl)) (pa_cons (pe_ix ix_list (pv 8) pe_int (fun _ _ => rfl)) (pa_cons (pe_ix ix_list (pv 8) pe_int (fun _ _ => rfl)) pa_nil)))) (pe_tup (pa_cons pe_str (pa_cons (pe_ix ix_list (pv 8) (pe_ix ix_list (pv 9) pe_int (fun _ _ => rfl)) (fun _ _ => rfl)) pa_nil))) (nomark _)) (pss_one (ps_ret pe_bl)) pss_nil))))))))))))))
        (pss_one (ps_ret pe_bl))), ?_⟩
    have s2 : 2 ≤ sizeLine := by decide
    have s3 : 3 ≤ sizeLine := by decide
    have s7 : 7 ≤ sizeLine := by decide
    have s1 : 1 ≤ sizeLine := by decide
    have gt : ∃ m : Nat, (if (if ((ns.map V.int).length : Int) < 3 then ((ns.map V.int).length : Int) else 3) > 1 then (if ((ns.map V.int).length : Int) < 3 then ((ns.map V.int).length : Int) else 3) else 1) = (m : Int) ∧ m ≤ 3 := by
      generalize ((ns.map V.int).length : Int) = z
      refine ⟨(if (if z < 3 then z else 3) > 1 then (if z < 3 then z else 3) else 1).toNat, ?_, ?_⟩ <;> (repeat' split) <;> omega
    obtain ⟨m, em, hm⟩ := gt
    refine ⟨_, rfl, l0, _, rfl, .inl hl0, _, _, rfl, _, _, rfl, _, rfl, ?_⟩
    rw [em]
    refine ⟨by omega, by omega, for_range (lo := 0) (n := ((m : Int)).toNat) (fun _ σ H' => ∃ u1 u2 u3 u4 u5 u6 u7 u8 u9 u10, σ = [some (.ref l0), u1, u2, u3, u4, u5, u6, u7, u8, u9, u10] ∧ Ext TT none H H') ⟨_, _, _, _, _, _, _, _, _, _, rfl, Ext.refl ..⟩ ?_ ?_⟩
    · rintro i' σ H1 hi ⟨u1, u2, u3, u4, u5, u6, u7, u8, u9, u10, rfl, x1⟩
      refine ⟨_, rfl, _, rfl, l0, ns, _, rfl, by omega, by omega, SqL.ext hl0 x1, hb, fun v H2 x2 hv => ?_⟩
      obtain ⟨so, rfl, q2, nso⟩ := hv
      refine ⟨_, rfl, so, 5, rfl, q2, by decide, by decide, fun v H3 x3 q3 hv => ?_⟩
      obtain ⟨c0, rfl, c1, c2⟩ := hv
      refine ⟨_, _, rfl, rfl, ?_⟩
      refine ⟨_, rfl, so, 5, rfl, q3, by decide, by decide, fun v H4 x4 q4 hv => ?_⟩
      obtain ⟨w0, rfl, w1, w2⟩ := hv
      refine ⟨_, _, rfl, rfl, ?_⟩
      refine ⟨_, rfl, _, rfl, _, _, rfl, rfl, so, 2 + w0 - 1, rfl, q4, by omega, by omega, fun v H5 x5 q5 hv => ?_⟩
      obtain ⟨u0, rfl, ua, ub⟩ := hv
      refine ⟨_, _, rfl, rfl, ?_⟩
      obtain ⟨C, hC⟩ : ∃ C : Nat, (2 + c0) = (C : Int) := ⟨(2 + c0).toNat, by omega⟩
      obtain ⟨U, hU⟩ : ∃ U : Nat, (1 + u0) = (U : Int) := ⟨(1 + u0).toNat, by omega⟩
      obtain ⟨D, hD⟩ : ∃ D : Nat, (2 + w0 - (1 + u0)) = (D : Int) := ⟨(2 + w0 - (1 + u0)).toNat, by omega⟩
      have hC2 : 2 ≤ C ∧ C ≤ 6 := by omega
      have hc : Cts (2 + c0) := ⟨by omega, by omega⟩
      have cU : Cnt (1 + u0) := ⟨by omega, by omega⟩
      have cD : Cnt (2 + w0 - (1 + u0)) := ⟨by omega, by omega⟩
      have eD := due_surp (c := C) (u := U) (d := D) hC2 (by omega) (by omega) (by omega)
      have eDU : surpN D U C = surpN U D C := surp_sym hC2.2 (by omega) (by omega) (by omega)
      refine ⟨_, rfl, _, rfl, _, rfl, _, _, rfl, rfl, _, rfl, U, D, C, ?_, hC2.1, hC2.2, by omega, by omega, by omega, by omega, fun H6 x6 => ?_⟩
      · show [V.int (1 + u0), V.int (2 + w0 - (1 + u0)), V.int (2 + c0)] = _
        rw [hC, hD, hU] <;> rfl
      rw [eD]
      refine ⟨_, rfl, _, rfl, _, rfl, _, _, rfl, rfl, _, rfl, 1 + u0, 2 + w0 - (1 + u0), 2 + c0, rfl, fun z => absurd cU z, fun _ z => absurd cD z, fun _ _ z => absurd hc z, fun _ _ _ H7 x7 => ?_⟩
      rw [show (1 + u0).toNat = U by omega, show (2 + w0 - (1 + u0)).toNat = D by omega, show (2 + c0).toNat = C by omega]
      refine ⟨_, rfl, _, _, .type "int", .type "int", true, rfl, .ty _, .base (.int _), kit_ty (by decide +kernel), _, rfl, ?_⟩
      refine iteF' rfl ?_
      refine ⟨_, rfl, _, _, .type "int", .type "bool", false, rfl, .ty _, .base (.int _), kit_ty (by decide +kernel), _, rfl, ?_⟩
      refine iteF ?_
      refine ⟨_, rfl, _, rfl, rfl, _, rfl, ?_⟩
      refine iteF' (by simp) ?_
      refine ⟨_, rfl, _, rfl, _, rfl, _, _, rfl, rfl, _, rfl, rfl, 2 + w0 - (1 + u0), 1 + u0, 2 + c0, rfl, fun z => absurd cD z, fun _ z => absurd cU z, fun _ _ z => absurd hc z, fun _ _ _ H8 x8 => ?_⟩
      rw [show (1 + u0).toNat = U by omega, show (2 + w0 - (1 + u0)).toNat = D by omega, show (2 + c0).toNat = C by omega, eDU]
      refine ⟨_, rfl, rfl, _, rfl, ?_⟩
      refine iteF' (by simp) ?_
      have x28 : Ext TT (some so) H2 H8 := ((x3.trans x4).trans x5).trans ((x6.trans x7).trans x8).toS
      have q8 := x28.src q2
      refine ⟨_, rfl, _, rfl, _, rfl, _, _, rfl, rfl, _, rfl, s3, fun bl nbl => ?_⟩
      obtain ⟨y0, hbl⟩ := newX (TT := TT) (so := none) (o := .lst [.int (1 + u0), .int (2 + w0 - (1 + u0)), .int (2 + c0)]) (Ext.refl _ _ H8) nbl
      have nblso : bl ≠ so := src_ne q8 nbl
      generalize upd H8 bl _ = G0 at y0 hbl ⊢
      refine ⟨_, rfl, s1, fun p1 n1 => ?_⟩
      obtain ⟨y1, f1⟩ := newX (TT := TT) (so := none) (o := .lst [.int 0]) (Ext.refl _ _ G0) n1
      generalize upd G0 p1 _ = G1 at y1 f1 ⊢
      refine ⟨s1, fun p2 n2 => ?_⟩
      obtain ⟨y2, f2⟩ := newX (TT := TT) (so := none) (o := .lst [.int 1]) (Ext.refl _ _ G1) n2
      generalize upd G1 p2 _ = G2 at y2 f2 ⊢
      refine ⟨s1, fun p3 n3 => ?_⟩
      obtain ⟨y3, f3⟩ := newX (TT := TT) (so := none) (o := .lst [.int 2]) (Ext.refl _ _ G2) n3
      generalize upd G2 p3 _ = G3 at y3 f3 ⊢
      refine ⟨s2, fun p4 n4 => ?_⟩
      obtain ⟨y4, f4⟩ := newX (TT := TT) (so := none) (o := .lst [.int 0, .int 1]) (Ext.refl _ _ G3) n4
      generalize upd G3 p4 _ = G4 at y4 f4 ⊢
      refine ⟨s2, fun p5 n5 => ?_⟩
      obtain ⟨y5, f5⟩ := newX (TT := TT) (so := none) (o := .lst [.int 0, .int 2]) (Ext.refl _ _ G4) n5
      generalize upd G4 p5 _ = G5 at y5 f5 ⊢
      refine ⟨s2, fun p6 n6 => ?_⟩
      obtain ⟨y6, f6⟩ := newX (TT := TT) (so := none) (o := .lst [.int 1, .int 2]) (Ext.refl _ _ G5) n6
      generalize upd G5 p6 _ = G6 at y6 f6 ⊢
      refine ⟨s3, fun p7 n7 => ?_⟩
      obtain ⟨y7, f7⟩ := newX (TT := TT) (so := none) (o := .lst [.int 0, .int 1, .int 2]) (Ext.refl _ _ G6) n7
      generalize upd G6 p7 _ = G7 at y7 f7 ⊢
      refine ⟨s7, fun lp nlp => ?_⟩
      obtain ⟨y8, f8⟩ := newX (TT := TT) (so := none) (o := .lst [.ref p1, .ref p2, .ref p3, .ref p4, .ref p5, .ref p6, .ref p7]) (Ext.refl _ _ G7) nlp
      generalize upd G7 lp _ = G8 at y8 f8 ⊢
      have z78 := y8
      have z67 := y7.trans z78
      have z56 := y6.trans z67
      have z45 := y5.trans z56
      have z34 := y4.trans z45
      have z23 := y3.trans z34
      have z12 := y2.trans z23
      have z01 := y1.trans z12
      have f1 := z12.lst f1
      have f2 := z23.lst f2
      have f3 := z34.lst f3
      have f4 := z45.lst f4
      have f5 := z56.lst f5
      have f6 := z67.lst f6
      have f7 := z78.lst f7
      have hbl8 := z01.lst hbl
      have qG8 : Src G8 so := (y0.trans z01).toS.src q8
      have sone : ∀ {a xs}, G8 a = some (.lst xs) → xs.length ≠ 2 → a ≠ so := fun h e z => by
        obtain ⟨i, j, hs, _⟩ := qG8
        rw [← z, h] at hs
        cases hs
        exact e rfl
      have nso2 : ∀ {G : Hp} {p : Addr}, Src G so → G p = none → p ≠ so := fun q n => src_ne q n
      have q0 : Src G0 so := y0.toS.src q8
      have ne4 : p4 ≠ so := nso2 ((((y1.trans y2).trans y3).toS (so := some so)).src q0) n4
      have ne5 : p5 ≠ so := nso2 (((((y1.trans y2).trans y3).trans y4).toS (so := some so)).src q0) n5
      have ne6 : p6 ≠ so := nso2 ((((((y1.trans y2).trans y3).trans y4).trans y5).toS (so := some so)).src q0) n6
      refine ⟨so, lp, _, rfl, qG8, f8, sone f8 (by simp), by show 0 < 7; decide, by show 7 < 1000; decide, fun v H9 x9 q9 hv => ?_⟩
      have hp : ∃ (pa : Addr) (pl : List Nat), v = .ref pa ∧ pa ≠ so ∧ G8 pa = some (.lst (pl.map nV)) ∧ (pl = [0] ∨ pl = [1] ∨ pl = [2] ∨ pl = [0, 1] ∨ pl = [0, 2] ∨ pl = [1, 2] ∨ pl = [0, 1, 2]) := by
        simp only [List.mem_cons, List.not_mem_nil, or_false] at hv
        rcases hv with z | z | z | z | z | z | z
        · exact ⟨p1, [0], z, sone f1 (by simp), f1, .inl rfl⟩
        · exact ⟨p2, [1], z, sone f2 (by simp), f2, .inr (.inl rfl)⟩
        · exact ⟨p3, [2], z, sone f3 (by simp), f3, .inr (.inr (.inl rfl))⟩
        · exact ⟨p4, [0, 1], z, ne4, f4, .inr (.inr (.inr (.inl rfl)))⟩
        · exact ⟨p5, [0, 2], z, ne5, f5, .inr (.inr (.inr (.inr (.inl rfl))))⟩
        · exact ⟨p6, [1, 2], z, ne6, f6, .inr (.inr (.inr (.inr (.inr (.inl rfl)))))⟩
        · exact ⟨p7, [0, 1, 2], z, sone f7 (by simp), f7, .inr (.inr (.inr (.inr (.inr (.inr rfl)))))⟩
      obtain ⟨pa, pl, rfl, npa, hpa, hpl⟩ := hp
      clear hv
      have pabl : pa ≠ bl := fun z => by
        rw [z, hbl8] at hpa
        have e := Option.some.inj hpa
        injection e with e
        rcases hpl with z | z | z | z | z | z | z <;> subst z <;> simp [nV] at e
        omega
      have x28b : Ext TT (some so) H2 H9 := (x28.trans (y0.trans z01).toS).trans x9
      have base : Ext TT (some so) H8 H9 := (y0.trans z01).toS.trans x9
      refine ⟨_, rfl, pa, rfl, ⟨_, SqL.of (x9.lstS npa hpa)⟩, for_list (xs := pl.map nV) (fun i σ H' => ∃ (u10 : Option V) (b0 b1 b2 : Int), σ = [some (.ref l0), some (.int (0 + (i' : Int))), some (.ref so), some (.int (2 + c0)), some (.int (2 + w0)), some (.int (1 + u0)), some (nV (surpN U D C)), some (nV (surpN U D C)), some (.ref bl), some (.ref pa), u10] ∧
          Ext TT (some so) H8 H' ∧ Src H' so ∧ H' pa = some (.lst (pl.map nV)) ∧ H' bl = some (.lst [.int b0, .int b1, .int b2]) ∧
          (0 ∈ pl.take i → ¬ Cnt b0) ∧ (0 ∉ pl.take i → b0 = 1 + u0) ∧ (1 ∈ pl.take i → ¬ Cnt b1) ∧ (1 ∉ pl.take i → b1 = 2 + w0 - (1 + u0)) ∧ (2 ∈ pl.take i → ¬ Cts b2) ∧ (2 ∉ pl.take i → b2 = 2 + c0)) ?start ?stays ?turn ?after⟩
      case start => exact ⟨_, _, _, _, rfl, base, q9, x9.lstS npa hpa, x9.lstS nblso hbl8, (fun z => by simp at z), fun _ => rfl, (fun z => by simp at z), fun _ => rfl, (fun z => by simp at z), fun _ => rfl⟩
      case stays =>
        rintro j σ H10 _ ⟨u10, b0, b1, b2, rfl, x10, q10, hpa10, _⟩
        exact SqL.of hpa10
      case turn =>
        rintro j x σ H10 hx ⟨u10, b0, b1, b2, rfl, x10, q10, hpa10, hbl10, d0, e0, d1, e1, d2, e2⟩
        rw [List.getElem?_map] at hx
        cases ez : pl[j]? with
        | none => rw [ez] at hx; cases hx
        | some at_ =>
          rw [ez] at hx
          cases hx
          have hat : at_ = 0 ∨ at_ = 1 ∨ at_ = 2 := by
            have z := List.mem_of_getElem? ez
            rcases hpl with e | e | e | e | e | e | e <;> subst e <;> simp at z <;> omega
          have tk : pl.take (j + 1) = pl.take j ++ [at_] := by rw [List.take_succ, ez] <;> rfl
          obtain ⟨bi, hbi⟩ : ∃ bi : Int, bi = (if decide (nV at_ = V.int 2) = true then 1 else 0) := ⟨_, rfl⟩
          have bi01 : (at_ = 2 ∧ bi = 1) ∨ (at_ ≠ 2 ∧ bi = 0) := by
            by_cases z : at_ = 2
            · left
              subst z
              exact ⟨rfl, by rw [hbi, if_pos (by simp [nV])]⟩
            · right
              exact ⟨z, by rw [hbi, if_neg (by simp [nV]; omega)]⟩
          refine ⟨_, rfl, _, rfl, rfl, .inr ⟨_, rfl, _, _, rfl, rfl, _, rfl, rfl, .inr ⟨_, rfl, _, _, rfl, rfl, .inl ⟨by decide, by decide⟩, _, _, rfl, rfl, ?_⟩⟩⟩
          rw [← hbi]
          refine ⟨so, 1 + bi, 40 - 34 * bi, rfl, q10, by omega, fun v H11 x11 q11 hv => ?_⟩
          obtain ⟨bad, rfl, hbad⟩ := hv
          have hbl11 := x11.lstS nblso hbl10
          have hpa11 := x11.lstS npa hpa10
          have fin : ∀ (c0' c1' c2' : Int), upd H11 bl (.lst [.int c0', .int c1', .int c2']) pa = some (.lst (pl.map nV)) := fun _ _ _ => (upd_ne pabl).trans hpa11
          have xx : ∀ (o : HO), Ext TT (some so) H8 (upd H11 bl o) := fun o => (x10.trans x11).mutL nbl hbl11 (fun z => nblso (Option.some.inj z).symm)
          have qq : ∀ (o : HO), Src (upd H11 bl o) so := fun o => (xx o).src q8
          refine ⟨_, rfl, _, rfl, bl, _, _, at_, rfl, rfl, hbl11, ?_, ?_⟩
          · show ixN 3 (at_ : Int) = some at_
            exact ixN_nat (by omega)
          rcases hat with e | e | e
          · subst e
            refine ⟨_, bad, b1, b2, rfl, xx _, qq _, fin _ _ _, upd_same, ?_⟩
            rw [tk]
            refine ⟨fun _ => fun z => by unfold Cnt at z; omega, fun z => absurd (by simp) z, fun z => d1 (by simpa using z), fun z => e1 (fun y => z (by simp [y])), fun z => d2 (by simpa using z), fun z => e2 (fun y => z (by simp [y]))⟩
          · subst e
            refine ⟨_, b0, bad, b2, rfl, xx _, qq _, fin _ _ _, upd_same, ?_⟩
            rw [tk]
            refine ⟨fun z => d0 (by simpa using z), fun z => e0 (fun y => z (by simp [y])), fun _ => fun z => by unfold Cnt at z; omega, fun z => absurd (by simp) z, fun z => d2 (by simpa using z), fun z => e2 (fun y => z (by simp [y]))⟩
          · subst e
            refine ⟨_, b0, b1, bad, rfl, xx _, qq _, fin _ _ _, upd_same, ?_⟩
            rw [tk]
            refine ⟨fun z => d0 (by simpa using z), fun z => e0 (fun y => z (by simp [y])), fun z => d1 (by simpa using z), fun z => e1 (fun y => z (by simp [y])), fun _ => fun z => by unfold Cts at z; omega, fun z => absurd (by simp) z⟩
      case after =>
        rintro σ H10 ⟨u10, b0, b1, b2, rfl, x10, q10, hpa10, hbl10, d0, e0, d1, e1, d2, e2⟩
        rw [List.length_map, List.take_length] at d0 e0 d1 e1 d2 e2
        have fin : ∃ (p0 : Nat) (b : Int), atI (pl.map nV) 0 = some (nV p0) ∧ atI [V.int b0, V.int b1, V.int b2] (p0 : Int) = some (.int b) ∧ ((¬ Cnt b0 ∧ b = b0) ∨ (Cnt b0 ∧ ¬ Cnt b1 ∧ b = b1) ∨ (Cnt b0 ∧ Cnt b1 ∧ ¬ Cts b2 ∧ b = b2)) := by
          rcases hpl with e | e | e | e | e | e | e <;> subst e
          · exact ⟨0, b0, atI_nat (j := 0) rfl, atI_nat (j := 0) rfl, .inl ⟨d0 (by simp), rfl⟩⟩
          · exact ⟨1, b1, atI_nat (j := 0) rfl, atI_nat (j := 1) rfl, .inr (.inl ⟨by rw [e0 (by simp)]; exact cU, d1 (by simp), rfl⟩)⟩
          · exact ⟨2, b2, atI_nat (j := 0) rfl, atI_nat (j := 2) rfl, .inr (.inr ⟨by rw [e0 (by simp)]; exact cU, by rw [e1 (by simp)]; exact cD, d2 (by simp), rfl⟩)⟩
          · exact ⟨0, b0, atI_nat (j := 0) rfl, atI_nat (j := 0) rfl, .inl ⟨d0 (by simp), rfl⟩⟩
          · exact ⟨0, b0, atI_nat (j := 0) rfl, atI_nat (j := 0) rfl, .inl ⟨d0 (by simp), rfl⟩⟩
          · exact ⟨1, b1, atI_nat (j := 0) rfl, atI_nat (j := 1) rfl, .inr (.inl ⟨by rw [e0 (by simp)]; exact cU, d1 (by simp), rfl⟩)⟩
          · exact ⟨0, b0, atI_nat (j := 0) rfl, atI_nat (j := 0) rfl, .inl ⟨d0 (by simp), rfl⟩⟩
        obtain ⟨p0, b, at0, at1, cond⟩ := fin
        refine ⟨_, rfl, bl, _, 0, _, rfl, rfl, SqL.of hbl10, atI_nat (j := 0) rfl, _, rfl, bl, _, 1, _, rfl, rfl, SqL.of hbl10, atI_nat (j := 1) rfl, _, rfl, bl, _, 2, _, rfl, rfl, SqL.of hbl10, atI_nat (j := 2) rfl, b0, b1, b2, b, rfl, cond, fun v H11 x11 hv => ?_⟩
        have hbl11 := x11.lst hbl10
        have hpa11 := x11.lst hpa10
        refine ⟨_, rfl, _, rfl, pa, _, 0, _, rfl, rfl, SqL.of hpa11, at0, bl, _, _, _, rfl, rfl, SqL.of hbl11, at1, s2, fun t nt => ?_⟩
        refine ⟨_, _, (hv.mono (TK.new nt)).dp, (Tp.tup upd_same (.cons (.str _) (.cons (.int _) .nil))).dp, shaped2 _ _, shaped2 _ _, _, rfl, ?_⟩
        rw [eqv2 _ _ (by decide +kernel)]
        refine iteF ?_
        have xe : Ext TT (some so) H8 (upd H11 t (.tup [.str "count", .int b])) := (x10.trans x11.toS).trans (Ext.new nt)
        exact ⟨_, _, _, _, _, _, _, _, _, _, rfl, x1.trans (x2.dropS nso (x28.trans xe))⟩
    · rintro σ H1 ⟨u1, u2, u3, u4, u5, u6, u7, u8, u9, u10, rfl, x1⟩
      exact k _
end
end R
end

-- EndMk
section
set_option Elab.async false
set_option linter.all false
set_option maxRecDepth 100000
set_option maxHeartbeats 4000000
namespace R
open PySem PySem.Spec PyProof.Rows L2 LamX NdefX LamP
theorem exm_by {K : PySem.W.Frag} {S F : Addr} {b : Bool} (h1 : PySem.W.subIn K (.ref F) (.type "BaseException") = some true) (h2 : PySem.W.isClsIn K F = true) (h3 : PySem.W.typeIn K (.ref F) = some (.type "type")) (h4 : PySem.W.subIn K (.ref S) (.ref F) = some b) : PySem.W.exmOne K (.ref S) (.ref F) = some b := by
  have a1 : (PySem.W.subIn K (.ref F) (.type "BaseException") == some true) = true := by rw [h1] <;> rfl
  have a2 : ((PySem.W.clsIn K F).isSome && PySem.W.typeIn K (.ref F) == some (.type "type")) = true := by
    rw [show (PySem.W.clsIn K F).isSome = true from h2, h3] <;> rfl
  unfold PySem.W.exmOne
  first
    | rw [if_pos a1, if_pos a2, h4]
    | (show (if _ = true then (if _ = true then _ else _) else _) = _; rw [if_pos a1, if_pos a2, h4])
theorem law_at {l : PySem.W.OpenLaw} {w : World} {K : PySem.W.Frag} {h : Heap} {mg : Str → Option Value} {fa : Addr} (X : K.In h) (T : Txt K mg) (hfa : mg "law" = some (.ref fa))
    (hb : ∀ (s : Shared) (u : Value), BindsTo s T.d_law ⟨[u], []⟩ [("_law_script", u)]) : LawAtS l w K CX0 7 63 "_law_script" mg fa h := by
  have e := hfa.symm.trans T.g_law
  cases e
  refine ⟨T.d_law, [], spLaw K [], ?_, ?_, ?_, hb, ?_, ?_⟩
  · intro p hp
    cases hp
  · intro p hp
    cases hp
  · intro p hp
    cases hp
  · intro H a ns _ hbits htab hS
    refine ⟨a, ns, rfl, hS, hbits, ?_, fun _ => rfl⟩
    intro p hp
    cases hp
  · intro base _ _ TB
    exact ok_law T []
theorem all_mk {l : PySem.W.OpenLaw} {w : World} {K : PySem.W.Frag} {h : Heap} {mg : Str → Option Value} {fa : Addr} (X : K.In h) (G : h.Ns mainGlobals mg) (hfa : mg "law" = some (.ref fa))
    {C_Refused N_Refused : Addr} {nm_Refused q_Refused : Str} {bs_Refused bm_Refused sub_Refused : List Value} {sn_Refused : List Str} {ab_Refused : Bool} {col_Refused : Option Bool} {dd_Refused : Option Addr} {m0_Refused m1_Refused m2_Refused m3_Refused m5_Refused : Option Value}
    {C_BadCount N_BadCount : Addr} {nm_BadCount q_BadCount : Str} {bs_BadCount bm_BadCount sub_BadCount : List Value} {sn_BadCount : List Str} {ab_BadCount : Bool} {col_BadCount : Option Bool} {dd_BadCount : Option Addr} {m0_BadCount m1_BadCount m2_BadCount m3_BadCount m5_BadCount : Option Value}
    {a_Refused_init : Addr} {od_Refused_init an_Refused_init : Option Addr} {sl_Refused_init : Array (Option Value)} {oc_Refused_init kV_Refused_init dc_Refused_init pm_Refused_init ct_Refused_init : Value} {cd_Refused_init : Value}
    {a_check_count : Addr} {od_check_count an_check_count : Option Addr} {sl_check_count : Array (Option Value)} {oc_check_count kV_check_count dc_check_count pm_check_count ct_check_count : Value} {cd_check_count : Value}
    {a_check_coats : Addr} {od_check_coats an_check_coats : Option Addr} {sl_check_coats : Array (Option Value)} {oc_check_coats kV_check_coats dc_check_coats pm_check_coats ct_check_coats : Value} {cd_check_coats : Value}
    {a_surplus_count : Addr} {od_surplus_count an_surplus_count : Option Addr} {sl_surplus_count : Array (Option Value)} {oc_surplus_count kV_surplus_count dc_surplus_count pm_surplus_count ct_surplus_count : Value} {cd_surplus_count : Value}
    {a_rows_with : Addr} {od_rows_with an_rows_with : Option Addr} {sl_rows_with : Array (Option Value)} {oc_rows_with kV_rows_with dc_rows_with pm_rows_with ct_rows_with : Value} {cd_rows_with : Value}
    {a_sums_of : Addr} {od_sums_of an_sums_of : Option Addr} {sl_sums_of : Array (Option Value)} {oc_sums_of kV_sums_of dc_sums_of pm_sums_of ct_sums_of : Value} {cd_sums_of : Value}
    {a_Lpool : Addr} {od_Lpool an_Lpool : Option Addr} {sl_Lpool : Array (Option Value)} {oc_Lpool kV_Lpool dc_Lpool pm_Lpool ct_Lpool : Value} {cd_Lpool : Value}
    {a_Ltake : Addr} {od_Ltake an_Ltake : Option Addr} {sl_Ltake : Array (Option Value)} {oc_Ltake kV_Ltake dc_Ltake pm_Ltake ct_Ltake : Value} {cd_Ltake : Value}
    {a_Lone : Addr} {od_Lone an_Lone : Option Addr} {sl_Lone : Array (Option Value)} {oc_Lone kV_Lone dc_Lone pm_Lone ct_Lone : Value} {cd_Lone : Value}
    {a_Lbeyond : Addr} {od_Lbeyond an_Lbeyond : Option Addr} {sl_Lbeyond : Array (Option Value)} {oc_Lbeyond kV_Lbeyond dc_Lbeyond pm_Lbeyond ct_Lbeyond : Value} {cd_Lbeyond : Value}
    {a_Lsplits : Addr} {od_Lsplits an_Lsplits : Option Addr} {sl_Lsplits : Array (Option Value)} {oc_Lsplits kV_Lsplits dc_Lsplits pm_Lsplits ct_Lsplits : Value} {cd_Lsplits : Value}
    {a_Ldue : Addr} {od_Ldue an_Ldue : Option Addr} {sl_Ldue : Array (Option Value)} {oc_Ldue kV_Ldue dc_Ldue pm_Ldue ct_Ldue : Value} {cd_Ldue : Value}
    {a_Lrefused : Addr} {od_Lrefused an_Lrefused : Option Addr} {sl_Lrefused : Array (Option Value)} {oc_Lrefused kV_Lrefused dc_Lrefused pm_Lrefused ct_Lrefused : Value} {cd_Lrefused : Value}
    {a_law : Addr} {od_law an_law : Option Addr} {sl_law : Array (Option Value)} {oc_law kV_law dc_law pm_law ct_law : Value} {cd_law : Value}
    {t_MOST_CELLS : Tok}
    {t_LEAST_COATS : Tok}
    {t_MOST_COATS : Tok}
    (aC_Refused : PySem.W.nsIn K mainGlobals "Refused" = some (some (.ref C_Refused)))
    (xL_Refused : K.lookup C_Refused = some (excClassObj nm_Refused q_Refused C_Refused N_Refused bs_Refused bm_Refused true sn_Refused sub_Refused ab_Refused col_Refused dd_Refused m0_Refused m1_Refused m2_Refused m3_Refused m5_Refused "ValueError.__new__"))
    (rV_Refused : PySem.HandSPX.refsVE bm_Refused = true)
    (sa_Refused : PySem.W.findIn K (.ref C_Refused) "__setattr__" = some (some (.builtin "object.__setattr__")))
    (ex_Refused : PySem.W.subIn K (.ref C_Refused) (.type "BaseException") = some true)
    (ty_Refused : PySem.W.typeIn K (.ref C_Refused) = some (.type "type"))
    (kC_Refused : PySem.W.keepIn K (.ref C_Refused) = true)
    (ga_Refused : PySem.W.findIn K (.ref C_Refused) "__getattribute__" = some (some (.builtin "BaseException.__getattribute__")))
    (gg_Refused : PySem.W.findIn K (.ref C_Refused) "__getattr__" = some none)
    (hd_Refused : PySem.W.hasDictIn K C_Refused = true)
    (is_Refused : PySem.W.isClsIn K C_Refused = true)
    (iC_Refused : PySem.W.findIn K (.ref C_Refused) "__init__" = some (some (.ref a_Refused_init)))
    (nw_Refused : PySem.W.findIn K (.ref C_Refused) "what" = some none)
    (aC_BadCount : PySem.W.nsIn K mainGlobals "BadCount" = some (some (.ref C_BadCount)))
    (xL_BadCount : K.lookup C_BadCount = some (excClassObj nm_BadCount q_BadCount C_BadCount N_BadCount bs_BadCount bm_BadCount true sn_BadCount sub_BadCount ab_BadCount col_BadCount dd_BadCount m0_BadCount m1_BadCount m2_BadCount m3_BadCount m5_BadCount "ValueError.__new__"))
    (rV_BadCount : PySem.HandSPX.refsVE bm_BadCount = true)
    (sa_BadCount : PySem.W.findIn K (.ref C_BadCount) "__setattr__" = some (some (.builtin "object.__setattr__")))
    (ex_BadCount : PySem.W.subIn K (.ref C_BadCount) (.type "BaseException") = some true)
    (ty_BadCount : PySem.W.typeIn K (.ref C_BadCount) = some (.type "type"))
    (kC_BadCount : PySem.W.keepIn K (.ref C_BadCount) = true)
    (ga_BadCount : PySem.W.findIn K (.ref C_BadCount) "__getattribute__" = some (some (.builtin "BaseException.__getattribute__")))
    (gg_BadCount : PySem.W.findIn K (.ref C_BadCount) "__getattr__" = some none)
    (hd_BadCount : PySem.W.hasDictIn K C_BadCount = true)
    (is_BadCount : PySem.W.isClsIn K C_BadCount = true)
    (iC_BadCount : PySem.W.findIn K (.ref C_BadCount) "__init__" = some (some (.ref a_Refused_init)))
    (nw_BadCount : PySem.W.findIn K (.ref C_BadCount) "what" = some none)
    (s_BadCount_BadCount : PySem.W.subIn K (.ref C_BadCount) (.ref C_BadCount) = some true)
    (s_BadCount_Refused : PySem.W.subIn K (.ref C_BadCount) (.ref C_Refused) = some true)
    (s_Refused_BadCount : PySem.W.subIn K (.ref C_Refused) (.ref C_BadCount) = some false)
    (s_Refused_Refused : PySem.W.subIn K (.ref C_Refused) (.ref C_Refused) = some true)
    (l_Refused_init : K.lookup a_Refused_init = some ⟨oc_Refused_init, od_Refused_init, .func (PySem.W.fnOf "__init__" "Refused.__init__" (defArgs s_Refused_init) (defBody s_Refused_init) (defScope s_Refused_init) .none kV_Refused_init dc_Refused_init pm_Refused_init an_Refused_init cd_Refused_init ct_Refused_init), sl_Refused_init⟩)
    (co_Refused_init : PySem.W.codeIn K cd_Refused_init "Refused.__init__" = true)
    (k_Refused_init : PySem.W.keepIn K (.ref a_Refused_init) = true)
    (g_check_count : PySem.W.nsIn K mainGlobals "check_count" = some (some (.ref a_check_count)))
    (l_check_count : K.lookup a_check_count = some ⟨oc_check_count, od_check_count, .func (PySem.W.fnOf "check_count" "check_count" (defArgs s_check_count) (defBody s_check_count) (defScope s_check_count) .none kV_check_count dc_check_count pm_check_count an_check_count cd_check_count ct_check_count), sl_check_count⟩)
    (co_check_count : PySem.W.codeIn K cd_check_count "check_count" = true)
    (k_check_count : PySem.W.keepIn K (.ref a_check_count) = true)
    (g_check_coats : PySem.W.nsIn K mainGlobals "check_coats" = some (some (.ref a_check_coats)))
    (l_check_coats : K.lookup a_check_coats = some ⟨oc_check_coats, od_check_coats, .func (PySem.W.fnOf "check_coats" "check_coats" (defArgs s_check_coats) (defBody s_check_coats) (defScope s_check_coats) .none kV_check_coats dc_check_coats pm_check_coats an_check_coats cd_check_coats ct_check_coats), sl_check_coats⟩)
    (co_check_coats : PySem.W.codeIn K cd_check_coats "check_coats" = true)
    (k_check_coats : PySem.W.keepIn K (.ref a_check_coats) = true)
    (g_surplus_count : PySem.W.nsIn K mainGlobals "surplus_count" = some (some (.ref a_surplus_count)))
    (l_surplus_count : K.lookup a_surplus_count = some ⟨oc_surplus_count, od_surplus_count, .func (PySem.W.fnOf "surplus_count" "surplus_count" (defArgs s_surplus_count) (defBody s_surplus_count) (defScope s_surplus_count) .none kV_surplus_count dc_surplus_count pm_surplus_count an_surplus_count cd_surplus_count ct_surplus_count), sl_surplus_count⟩)
    (co_surplus_count : PySem.W.codeIn K cd_surplus_count "surplus_count" = true)
    (k_surplus_count : PySem.W.keepIn K (.ref a_surplus_count) = true)
    (g_rows_with : PySem.W.nsIn K mainGlobals "rows_with" = some (some (.ref a_rows_with)))
    (l_rows_with : K.lookup a_rows_with = some ⟨oc_rows_with, od_rows_with, .func (PySem.W.fnOf "rows_with" "rows_with" (defArgs s_rows_with) (defBody s_rows_with) (defScope s_rows_with) .none kV_rows_with dc_rows_with pm_rows_with an_rows_with cd_rows_with ct_rows_with), sl_rows_with⟩)
    (co_rows_with : PySem.W.codeIn K cd_rows_with "rows_with" = true)
    (k_rows_with : PySem.W.keepIn K (.ref a_rows_with) = true)
    (g_sums_of : PySem.W.nsIn K mainGlobals "sums_of" = some (some (.ref a_sums_of)))
    (l_sums_of : K.lookup a_sums_of = some ⟨oc_sums_of, od_sums_of, .func (PySem.W.fnOf "sums_of" "sums_of" (defArgs s_sums_of) (defBody s_sums_of) (defScope s_sums_of) .none kV_sums_of dc_sums_of pm_sums_of an_sums_of cd_sums_of ct_sums_of), sl_sums_of⟩)
    (co_sums_of : PySem.W.codeIn K cd_sums_of "sums_of" = true)
    (k_sums_of : PySem.W.keepIn K (.ref a_sums_of) = true)
    (g_Lpool : PySem.W.nsIn K mainGlobals "_law_pool" = some (some (.ref a_Lpool)))
    (l_Lpool : K.lookup a_Lpool = some ⟨oc_Lpool, od_Lpool, .func (PySem.W.fnOf "_law_pool" "_law_pool" (defArgs s_Lpool) (defBody s_Lpool) (defScope s_Lpool) .none kV_Lpool dc_Lpool pm_Lpool an_Lpool cd_Lpool ct_Lpool), sl_Lpool⟩)
    (co_Lpool : PySem.W.codeIn K cd_Lpool "_law_pool" = true)
    (k_Lpool : PySem.W.keepIn K (.ref a_Lpool) = true)
    (g_Ltake : PySem.W.nsIn K mainGlobals "_law_take" = some (some (.ref a_Ltake)))
    (l_Ltake : K.lookup a_Ltake = some ⟨oc_Ltake, od_Ltake, .func (PySem.W.fnOf "_law_take" "_law_take" (defArgs s_Ltake) (defBody s_Ltake) (defScope s_Ltake) .none kV_Ltake dc_Ltake pm_Ltake an_Ltake cd_Ltake ct_Ltake), sl_Ltake⟩)
    (co_Ltake : PySem.W.codeIn K cd_Ltake "_law_take" = true)
    (k_Ltake : PySem.W.keepIn K (.ref a_Ltake) = true)
    (g_Lone : PySem.W.nsIn K mainGlobals "_law_one" = some (some (.ref a_Lone)))
    (l_Lone : K.lookup a_Lone = some ⟨oc_Lone, od_Lone, .func (PySem.W.fnOf "_law_one" "_law_one" (defArgs s_Lone) (defBody s_Lone) (defScope s_Lone) .none kV_Lone dc_Lone pm_Lone an_Lone cd_Lone ct_Lone), sl_Lone⟩)
    (co_Lone : PySem.W.codeIn K cd_Lone "_law_one" = true)
    (k_Lone : PySem.W.keepIn K (.ref a_Lone) = true)
    (g_Lbeyond : PySem.W.nsIn K mainGlobals "_law_beyond" = some (some (.ref a_Lbeyond)))
    (l_Lbeyond : K.lookup a_Lbeyond = some ⟨oc_Lbeyond, od_Lbeyond, .func (PySem.W.fnOf "_law_beyond" "_law_beyond" (defArgs s_Lbeyond) (defBody s_Lbeyond) (defScope s_Lbeyond) .none kV_Lbeyond dc_Lbeyond pm_Lbeyond an_Lbeyond cd_Lbeyond ct_Lbeyond), sl_Lbeyond⟩)
    (co_Lbeyond : PySem.W.codeIn K cd_Lbeyond "_law_beyond" = true)
    (k_Lbeyond : PySem.W.keepIn K (.ref a_Lbeyond) = true)
    (g_Lsplits : PySem.W.nsIn K mainGlobals "_law_splits" = some (some (.ref a_Lsplits)))
    (l_Lsplits : K.lookup a_Lsplits = some ⟨oc_Lsplits, od_Lsplits, .func (PySem.W.fnOf "_law_splits" "_law_splits" (defArgs s_Lsplits) (defBody s_Lsplits) (defScope s_Lsplits) .none kV_Lsplits dc_Lsplits pm_Lsplits an_Lsplits cd_Lsplits ct_Lsplits), sl_Lsplits⟩)
    (co_Lsplits : PySem.W.codeIn K cd_Lsplits "_law_splits" = true)
    (k_Lsplits : PySem.W.keepIn K (.ref a_Lsplits) = true)
    (g_Ldue : PySem.W.nsIn K mainGlobals "_law_due" = some (some (.ref a_Ldue)))
    (l_Ldue : K.lookup a_Ldue = some ⟨oc_Ldue, od_Ldue, .func (PySem.W.fnOf "_law_due" "_law_due" (defArgs s_Ldue) (defBody s_Ldue) (defScope s_Ldue) .none kV_Ldue dc_Ldue pm_Ldue an_Ldue cd_Ldue ct_Ldue), sl_Ldue⟩)
    (co_Ldue : PySem.W.codeIn K cd_Ldue "_law_due" = true)
    (k_Ldue : PySem.W.keepIn K (.ref a_Ldue) = true)
    (g_Lrefused : PySem.W.nsIn K mainGlobals "_law_refused" = some (some (.ref a_Lrefused)))
    (l_Lrefused : K.lookup a_Lrefused = some ⟨oc_Lrefused, od_Lrefused, .func (PySem.W.fnOf "_law_refused" "_law_refused" (defArgs s_Lrefused) (defBody s_Lrefused) (defScope s_Lrefused) .none kV_Lrefused dc_Lrefused pm_Lrefused an_Lrefused cd_Lrefused ct_Lrefused), sl_Lrefused⟩)
    (co_Lrefused : PySem.W.codeIn K cd_Lrefused "_law_refused" = true)
    (k_Lrefused : PySem.W.keepIn K (.ref a_Lrefused) = true)
    (g_law : PySem.W.nsIn K mainGlobals "law" = some (some (.ref a_law)))
    (l_law : K.lookup a_law = some ⟨oc_law, od_law, .func (PySem.W.fnOf "law" "law" (defArgs s_law) (defBody s_law) (defScope s_law) .none kV_law dc_law pm_law an_law cd_law ct_law), sl_law⟩)
    (co_law : PySem.W.codeIn K cd_law "law" = true)
    (k_law : PySem.W.keepIn K (.ref a_law) = true)
    (tI : PySem.W.typeIn K (.ref a_Refused_init) = some (.type "function"))
    (c_MOST_CELLS : PySem.W.nsIn K mainGlobals "MOST_CELLS" = some (some (.int 40 t_MOST_CELLS)))
    (c_LEAST_COATS : PySem.W.nsIn K mainGlobals "LEAST_COATS" = some (some (.int 2 t_LEAST_COATS)))
    (c_MOST_COATS : PySem.W.nsIn K mainGlobals "MOST_COATS" = some (some (.int 6 t_MOST_COATS)))
    (m_comb : PySem.W.nsIn K mainGlobals "comb" = some (some (.builtin "math.comb")))
    (n_bool : PySem.W.nsIn K mainGlobals "bool" = some (none))
    (n_int : PySem.W.nsIn K mainGlobals "int" = some (none))
    (n_isinstance : PySem.W.nsIn K mainGlobals "isinstance" = some (none))
    (n_len : PySem.W.nsIn K mainGlobals "len" = some (none))
    (n_max : PySem.W.nsIn K mainGlobals "max" = some (none))
    (n_min : PySem.W.nsIn K mainGlobals "min" = some (none))
    (n_range : PySem.W.nsIn K mainGlobals "range" = some (none))
    (n_sum : PySem.W.nsIn K mainGlobals "sum" = some (none))
    (n_tuple : PySem.W.nsIn K mainGlobals "tuple" = some (none)) : LawAtS l w K CX0 7 63 "_law_script" mg fa h :=
  law_at X {
    C_Refused := C_Refused,
    e_Refused := ⟨PySem.W.mg_of X G aC_Refused, ⟨⟨_, _, _, _, _, _, _, _, _, _, _, _, _, _, _, xL_Refused, rV_Refused⟩, sa_Refused, ex_Refused, ty_Refused, kC_Refused⟩, ⟨ga_Refused, gg_Refused, ex_Refused, hd_Refused⟩, iC_Refused, nw_Refused⟩,
    C_BadCount := C_BadCount,
    e_BadCount := ⟨PySem.W.mg_of X G aC_BadCount, ⟨⟨_, _, _, _, _, _, _, _, _, _, _, _, _, _, _, xL_BadCount, rV_BadCount⟩, sa_BadCount, ex_BadCount, ty_BadCount, kC_BadCount⟩, ⟨ga_BadCount, gg_BadCount, ex_BadCount, hd_BadCount⟩, iC_BadCount, nw_BadCount⟩,
    x_BadCount_BadCount := exm_by ex_BadCount is_BadCount ty_BadCount s_BadCount_BadCount,
    x_BadCount_Refused := exm_by ex_Refused is_Refused ty_Refused s_BadCount_Refused,
    x_Refused_BadCount := exm_by ex_BadCount is_BadCount ty_BadCount s_Refused_BadCount,
    x_Refused_Refused := exm_by ex_Refused is_Refused ty_Refused s_Refused_Refused,
    a_Refused_init := a_Refused_init,
    d_Refused_init := (PySem.W.fnOf "__init__" "Refused.__init__" (defArgs s_Refused_init) (defBody s_Refused_init) (defScope s_Refused_init) .none kV_Refused_init dc_Refused_init pm_Refused_init an_Refused_init cd_Refused_init ct_Refused_init),
    F_Refused_init := fun_mk l_Refused_init co_Refused_init k_Refused_init,
    b_Refused_init := (fun_mk (st := s_Refused_init) l_Refused_init co_Refused_init k_Refused_init).binds (ps := ["self", "what"]) (fun _ _ _ _ _ _ us hl => match us, hl with | [_, _], _ => rfl),
    g_check_count := PySem.W.mg_of X G g_check_count,
    a_check_count := a_check_count,
    d_check_count := (PySem.W.fnOf "check_count" "check_count" (defArgs s_check_count) (defBody s_check_count) (defScope s_check_count) .none kV_check_count dc_check_count pm_check_count an_check_count cd_check_count ct_check_count),
    F_check_count := fun_mk l_check_count co_check_count k_check_count,
    b_check_count := (fun_mk (st := s_check_count) l_check_count co_check_count k_check_count).binds (ps := ["number", "least", "most"]) (fun _ _ _ _ _ _ us hl => match us, hl with | [_, _, _], _ => rfl),
    g_check_coats := PySem.W.mg_of X G g_check_coats,
    a_check_coats := a_check_coats,
    d_check_coats := (PySem.W.fnOf "check_coats" "check_coats" (defArgs s_check_coats) (defBody s_check_coats) (defScope s_check_coats) .none kV_check_coats dc_check_coats pm_check_coats an_check_coats cd_check_coats ct_check_coats),
    F_check_coats := fun_mk l_check_coats co_check_coats k_check_coats,
    b_check_coats := (fun_mk (st := s_check_coats) l_check_coats co_check_coats k_check_coats).binds (ps := ["coats"]) (fun _ _ _ _ _ _ us hl => match us, hl with | [_], _ => rfl),
    g_surplus_count := PySem.W.mg_of X G g_surplus_count,
    a_surplus_count := a_surplus_count,
    d_surplus_count := (PySem.W.fnOf "surplus_count" "surplus_count" (defArgs s_surplus_count) (defBody s_surplus_count) (defScope s_surplus_count) .none kV_surplus_count dc_surplus_count pm_surplus_count an_surplus_count cd_surplus_count ct_surplus_count),
    F_surplus_count := fun_mk l_surplus_count co_surplus_count k_surplus_count,
    b_surplus_count := (fun_mk (st := s_surplus_count) l_surplus_count co_surplus_count k_surplus_count).binds (ps := ["light", "dark", "coats"]) (fun _ _ _ _ _ _ us hl => match us, hl with | [_, _, _], _ => rfl),
    g_rows_with := PySem.W.mg_of X G g_rows_with,
    a_rows_with := a_rows_with,
    d_rows_with := (PySem.W.fnOf "rows_with" "rows_with" (defArgs s_rows_with) (defBody s_rows_with) (defScope s_rows_with) .none kV_rows_with dc_rows_with pm_rows_with an_rows_with cd_rows_with ct_rows_with),
    F_rows_with := fun_mk l_rows_with co_rows_with k_rows_with,
    b_rows_with := (fun_mk (st := s_rows_with) l_rows_with co_rows_with k_rows_with).binds (ps := ["above", "below", "coats"]) (fun _ _ _ _ _ _ us hl => match us, hl with | [_, _, _], _ => rfl),
    g_sums_of := PySem.W.mg_of X G g_sums_of,
    a_sums_of := a_sums_of,
    d_sums_of := (PySem.W.fnOf "sums_of" "sums_of" (defArgs s_sums_of) (defBody s_sums_of) (defScope s_sums_of) .none kV_sums_of dc_sums_of pm_sums_of an_sums_of cd_sums_of ct_sums_of),
    F_sums_of := fun_mk l_sums_of co_sums_of k_sums_of,
    b_sums_of := (fun_mk (st := s_sums_of) l_sums_of co_sums_of k_sums_of).binds (ps := ["total", "many"]) (fun _ _ _ _ _ _ us hl => match us, hl with | [_, _], _ => rfl),
    g_Lpool := PySem.W.mg_of X G g_Lpool,
    a_Lpool := a_Lpool,
    d_Lpool := (PySem.W.fnOf "_law_pool" "_law_pool" (defArgs s_Lpool) (defBody s_Lpool) (defScope s_Lpool) .none kV_Lpool dc_Lpool pm_Lpool an_Lpool cd_Lpool ct_Lpool),
    F_Lpool := fun_mk l_Lpool co_Lpool k_Lpool,
    b_Lpool := (fun_mk (st := s_Lpool) l_Lpool co_Lpool k_Lpool).binds (ps := ["_law_script", "_law_k"]) (fun _ _ _ _ _ _ us hl => match us, hl with | [_, _], _ => rfl),
    g_Ltake := PySem.W.mg_of X G g_Ltake,
    a_Ltake := a_Ltake,
    d_Ltake := (PySem.W.fnOf "_law_take" "_law_take" (defArgs s_Ltake) (defBody s_Ltake) (defScope s_Ltake) .none kV_Ltake dc_Ltake pm_Ltake an_Ltake cd_Ltake ct_Ltake),
    F_Ltake := fun_mk l_Ltake co_Ltake k_Ltake,
    b_Ltake := (fun_mk (st := s_Ltake) l_Ltake co_Ltake k_Ltake).binds (ps := ["_law_source", "_law_top"]) (fun _ _ _ _ _ _ us hl => match us, hl with | [_, _], _ => rfl),
    g_Lone := PySem.W.mg_of X G g_Lone,
    a_Lone := a_Lone,
    d_Lone := (PySem.W.fnOf "_law_one" "_law_one" (defArgs s_Lone) (defBody s_Lone) (defScope s_Lone) .none kV_Lone dc_Lone pm_Lone an_Lone cd_Lone ct_Lone),
    F_Lone := fun_mk l_Lone co_Lone k_Lone,
    b_Lone := (fun_mk (st := s_Lone) l_Lone co_Lone k_Lone).binds (ps := ["_law_source", "_law_things"]) (fun _ _ _ _ _ _ us hl => match us, hl with | [_, _], _ => rfl),
    g_Lbeyond := PySem.W.mg_of X G g_Lbeyond,
    a_Lbeyond := a_Lbeyond,
    d_Lbeyond := (PySem.W.fnOf "_law_beyond" "_law_beyond" (defArgs s_Lbeyond) (defBody s_Lbeyond) (defScope s_Lbeyond) .none kV_Lbeyond dc_Lbeyond pm_Lbeyond an_Lbeyond cd_Lbeyond ct_Lbeyond),
    F_Lbeyond := fun_mk l_Lbeyond co_Lbeyond k_Lbeyond,
    b_Lbeyond := (fun_mk (st := s_Lbeyond) l_Lbeyond co_Lbeyond k_Lbeyond).binds (ps := ["_law_source", "_law_least", "_law_most"]) (fun _ _ _ _ _ _ us hl => match us, hl with | [_, _, _], _ => rfl),
    g_Lsplits := PySem.W.mg_of X G g_Lsplits,
    a_Lsplits := a_Lsplits,
    d_Lsplits := (PySem.W.fnOf "_law_splits" "_law_splits" (defArgs s_Lsplits) (defBody s_Lsplits) (defScope s_Lsplits) .none kV_Lsplits dc_Lsplits pm_Lsplits an_Lsplits cd_Lsplits ct_Lsplits),
    F_Lsplits := fun_mk l_Lsplits co_Lsplits k_Lsplits,
    b_Lsplits := (fun_mk (st := s_Lsplits) l_Lsplits co_Lsplits k_Lsplits).binds (ps := ["_law_many", "_law_total"]) (fun _ _ _ _ _ _ us hl => match us, hl with | [_, _], _ => rfl),
    g_Ldue := PySem.W.mg_of X G g_Ldue,
    a_Ldue := a_Ldue,
    d_Ldue := (PySem.W.fnOf "_law_due" "_law_due" (defArgs s_Ldue) (defBody s_Ldue) (defScope s_Ldue) .none kV_Ldue dc_Ldue pm_Ldue an_Ldue cd_Ldue ct_Ldue),
    F_Ldue := fun_mk l_Ldue co_Ldue k_Ldue,
    b_Ldue := (fun_mk (st := s_Ldue) l_Ldue co_Ldue k_Ldue).binds (ps := ["_law_ups", "_law_downs", "_law_shades"]) (fun _ _ _ _ _ _ us hl => match us, hl with | [_, _, _], _ => rfl),
    g_Lrefused := PySem.W.mg_of X G g_Lrefused,
    a_Lrefused := a_Lrefused,
    d_Lrefused := (PySem.W.fnOf "_law_refused" "_law_refused" (defArgs s_Lrefused) (defBody s_Lrefused) (defScope s_Lrefused) .none kV_Lrefused dc_Lrefused pm_Lrefused an_Lrefused cd_Lrefused ct_Lrefused),
    F_Lrefused := fun_mk l_Lrefused co_Lrefused k_Lrefused,
    b_Lrefused := (fun_mk (st := s_Lrefused) l_Lrefused co_Lrefused k_Lrefused).binds (ps := ["_law_ups", "_law_downs", "_law_shades"]) (fun _ _ _ _ _ _ us hl => match us, hl with | [_, _, _], _ => rfl),
    g_law := PySem.W.mg_of X G g_law,
    a_law := a_law,
    d_law := (PySem.W.fnOf "law" "law" (defArgs s_law) (defBody s_law) (defScope s_law) .none kV_law dc_law pm_law an_law cd_law ct_law),
    F_law := fun_mk l_law co_law k_law,
    b_law := (fun_mk (st := s_law) l_law co_law k_law).binds (ps := ["_law_script"]) (fun _ _ _ _ _ _ us hl => match us, hl with | [_], _ => rfl),
    tI := tI,
    t_MOST_CELLS := t_MOST_CELLS,
    c_MOST_CELLS := PySem.W.mg_of X G c_MOST_CELLS,
    t_LEAST_COATS := t_LEAST_COATS,
    c_LEAST_COATS := PySem.W.mg_of X G c_LEAST_COATS,
    t_MOST_COATS := t_MOST_COATS,
    c_MOST_COATS := PySem.W.mg_of X G c_MOST_COATS,
    m_comb := PySem.W.mg_of X G m_comb,
    n_bool := PySem.W.mg_none_of X G n_bool,
    n_int := PySem.W.mg_none_of X G n_int,
    n_isinstance := PySem.W.mg_none_of X G n_isinstance,
    n_len := PySem.W.mg_none_of X G n_len,
    n_max := PySem.W.mg_none_of X G n_max,
    n_min := PySem.W.mg_none_of X G n_min,
    n_range := PySem.W.mg_none_of X G n_range,
    n_sum := PySem.W.mg_none_of X G n_sum,
    n_tuple := PySem.W.mg_none_of X G n_tuple } hfa fun s u => .of_eq rfl
end R
end

-- Final
section
open PySem PySem.W PyProof.Rows
set_option Elab.async false
set_option maxRecDepth 100000 in
set_option maxHeartbeats 0 in
theorem PySem.Challenge.cw_pairfloors_k48_surpluses_listed_holds : PySem.Challenge.rw_pairfloors_k48_surpluses_listed.Holds := by
  w_on; o_law; k_head; (case hw => w_witness2)
  k_fill
  refine LamX.walk_ofTs (l := PySem.Challenge.rw_pairfloors_k48_surpluses_listed) (n := 63) (k := 7) (CX := fun _ => L2.CX0) (x := "_law_script") rfl (by decide) rfl ⟨rfl, by decide, by decide⟩ (fun w h Y => PySem.W.kIn_of Y) ?F (fun _ _ _ _ _ z => z)
  case F =>
    intro w mg fa h Y KX G hmg
    refine' R.all_mk KX G hmg ?aC_Refused ?xL_Refused ?rV_Refused ?sa_Refused ?ex_Refused ?ty_Refused ?kC_Refused ?ga_Refused ?gg_Refused ?hd_Refused ?is_Refused ?iC_Refused ?nw_Refused ?aC_BadCount ?xL_BadCount ?rV_BadCount ?sa_BadCount ?ex_BadCount ?ty_BadCount ?kC_BadCount ?ga_BadCount ?gg_BadCount ?hd_BadCount ?is_BadCount ?iC_BadCount ?nw_BadCount ?s_BadCount_BadCount ?s_BadCount_Refused ?s_Refused_BadCount ?s_Refused_Refused ?l_Refused_init ?co_Refused_init ?k_Refused_init ?g_check_count ?l_check_count ?co_check_count ?k_check_count ?g_check_coats ?l_check_coats ?co_check_coats ?k_check_coats ?g_surplus_count ?l_surplus_count ?co_surplus_count ?k_surplus_count ?g_rows_with ?l_rows_with ?co_rows_with ?k_rows_with ?g_sums_of ?l_sums_of ?co_sums_of ?k_sums_of ?g_Lpool ?l_Lpool ?co_Lpool ?k_Lpool ?g_Ltake ?l_Ltake ?co_Ltake ?k_Ltake ?g_Lone ?l_Lone ?co_Lone ?k_Lone ?g_Lbeyond ?l_Lbeyond ?co_Lbeyond ?k_Lbeyond ?g_Lsplits ?l_Lsplits ?co_Lsplits ?k_Lsplits ?g_Ldue ?l_Ldue ?co_Ldue ?k_Ldue ?g_Lrefused ?l_Lrefused ?co_Lrefused ?k_Lrefused ?g_law ?l_law ?co_law ?k_law ?tI ?c_MOST_CELLS ?c_LEAST_COATS ?c_MOST_COATS ?m_comb ?n_bool ?n_int ?n_isinstance ?n_len ?n_max ?n_min ?n_range ?n_sum ?n_tuple
    case aC_Refused => k_is
    case xL_Refused => k_is
    case rV_Refused => first | rfl | decide +kernel | k_is
    case sa_Refused => k_is
    case ex_Refused => k_is
    case ty_Refused => k_is
    case kC_Refused => k_is
    case ga_Refused => k_is
    case gg_Refused => k_is
    case hd_Refused => k_is
    case is_Refused => k_is
    case iC_Refused => k_is
    case nw_Refused => k_is
    case aC_BadCount => k_is
    case xL_BadCount => k_is
    case rV_BadCount => first | rfl | decide +kernel | k_is
    case sa_BadCount => k_is
    case ex_BadCount => k_is
    case ty_BadCount => k_is
    case kC_BadCount => k_is
    case ga_BadCount => k_is
    case gg_BadCount => k_is
    case hd_BadCount => k_is
    case is_BadCount => k_is
    case iC_BadCount => k_is
    case nw_BadCount => k_is
    case s_BadCount_BadCount => first | rfl | k_is | decide +kernel
    case s_BadCount_Refused => first | rfl | k_is | decide +kernel
    case s_Refused_BadCount => first | rfl | k_is | decide +kernel
    case s_Refused_Refused => first | rfl | k_is | decide +kernel
    case l_Refused_init => k_is
    case co_Refused_init => k_is
    case k_Refused_init => k_is
    case g_check_count => k_is
    case l_check_count => k_is
    case co_check_count => k_is
    case k_check_count => k_is
    case g_check_coats => k_is
    case l_check_coats => k_is
    case co_check_coats => k_is
    case k_check_coats => k_is
    case g_surplus_count => k_is
    case l_surplus_count => k_is
    case co_surplus_count => k_is
    case k_surplus_count => k_is
    case g_rows_with => k_is
    case l_rows_with => k_is
    case co_rows_with => k_is
    case k_rows_with => k_is
    case g_sums_of => k_is
    case l_sums_of => k_is
    case co_sums_of => k_is
    case k_sums_of => k_is
    case g_Lpool => k_is
    case l_Lpool => k_is
    case co_Lpool => k_is
    case k_Lpool => k_is
    case g_Ltake => k_is
    case l_Ltake => k_is
    case co_Ltake => k_is
    case k_Ltake => k_is
    case g_Lone => k_is
    case l_Lone => k_is
    case co_Lone => k_is
    case k_Lone => k_is
    case g_Lbeyond => k_is
    case l_Lbeyond => k_is
    case co_Lbeyond => k_is
    case k_Lbeyond => k_is
    case g_Lsplits => k_is
    case l_Lsplits => k_is
    case co_Lsplits => k_is
    case k_Lsplits => k_is
    case g_Ldue => k_is
    case l_Ldue => k_is
    case co_Ldue => k_is
    case k_Ldue => k_is
    case g_Lrefused => k_is
    case l_Lrefused => k_is
    case co_Lrefused => k_is
    case k_Lrefused => k_is
    case g_law => k_is
    case l_law => k_is
    case co_law => k_is
    case k_law => k_is
    case tI => k_is
    case c_MOST_CELLS => k_is
    case c_LEAST_COATS => k_is
    case c_MOST_COATS => k_is
    case m_comb => k_is
    case n_bool => k_is
    case n_int => k_is
    case n_isinstance => k_is
    case n_len => k_is
    case n_max => k_is
    case n_min => k_is
    case n_range => k_is
    case n_sum => k_is
    case n_tuple => k_is
end
