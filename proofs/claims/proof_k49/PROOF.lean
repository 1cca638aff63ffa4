import PyProof.Rows.All
import Wide.All
import OpenK.AllK
import Wide.FinOn
import HandS.ForMost
import HandS.Exc
import HandS.ExcOwn
import HandS.ExcInit
import HandS.ExcField
import HandS.TryMany
import HandS.WordsExc
import HandS.Nested
import HandS.Walk
import HandS.IsInst
import HandS.TupLe
import HandS.TupAny
import HandS.Wide
import HandS.Deep
import HandS.SortRule
import HandS.DictComp
import HandS.Conv
import HandS.Lambda
import KE.GoesMore
import KE.GoesEnum
import KE.KNestM
import PySem.Challenge.RW_pairfloors_k49_surpluses_to_forty
import HandS.WideMore
import HandS.Gcd
import KE.KMathGC
import HandS.EndTab
import KE.KLam
-- Lam
section
set_option Elab.async false
set_option linter.all false
set_option maxRecDepth 100000
set_option maxHeartbeats 4000000
/-! Lam: a lambda with parameters is made in a def, handed to a second def and called there. -/
namespace LamP
open PySem PySem.Spec PyProof.Rows L2 LamX NdefX
/-- at f stands what `lambda ..: b` makes -/
def LamIs (h : Heap) (f : Addr) (F : NF) (b : Expr) : Prop :=
  ∃ od sl pm ctv, h.get? f = some { cls := .type "function", dict := od, data := .func (PySem.W.kla_fn "<lambda>" F.qual F.params b F.scope F.cl pm (.ref F.c) ctv), slots := sl }
def LamO (f : Addr) (F : NF) (b : Expr) : HO := .ext fun h => LamIs h f F b
theorem lamO_ne {f : Addr} {F : NF} {b : Expr} (ps : Array Value) : LamO f F b ≠ .tbl ps := by
  unfold LamO
  exact fun z => HO.noConfusion z
theorem lam_is {P : Program} {w : World} {H : Hp} {h : Heap} {f : Addr} {F : NF} {b : Expr} (hok : HOk P w H h) (e : H f = some (LamO f F b)) : LamIs h f F b :=
  (show LamIs h f F b ∧ _ ∧ _ from hok f _ e).1
section
variable {T : List NTab} {H : Hp} {P c' : Addr} {ps : Array Value} {pos : Pos} {q : Str}
/-- the table at P has a new row, for the code object at c' -/
def grow (H : Hp) (P : Addr) (ps : Array Value) (pos : Pos) (c' : Addr) (q : Str) : Hp := upd (upd H P (.tbl (ps ++ #[rawInt pos.line, rawInt pos.col, .ref c']))) c' (CodeO c' q)
theorem grow_other {b : Addr} (h1 : b ≠ P) (h2 : b ≠ c') : grow H P ps pos c' q b = H b := (upd_ne h2).trans (upd_ne h1)
theorem grow_kept (hP : H P = some (.tbl ps)) (nC : H c' = none) : ExtN H (grow H P ps pos c' q) := by
  intro b o e plain
  refine (grow_other (fun z => ?_) (ne_of_none e nC)).trans e
  subst z
  exact plain ps (Option.some.inj (e.symm.trans hP))
theorem grow_none {b : Addr} (e : grow H P ps pos c' q b = none) : H b = none := upd_none (upd_none e)
theorem grow_tabs (hT : TabsN T H) (hP : H P = some (.tbl ps)) (well : TriplesOk ps.toList) (only : ∀ p ∈ T, p.1 = P → p.2 = fun _ _ => q) (nC : H c' = none) : TabsN T (grow H P ps pos c' q) := by
  intro p hp
  obtain ⟨qs, at_, ok, rows⟩ := hT p hp
  have keep := grow_kept (pos := pos) (q := q) hP nC
  by_cases here : p.1 = P
  · have same : qs = ps := by
      rw [here, hP] at at_
      cases at_
      rfl
    subst same
    refine ⟨qs ++ #[rawInt pos.line, rawInt pos.col, .ref c'], ?_, ?_, fun pos2 cv found => ?_⟩
    · rw [here]
      exact (upd_ne (ne_of_none hP nC)).trans upd_same
    · rw [Array.toList_append]
      exact PySem.TriplesOk_snoc _ _ _ _ ok
    · rw [Array.toList_append] at found
      rcases among_app2 _ ok found with old | ⟨new, _⟩
      · obtain ⟨c0, e1, e2⟩ := rows pos2 cv old
        exact ⟨c0, e1, keep _ _ e2 codeO_ne⟩
      · exact ⟨c', new, by rw [only p hp here]; exact upd_same⟩
  · refine ⟨qs, ?_, ok, fun pos2 cv found => ?_⟩
    · exact (grow_other here (ne_of_none at_ nC)).trans at_
    · exact (rows pos2 cv found).imp fun _ z => ⟨z.1, keep _ _ z.2 codeO_ne⟩
end
/-- a lambda made: F its data but for the code object's place -/
structure Made (T : List NTab) (F : Addr → NF) (b : Expr) (H H1 : Hp) (f c' : Addr) : Prop where
  kept : ExtN H H1
  back : ∀ a, H1 a = none → H a = none
  tabs : TabsN T H1
  new : H f = none
  lam : H1 f = some (LamO f (F c') b)
  code : H1 c' = some (CodeO c' (F c').qual)
theorem made_of {T : List NTab} {F : Addr → NF} {b : Expr} {H H1 : Hp} {f c' : Addr} (kept : ExtN H H1) (back : ∀ a, H1 a = none → H a = none) (tabs : TabsN T H1) (n1 : H1 f = none) (code : H1 c' = some (CodeO c' (F c').qual)) : Made T F b H (upd H1 f (LamO f (F c') b)) f c' :=
  have step : ∀ a o, H1 a = some o → upd H1 f (LamO f (F c') b) a = some o := fun a o e => (upd_ne (ne_of_none e n1)).trans e
  ⟨fun a o e p => step a o (kept a o e p), fun a e => back a (upd_none e), tabs.ext step, back f n1, upd_same, step c' _ code⟩
section
variable {X : Cx} {pins : List (Addr × Obj)} {σ : L2.St} {H : Hp} {s : Shared}
/-- its function object laid on top of the heap -/
theorem inv_lam {F : NF} {b : Expr} {tk : Nat} {pm ctv : Value} (I : Inv X pins σ H s) :
    Inv X pins σ (upd H s.heap.objs.size (LamO s.heap.objs.size F b)) { s with heap := s.heap.push (PySem.W.kla_obj "<lambda>" F.qual F.params b F.scope F.cl pm F.c ctv), toks := tk } := by
  have top := Heap.get?_push_size s.heap (o := PySem.W.kla_obj "<lambda>" F.qual F.params b F.scope F.cl pm F.c ctv) rfl
  refine I.laid (fun _ _ e => Heap.get?_push_of_some _ e) (Nat.le_refl _) ⟨⟨_, _, _, _, top⟩, ⟨_, top⟩, fun _ _ is st => ?_⟩
  exact is.imp fun _ y => y.imp fun _ y => y.imp fun _ y => y.imp fun _ e => st _ e
def mkLam (X : Cx) (params : Arguments) (scope : Scope) (c' : Addr) : NF := ⟨"<lambda>", X.env.qual ++ "<lambda>", params, [], scope, cloFrom X.env.cells scope.names [], c'⟩
/-- the reading of a lambda: a new function object -/
def tLamE (T : List NTab) (mk : Addr → NF) (b : Expr) : TE := fun σ H Q => TabsN T H ∧ ∀ (f c' : Addr) (H1 : Hp), Made T mk b H H1 f c' → Q (.ref f) H1
theorem pe_lam {T : List NTab} {c P : Addr} {params : Arguments} {body : Expr} {scope : Scope} {pos : Pos} (TB : TabB X.base X.mg c P) (hcode : X.env.code = .ref c) (mem : (P, fun _ _ => X.env.qual ++ "<lambda>") ∈ T)
    (only : ∀ p ∈ T, p.1 = P → p.2 = fun _ _ => X.env.qual ++ "<lambda>") (hdef : defaultsOf params X.env = ([], []))
    (hfree : ∀ y ∈ scope.names, y.2 = .free → X.env.scope.names.lookup y.1 = some .cell ∨ X.env.scope.names.lookup y.1 = some .free) : PE X (.Lambda params body scope pos) (tLamE T (mkLam X params scope) body) := by
  constructor
  rintro pins s σ H Q I ⟨hT, h⟩
  have clo := closure_ok (scope := scope) (env := X.env) fun y hy e => I.ok.has _ (hfree y hy e)
  obtain ⟨ps, hP, well, rows⟩ := (hT _ mem : TabN H P fun _ _ => X.env.qual ++ "<lambda>")
  have inP : s.heap.get? P = some (PySem.W.tabObj ps) := I.hok P _ hP
  have ends : ∀ {g : Heap} {tk : Nat} {H1 : Hp} {c1 : Addr} (ctv : Value), Inv X pins σ H1 { s with heap := g, toks := tk } → ExtN H H1 → (∀ a, H1 a = none → H a = none) → TabsN T H1 → H1 c1 = some (CodeO c1 (X.env.qual ++ "<lambda>")) →
      EP X pins σ Q (.ref g.objs.size) { s with heap := g.push (PySem.W.kla_obj "<lambda>" (X.env.qual ++ "<lambda>") params body scope (cloFrom X.env.cells scope.names []) ((X.mg "__name__").getD .none) c1 ctv), toks := tk } := fun ctv J kept back tabs code =>
    ⟨.ref _, _, inv_lam (F := mkLam X params scope _) J, rfl, h _ _ _ (made_of kept back tabs (J.hok.fresh (Nat.le_refl _)) code)⟩
  refine PySem.W.kla_eval hdef ?_
  rcases known : codeAmong pos ps.toList with _ | cv
  · refine PySem.W.kla_makeFunction clo I.ok.glob (I.mod.glob.keeps I.bk) hcode (TB.code.keeps I.bk) inP well known TB.gP (TB.bm.keeps I.bk) fun c1 ctv g tk but new _ rec row => ?_
    obtain ⟨_, oc, vs, t, same, hoc, hd, hv⟩ := rec
    cases same
    have nC := I.hok.fresh new
    have J : Inv X pins σ (grow H P ps pos c1 (X.env.qual ++ "<lambda>")) { s with heap := g, toks := tk } := inv_table I hP (fun b o hb e => but b o hb e) row new ⟨oc, vs, t, hoc, hd, hv⟩
    exact ends ctv J (grow_kept hP nC) (fun _ => grow_none) (grow_tabs hT hP well only nC) upd_same
  · obtain ⟨c1, rfl, code⟩ := rows pos cv known
    exact PySem.W.kla_makeFunctionHit clo I.ok.glob (I.mod.glob.keeps I.bk) hcode (TB.code.keeps I.bk) inP well known (TB.bm.keeps I.bk) fun ctv g tk kept _ =>
      ends ctv (I.kept kept) (ExtN.refl H) (fun _ e => e) hT code
end
/-! ### the lambda called -/
/-- the lambda F at f keeps sp, called at a room of k -/
structure LOk (P : Program) (w : World) (K : PySem.W.Frag) (mg : Str → Option Value) (base : Heap) (CX : CXT) (k : Nat) (f : Addr) (F : NF) (b : Expr) (ps fr : List Str) (sp : List (Option V) → Sp) : Prop where
  len : ∀ ws vs H Q E, sp ws vs H Q E → vs.length = ps.length
  run : ∀ A outer s H us vs ws Q E, Room k A → Env0 P w K mg base A outer s H → H f = some (LamO f F b) ∧ H F.c = some (CodeO F.c F.qual) → CellsAt F.cl fr ws s.heap H → Vals vs us → sp ws vs H Q E → codeAny (model P w) A (.call (.ref f) ⟨us, []⟩) (CR CX outer P w H s Q E) s
theorem lok_of {CX : CXT} {P : Program} {w : World} {K : PySem.W.Frag} {mg : Str → Option Value} {base : Heap} {N ps fr : List Str} {F : NF} {b : Expr} {f : Addr} {k : Nat} {sp : List (Option V) → Sp}
    (S : NScope N ps fr F.scope) (binds : ∀ (pm ctv : Value) (us : List Value), us.length = ps.length → bindArgs (PySem.W.kla_fn "<lambda>" F.qual F.params b F.scope F.cl pm (.ref F.c) ctv) ⟨us, []⟩ = pure (ps.zip us)) (len : ∀ ws vs H Q E, sp ws vs H Q E → vs.length = ps.length)
    (body : ∀ A outer s H vs ws Q E, Room k (A.deeper (envF F f s.heap.objs.size)) → H f = some (LamO f F b) → H F.c = some (CodeO F.c F.qual) → ws.length = fr.length → sp ws vs H Q E → ∃ t, PE (ncx CX P w K mg base N F f A outer s H E) b t ∧ t (startF N vs ws) H Q) :
    LOk P w K mg base CX (k + 1) f F b ps fr sp := by
  refine ⟨len, ?_⟩
  rintro A outer s H us vs ws Q E room e0 ⟨lam, code⟩ cells rel pre
  have n := len _ _ _ _ _ pre
  obtain ⟨od, sl, pm, ctv, at_⟩ := lam_is e0.hok lam
  have noLimit := e0.mod.nolimit.keeps fun b o e => (e0.bs b o e).1
  apply PySem.W.kla_callFunE room.depth at_ rfl S.co S.gen rfl (codeO_at e0.hok code)
  rw [binds pm ctv us (rel.length ▸ n)]
  refine wpAny_pure (wpAny_newFunctionEnv S.nocell (fun y hy => S.par y.1 (List.of_mem_zip hy).1) (fun g frame but => ⟨noLimit.fresh _ but, ?_⟩) S.kind)
  obtain ⟨t, reads, goal⟩ := body A outer s H vs ws Q E (room.deeper _) lam code cells.len pre
  have start := inv_startN (CX := CX) (E := E) (f := f) (tk := s.toks + (ps.zip us).length) S room.hd e0 n rel cells frame fun b o e => but.extBut b o (Nat.ne_of_lt (Heap.lt_size e)) (Heap.get?_push_of_some _ e)
  exact PySem.W.kla_codeExpr (wpAny_mono (reads.run [] _ _ H Q start goal) (fun v s' out => out.elim fun w' z => z.elim fun H' ⟨J, rv, q⟩ => ⟨w', H', J.os, J.bare, J.base, J.hok, rv, q⟩) fun _ _ z => z)
/-- the captured cells, as they were when the running def began: it has no way to them but this lambda -/
theorem cells_later {X : Cx} {pins : List (Addr × Obj)} {σ : L2.St} {H : Hp} {s : Shared} {cl : List (Str × Addr)} {fr : List Str} {ws : List (Option V)} (C : CellsAt cl fr ws X.s_0.heap X.H_0) (none_ : X.ex = []) (I : Inv X pins σ H s) : CellsAt cl fr ws s.heap H := by
  have out : ∀ c : Addr, c ∉ X.ex := by simp [none_]
  have stays : ∀ {y c}, cl.lookup y = some c → ∀ {v}, X.s_0.heap.IsCell c v → s.heap.IsCell c v := by
    rintro y c e v ⟨o, at_, d⟩
    exact (I.base.any at_ (C.all y c e).1 (out c)).elim fun sl z => ⟨_, z, d⟩
  constructor
  · exact C.len
  · intro y c e
    have ⟨un, v, cell⟩ := C.all y c e
    exact ⟨cell.elim fun o z => I.base.free c o z.1 un (out c), v, stays e cell⟩
  · exact C.inj
  · intro i y e
    have ⟨c, at_, holds⟩ := C.has i y e
    exact ⟨c, at_, fun v ev => (holds v ev).imp fun u z => ⟨z.1, stays at_ z.2⟩⟩
/-- a call's end, read by its caller -/
theorem call_ends {X : Cx} {CX : CXT} {pins : List (Addr × Obj)} {σ : L2.St} {H : Hp} {s : Shared} {Q : VK} {E : XK} {v : Value} {us : List Value} (hx : Passes CX X E) (I : Inv X pins σ H s) (h : codeAny (model X.prog X.w) X.A (.call v ⟨us, []⟩) (CR CX X.stack X.prog X.w H s Q E) s) :
    wpAny (model X.prog X.w) X.A (call v us) (EP X pins σ Q) X.xe s := by
  refine wpAny_call (codeAny_mono h ?_)
  rintro (e | fl) s' z
  · exact hx pins σ H s e s' I z
  · match fl, z with
    | .ret u, z => exact I.after z
/-- g(..), g the name i of the running def that was handed the lambda F; ws: what its cells hold -/
def tCallF (f : Addr) (F : NF) (b : Expr) (i : Nat) (ws : List (Option V)) (sp : List (Option V) → Sp) (E : XK) (t : TA) : TE := fun σ H Q => σ[i]? = some (some (.ref f)) ∧ H f = some (LamO f F b) ∧
  t σ H fun vs H1 => (H1 f = some (LamO f F b) ∧ H1 F.c = some (CodeO F.c F.qual)) ∧ sp ws vs H1 Q E
theorem pe_callF {X : Cx} {CX : CXT} {f : Addr} {F : NF} {b : Expr} {ps fr : List Str} {ws : List (Option V)} {i j k : Nat} {x : Str} {sp : List (Option V) → Sp} {E : XK} {t : TA} {e : Expr} {es : List Expr} {p pos : Pos}
    (Fn : LOk X.prog X.w X.K X.mg X.base CX k f F b ps fr sp) (C : CellsAt F.cl fr ws X.s_0.heap X.H_0) (hex : X.ex = []) (hr : Room j X.A) (hk : k ≤ j) (hx : Passes CX X E) (hN : X.N[i]? = some x) (hv : Vis X.env.scope x) (ha : PA X (e :: es) t)
    (hd : (x == ("__debug__" : Str)) = false := by decide) (hcd : (x == ("__classdict__" : Str)) = false := by decide)
    (he : starEach (e :: es) X.env = (false, eval e X.env) :: starEach es X.env := by rfl) (hpl : (backTo pos (starEach es X.env)).any (·.1) = false := by rfl) :
    PE X (.Call (.Name x p) (e :: es) [] pos) (tCallF f F b i ws sp E t) := by
  constructor
  rintro pins s σ H Q I ⟨var, lam, args⟩
  have fn : ∀ {σ H s}, Inv X pins σ H s → H f = some (LamO f F b) → PySem.W.FnAt f s.heap := fun I e => (lam_is I.hok e).elim fun od z => z.elim fun sl z => z.elim fun _ z => z.elim fun _ z => ⟨_, od, _, sl, z⟩
  have name := (pe_var (pos := p) hN hv hd hcd).run pins s σ H (fun v H1 => v = .ref f ∧ H1 = H) I ⟨.ref f, var, rfl, rfl⟩
  refine wpAny_Call_Name_kw (thn name ?_)
  rintro u s1 ⟨_, _, I1, ru, rfl, rfl⟩
  cases ru
  refine PySem.W.callWith_F (first := []) (fn I1 lam) (thn (ha.run pos pins s1 σ _ _ I1 args) ?_) he hpl
  rintro us s2 ⟨vs, H2, I2, r, both, pre⟩
  exact ⟨fn I2 both.1, call_ends hx I2 (Fn.run X.A X.stack s2 H2 us vs ws Q E (hr.mono hk) I2.env0 both (cells_later C hex I2) r pre)⟩
/-! ### a def that is handed a lambda -/
/-- a def of the top, called while the cells cl stand -/
structure FnOkC (P : Program) (w : World) (K : PySem.W.Frag) (mg : Str → Option Value) (base : Heap) (CX : CXT) (k : Nat) (f : Addr) (fd : FuncData) (ps : List Str) (cl : List (Str × Addr)) (fr : List Str) (ws : List (Option V)) (sp : Sp) : Prop where
  len : ∀ vs H Q E, sp vs H Q E → vs.length = ps.length
  run : ∀ A outer s H args us vs Q E, Room k A → Env0 P w K mg base A outer s H → CellsAt cl fr ws s.heap H → BindsTo s fd args (ps.zip us) → Vals vs us → sp vs H Q E → codeAny (model P w) A (.call (.ref f) args) (CR CX outer P w H s Q E) s
theorem okC {P : Program} {w : World} {K : PySem.W.Frag} {mg : Str → Option Value} {base : Heap} {x qual : Str} {st : Stmt} {f : Addr} {fd : FuncData} {N ps : List Str} {k : Nat} {cl : List (Str × Addr)} {fr : List Str} {ws : List (Option V)} {sp : Sp}
    (F : Fun K x qual st f fd) (S : FnScope N ps (defScope st)) (len : ∀ vs H Q E, sp vs H Q E → vs.length = ps.length)
    (body : ∀ (cdv : Value) (A : Around) (outer : List Env) (s : Shared) (H : Hp) (vs : List V) (Q : VK) (E : XK), Room k (A.deeper (envOfC qual (defScope st) s.heap.objs.size f cdv)) → CellsAt cl fr ws s.heap H → sp vs H Q E →
      ∃ t, PSs (cxOf CX0 P w K mg base N qual (defScope st) f cdv A outer s H E).nox (defBody st) t ∧ t { nx := fun _ H' => Q .non H', rt := Q } (L2.start N vs) H) : FnOkC P w K mg base CX0 (k + 1) f fd ps cl fr ws sp := by
  have ⟨_, _, _, _, _, _, cdv, _, _, is, look, code⟩ := F.ex
  subst is
  refine ⟨len, fun A outer s H args us vs Q E room e0 cells bound rel pre => run_ofS look code S room e0 bound rel (len _ _ _ _ pre) fun deeper => ?_⟩
  exact (body cdv A outer s H vs Q E deeper cells pre).imp fun t z => ⟨z.1.nox, z.2⟩
def tCallC (js : List Nat) (sp : List (Option V) → Sp) (E : XK) (t : TA) : TE := fun σ H Q => t σ H fun vs H1 => sp (js.map (slotAt σ)) vs H1 Q E
theorem pe_callC {X : Cx} {CX : CXT} {g : Addr} {fd : FuncData} {cl : List (Str × Addr)} {ps fr : List Str} {js : List Nat} {k : Nat} {x : Str} {sp : List (Option V) → Sp} {E : XK} {t : TA} {e : Expr} {es : List Expr} {p pos : Pos}
    (G : ∀ ws, FnOkC X.prog X.w X.K X.mg X.base CX k g fd ps cl fr ws (sp ws)) (cp : X.Ok → Caps X cl fr js) (hr : Room k X.A) (hg : Gl X x) (hm : X.mg x = some (.ref g)) (hk : PySem.W.keepIn X.K (.ref g) = true) (hb : L2.Binds X.K fd ps []) (hx : Passes CX X E) (ha : PA X (e :: es) t)
    (hdb : (x == ("__debug__" : Str)) = false := by decide)
    (he : starEach (e :: es) X.env = (false, eval e X.env) :: starEach es X.env := by rfl) (hpl : (backTo pos (starEach es X.env)).any (·.1) = false := by rfl) :
    PE X (.Call (.Name x p) (e :: es) [] pos) (tCallC js sp E t) := by
  constructor
  intro pins s σ H Q I pre
  refine wpAny_Call_Name_kw (ld_glob I hg hm (PySem.W.callWith_K I.ok.mod.kin hk (thn (ha.run pos pins s σ H _ I pre) ?_) he hpl) hdb)
  rintro us s1 ⟨vs, H1, I1, r, goal⟩
  refine ⟨I1.kIn, call_ends hx I1 ((G _).run X.A X.stack s1 H1 _ us vs Q E hr I1.env0 (cells_of I1 (cp I1.ok)) ?_ r goal)⟩
  have n : us.length = ps.length := r.length ▸ (G _).len _ _ _ _ goal
  simpa using hb s1 us I1.kIn (by simpa using n)
end LamP
end

-- EnumT
section
set_option Elab.async false
set_option linter.all false
set_option maxRecDepth 100000
set_option maxHeartbeats 4000000
/-! EnumT: for i, x in enumerate(t), t a tuple (enumerate with one argument, over whatever begins). -/
namespace EnT
open PySem PySem.Spec PyProof.Rows
open Sem (wp)
/-- the two objects of enumerate(v) in a heap of n places: v's iterator o at n, the enumerate object at n + 1 -/
def two (h : Heap) (o : Obj) : Heap := (h.push o).push { cls := .type "enumerate", data := .fields #[.none, .bool false, .ref h.objs.size, rawInt 0, .none, .none] }
theorem new1 {v : Value} {o : Obj} {H : Heap → Prop} (B : Begins v o H) :
    Meets (Builtin.«enumerate.__new__» ⟨[.type "enumerate", v], []⟩) (fun _ R s => H s.heap ∧ R (.ok (.ret (.ref (s.heap.push o).objs.size))) { s with heap := two s.heap o }) := by
  refine .of_wp fun prog w A R s h => ?_
  rcases s with ⟨hp, g, d, tk, os⟩
  rcases h with ⟨ready, h⟩
  have start : ∀ {A' : Around} {E : Value → Shared → Prop} {Q : Value → Shared → Prop}, Q (.ref hp.objs.size) ⟨hp.push o, g, d, tk, os⟩ → wpAny (model prog w) A' (pyIter v) Q E ⟨hp, g, d, tk, os⟩ := fun q => B.iter _ _ _ _ _ _ ready q
  have sub := sub_enumerate
  wp_walk using start
  refine wpAny_stack_any fun _ => wpAny_pure ?_
  split
  · rename_i c _ _ _ _ _
    cases (c == Value.type "enumerate") <;> (wp_walk using start; exact ⟨_, rfl, h⟩)
  · wp_walk using start
    exact ⟨_, rfl, h⟩
/-- what is known of them -/
structure Two (h h' : Heap) (o : Obj) : Prop where
  en : IsEnum h' (h.objs.size + 1) h.objs.size 0 .none
  it : h'.get? h.objs.size = some o
  old : ∀ b ob, h.get? b = some ob → h'.get? b = some ob
theorem two_is {h : Heap} {o : Obj} (free : o.isFreed = false) : Two h (two h o) o := by
  have n : (h.push o).objs.size = h.objs.size + 1 := Heap.size_push ..
  have top := Heap.get?_push_size (h.push o) (o := { cls := .type "enumerate", data := .fields #[.none, .bool false, .ref h.objs.size, rawInt 0, .none, .none] }) rfl
  exact ⟨n ▸ top, Heap.get?_push_of_some _ (Heap.get?_push_size _ free), fun b ob q => Heap.get?_push_of_some _ (Heap.get?_push_of_some _ q)⟩
theorem begin1 {prog : Program} {w : World} {A : Around} {E : Value → Shared → Prop} {s : Shared} {v : Value} {o : Obj} {H : Heap → Prop} {Q : Value → Shared → Prop} (B : Begins v o H) (ready : H s.heap)
    (h : Two s.heap (two s.heap o) o → Q (.ref (s.heap.objs.size + 1)) { s with heap := two s.heap o }) : wpAny (model prog w) A (call (.type "enumerate") [v]) Q E s := by
  have T := two_is (h := s.heap) B.free
  have n : (s.heap.push o).objs.size = s.heap.objs.size + 1 := Heap.size_push ..
  refine callType_new F.called_enumerate (by decide) (F.typeCall_enumerate_1 _) (F.newCall_enumerate_1 _) (fun obj => F.args_object_init_2 obj _) F.entry_enumerate_new (new1 B) ⟨ready, ?_⟩
  show _ ∧ _
  rw [n]
  exact ⟨⟨_, T.en, rfl⟩, h T⟩
end EnT
namespace L2
open PySem PySem.Spec PyProof.Rows
/-- the tuple at a, each of its items in a new pair behind its place -/
def IteT (K : PySem.W.Frag) (a : Addr) : It where
  go i H := ∃ (xs : List V) (x : V), SqT K H a xs ∧ xs[i]? = some x
  yld i H v H' := ∃ q x, v = .ref q ∧ H q = none ∧ H' = upd H q (.tup [.int (i : Nat), x]) ∧ ∀ xs, SqT K H a xs → xs[i]? = some x
  stop i H := ∃ xs : List V, SqT K H a xs ∧ i = xs.length
/-- e enumerates by the iterator it of the tuple at a, of which i items are drawn -/
structure EnSt (a e it : Addr) (i : Nat) (h : Heap) : Prop where
  en : ∃ old, IsEnum h e it (i : Int) old
  it_ : h.IsTupleIter it a i
  ne : e ≠ it
  nai : a ≠ it
  nae : a ≠ e
theorem EnSt.lt_e {a e it : Addr} {i : Nat} {h : Heap} (S : EnSt a e it i h) : e < h.objs.size := S.en.elim fun _ q => Heap.lt_size q
theorem EnSt.lt_it {a e it : Addr} {i : Nat} {h : Heap} (S : EnSt a e it i h) : it < h.objs.size := S.it_.elim fun _ q => Heap.lt_size q.1
theorem EnSt.lt {a e it : Addr} {i : Nat} {h : Heap} (S : EnSt a e it i h) : ∀ b ∈ [e, it], b < h.objs.size := by
  simpa using And.intro S.lt_e S.lt_it
theorem two_mem {e it b : Addr} (h : b ∉ [e, it]) : b ≠ e ∧ b ≠ it := by simpa using h
section
variable {X : Cx} {pins : List (Addr × Obj)} {σ : L2.St} {H : Hp} {s : Shared}
/-- the new pair of an index and an item -/
theorem pair_ok {P : Program} {w : World} {q : Addr} {i : Nat} {t : Tok} {x : V} {u : Value} {g : Heap} (r : RelV x u) (at_ : g.get? q = some { cls := .type "tuple", data := .seq #[.int i t, u] }) : ObjOk P w (upd H q (.tup [.int (i : Nat), x])) g q (.tup [.int (i : Nat), x]) :=
  ⟨by show 2 ≤ sizeLine; decide, [.int i t, u], .cons ⟨t, rfl⟩ (.cons r .nil), _, at_, rfl, 0, rfl⟩
end
theorem turn_enumT {P : Program} {w : World} {K : PySem.W.Frag} {elts : List Expr} {kk : Nat} {tpos : Pos} (a e it : Addr) : Turn P w K (.Tuple elts kk tpos) (IteT K a) [e, it] e (EnSt a e it) where
  mem := List.mem_cons_self
  obj i h S b m := by
    rcases List.mem_cons.mp m with z | z
    · rw [z]
      exact S.en.elim fun _ q => ⟨_, q, fun _ y => nomatch y⟩
    · obtain ⟨o, q, _, d⟩ := S.it_
      exact ⟨o, List.mem_singleton.mp z ▸ q, fun _ y => by rw [d] at y; cases y⟩
  keep i h h' S k := ⟨S.en.imp fun _ q => k e (List.mem_cons_self ..) _ q, S.it_.at fun o q => k it (by simp) o q, S.ne, S.nai, S.nae⟩
  self A i s Q E S h := S.en.elim fun _ q => wpAny_pyIter_enum q h
  item := by
    intro X hP hw hK hc i pins s σ H E I own S go
    subst hP hw hK
    obtain ⟨old, en⟩ := S.en
    obtain ⟨xs, x, seq, hx⟩ := go
    obtain ⟨items, rel, tup, small⟩ := I.tuple seq
    obtain ⟨u, hu, ru⟩ := rel.get hx
    have lo := S.lt
    have draws := Draws.tuple (prog := X.prog) (w := X.w) (A := X.A.in1) (I.ok.hd hc) it a S.nai items.toArray
    refine wpAny_pyNext_enum_itemD draws en ⟨S.it_, tup⟩ (by simpa using (List.getElem?_eq_some_iff.mp hu).1) S.ne (by simp [S.ne, Ne.symm S.nae]) fun y g tk drawn out next at_ _ kept => ?_
    obtain rfl : u = y := Option.some.inj (hu.symm.trans (by simpa using drawn))
    refine ⟨_, rfl, wpAny_letOwnedTupleGo_enum (s := { s with heap := g, toks := tk + 1 }) out fun g2 en2 same => ?_⟩
    have here := (same.2 _ (Nat.ne_of_gt S.lt_e)).trans at_
    have all : ∀ b ob, b ∉ [e, it] → s.heap.get? b = some ob → g2.get? b = some ob := fun b ob nb q => (same.2 b (two_mem nb).1).trans (kept b ob (two_mem nb).1 (two_mem nb).2 q)
    refine ⟨.ref s.heap.objs.size, _, I.turnedNew (t' := tk + 1) all own (Nat.le_refl _) (pair_ok ru here), rfl, ⟨_, x, rfl, I.hok.fresh (Nat.le_refl _), rfl, fun ys q => I.tuple_inj q seq ▸ hx⟩, ⟨⟨u, ?_⟩, next.1.at fun o q => (same.2 it S.ne.symm).trans q, S.ne, S.nai, S.nae⟩, fun b m => ?_⟩
    · rw [show ((i + 1 : Nat) : Int) = (i : Int) + 1 by omega]
      exact en2
    · exact (upd_ne (Nat.ne_of_lt (lo b m))).trans (own b m).1
  done := by
    intro X hP hw hK hc i pins s σ H E I own S stop
    subst hP hw hK
    obtain ⟨old, en⟩ := S.en
    obtain ⟨xs, seq, rfl⟩ := stop
    obtain ⟨items, rel, tup, small⟩ := I.tuple seq
    have ⟨_, f1, _, f3, f4, f5⟩ := own it (by simp)
    have draws := Draws.tuple (prog := X.prog) (w := X.w) (A := X.A.in1) (I.ok.hd hc) it a S.nai items.toArray
    have len : xs.length = items.toArray.size := by rw [List.size_toArray]; exact rel.length
    refine wpAny_pyNext_enum_endD draws en ⟨len ▸ S.it_, tup⟩ fun g kept => ?_
    exact ⟨rfl, I.turned (t' := s.toks) (fun b o nb q => kept b o nb q) (own it (by simp)).1 f1 f3 f4 f5⟩
def iEnumT (K : PySem.W.Frag) (ta : TA) : TI := fun σ H R => ta σ H fun vs H1 => ∃ a xs, vs = [.ref a] ∧ SqT K H1 a xs ∧ R (IteT K a) H1
theorem pi_enumT {X : Cx} {e : Expr} {ta : TA} {p pos tpos : Pos} {elts : List Expr} {kk : Nat} (hg : Gl X "enumerate") (hm : X.mg "enumerate" = none) (ha : PA X [e] ta) (hs : starEach [e] X.env = [(false, eval e X.env)] := by rfl) :
    PI X (.Tuple elts kk tpos) (.Call (.Name "enumerate" p) [e] [] pos) (iEnumT X.K ta) := by
  refine ⟨fun pins s σ H R I h => ?_⟩
  refine Call_ (ld_blt I hg hm boot_enumerate (callWith_type1 (thn (ha.run pos pins s σ H _ I h) fun us s1 done => ?_) hs rfl))
  obtain ⟨vs, H1, I1, r1, q⟩ := done
  obtain ⟨a, xs, ev, seq, q⟩ := q
  subst ev
  match us, r1 with
  | [_], .cons rfl .nil =>
    obtain ⟨items, _, tup, _⟩ := I1.tuple seq
    have la : a < s1.heap.objs.size := tup.elim fun _ q => Heap.lt_size q.1
    refine EnT.begin1 (begins_tuple a items.toArray) tup fun T => wpAny_pyIter_enum T.en ?_
    refine ⟨_, [_, _], _, _, H1, rfl, I1.kept (t' := s1.toks) T.old, turn_enumT a _ _, ⟨⟨_, T.en⟩, ⟨_, T.it, rfl, rfl⟩, Nat.succ_ne_self _, Nat.ne_of_lt la, Nat.ne_of_lt (Nat.lt_succ_of_lt la)⟩, fun b m => ?_, q⟩
    have big : s1.heap.objs.size ≤ b := by
      rcases List.mem_cons.mp m with z | z
      · exact z ▸ Nat.le_succ _
      · exact Nat.le_of_eq (List.mem_singleton.mp z).symm
    exact I1.fpOk big (I1.hok.fresh big)
theorem walk_enumT {K : PySem.W.Frag} {a : Addr} {xs : List V} : Walk (IteT K a) xs.length (fun H => SqT K H a xs) (YPair (fun i => some (.int (i : Nat))) (fun i => xs[i]?)) where
  goes i _ lt q := ⟨xs, xs[i], q, List.getElem?_eq_getElem lt⟩
  stops _ q := ⟨xs, q, rfl⟩
  yields i H v H' _ q y := y.elim fun T z => z.elim fun x ⟨h1, h2, h3, h4⟩ => ⟨T, _, x, h1, h2, h3, rfl, h4 xs q⟩
end L2
end

-- Rel
section
set_option Elab.async false
set_option linter.all false
set_option maxRecDepth 100000
set_option maxHeartbeats 4000000
/-! Rel: what a def leaves of the heap; data of tuples; the drawn source. -/
namespace R
open PySem PySem.Spec PyProof.Rows L2 LamX NdefX
/-! ### data that stands in tuples -/
mutual
inductive Tp (H : Hp) : V → PyData → Prop
  | non : Tp H .non .none
  | bl (b : Bool) : Tp H (.bl b) (.bool b)
  | int (i : Int) : Tp H (.int i) (.int i)
  | str (x : Str) : Tp H (.str x) (.str x)
  | tup {a : Addr} {xs : List V} {ds : List PyData} : H a = some (.tup xs) → Tps H xs ds → Tp H (.ref a) (.tuple ds)
inductive Tps (H : Hp) : List V → List PyData → Prop
  | nil : Tps H [] []
  | cons {v : V} {vs : List V} {d : PyData} {ds : List PyData} : Tp H v d → Tps H vs ds → Tps H (v :: vs) (d :: ds)
end
def TK (H H' : Hp) : Prop := ∀ a xs, H a = some (.tup xs) → H' a = some (.tup xs)
theorem TK.refl (H : Hp) : TK H H := fun _ _ h => h
theorem TK.trans {H H1 H2 : Hp} (a : TK H H1) (b : TK H1 H2) : TK H H2 := fun c xs h => b c xs (a c xs h)
theorem TK.new {H : Hp} {p : Addr} {o : HO} (h : H p = none) : TK H (upd H p o) := fun a xs e => by
  rw [upd_ne (ne_of_none e h)]
  exact e
theorem TK.lst {H : Hp} {p : Addr} {xs : List V} {o : HO} (h : H p = some (.lst xs)) : TK H (upd H p o) := fun a ys e => by
  rw [upd_ne (ne_of e h (by intro z; cases z))]
  exact e
mutual
theorem Tp.mono {H H' : Hp} (k : TK H H') : ∀ {v : V} {d : PyData}, Tp H v d → Tp H' v d
  | _, _, .non => .non
  | _, _, .bl b => .bl b
  | _, _, .int i => .int i
  | _, _, .str x => .str x
  | _, _, .tup h t => .tup (k _ _ h) (Tps.mono k t)
theorem Tps.mono {H H' : Hp} (k : TK H H') : ∀ {vs : List V} {ds : List PyData}, Tps H vs ds → Tps H' vs ds
  | _, _, .nil => .nil
  | _, _, .cons h t => .cons (Tp.mono k h) (Tps.mono k t)
end
mutual
theorem Tp.dp {K : PySem.W.Frag} {H : Hp} : ∀ {v : V} {d : PyData}, Tp H v d → Dp K H v d
  | _, _, .non => .non
  | _, _, .bl b => .bl b
  | _, _, .int i => .int i
  | _, _, .str x => .str x
  | _, _, .tup h t => .tup (SqT.of h) (Tps.dp t)
theorem Tps.dp {K : PySem.W.Frag} {H : Hp} : ∀ {vs : List V} {ds : List PyData}, Tps H vs ds → DpAll K H vs ds
  | _, _, .nil => .nil
  | _, _, .cons h t => .cons (Tp.dp h) (Tps.dp t)
end
theorem Tps.length {H : Hp} : ∀ {vs : List V} {ds : List PyData}, Tps H vs ds → vs.length = ds.length
  | _, _, .nil => rfl
  | _, _, .cons _ t => by
    rw [List.length_cons, List.length_cons, Tps.length t]
theorem Tps.get {H : Hp} : ∀ {vs : List V} {ds : List PyData} {i : Nat} {v : V}, Tps H vs ds → vs[i]? = some v → ∃ d, ds[i]? = some d ∧ Tp H v d
  | _, _, _, _, .nil, e => by simp at e
  | _, _, 0, _, .cons h _, e => by simp at e; subst e; exact ⟨_, rfl, h⟩
  | _, _, i + 1, v, .cons _ t, e => by
    obtain ⟨d, h1, h2⟩ := Tps.get (i := i) (v := v) t (by simpa using e)
    exact ⟨d, by simpa using h1, h2⟩
theorem Tps.getD {H : Hp} : ∀ {vs : List V} {ds : List PyData} {i : Nat} {d : PyData}, Tps H vs ds → ds[i]? = some d → ∃ v, vs[i]? = some v ∧ Tp H v d
  | _, _, _, _, .nil, e => by simp at e
  | _, _, 0, _, .cons h _, e => by simp at e; subst e; exact ⟨_, rfl, h⟩
  | _, _, i + 1, v, .cons _ t, e => by
    obtain ⟨d, h1, h2⟩ := Tps.getD (i := i) (d := v) t (by simpa using e)
    exact ⟨d, by simpa using h1, h2⟩
theorem Tps.append {H : Hp} : ∀ {vs ws : List V} {ds es : List PyData}, Tps H vs ds → Tps H ws es → Tps H (vs ++ ws) (ds ++ es)
  | _, _, _, _, .nil, t => t
  | _, _, _, _, .cons h t, u => .cons h (Tps.append t u)
theorem Tps.erase {H : Hp} : ∀ {vs : List V} {ds : List PyData} (i : Nat), Tps H vs ds → Tps H (vs.eraseIdx i) (ds.eraseIdx i)
  | _, _, _, .nil => .nil
  | _, _, 0, .cons _ t => t
  | _, _, i + 1, .cons h t => .cons h (Tps.erase i t)
theorem Tps.ints {H : Hp} : ∀ (ns : List Int), Tps H (ns.map V.int) (ns.map PyData.int)
  | [] => .nil
  | n :: r => .cons (.int n) (Tps.ints r)
theorem Tps.ints_of {H : Hp} : ∀ {vs : List V} {ns : List Int}, Tps H vs (ns.map PyData.int) → vs = ns.map V.int
  | _, [], h => by cases h; rfl
  | _, n :: r, h => by
    cases h with
    | cons h1 h2 =>
      cases h1
      rw [Tps.ints_of h2] <;> rfl
/-! ### pairs of numbers -/
def prD (p : Int × Int) : PyData := .tuple [.int p.1, .int p.2]
def lkD (ps : List (Int × Int)) : List PyData := ps.map prD
theorem tp_pr {H : Hp} {v : V} {p : Int × Int} (h : Tp H v (prD p)) : ∃ a, v = .ref a ∧ H a = some (.tup [.int p.1, .int p.2]) := by
  cases h with
  | tup h t => exact ⟨_, rfl, by rw [Tps.ints_of (ns := [p.1, p.2]) t] at h; exact h⟩
theorem pr_tp {H : Hp} {a : Addr} {i j : Int} (h : H a = some (.tup [.int i, .int j])) : Tp H (.ref a) (prD (i, j)) := .tup h (.cons (.int i) (.cons (.int j) .nil))
/-! ### the drawn source: a list of two numbers -/
def BIG : Nat := 1048600
def Src (H : Hp) (a : Addr) : Prop := ∃ x y : Int, H a = some (.lst [.int x, .int y]) ∧ 0 ≤ x ∧ x.natAbs < 2 ^ BIG ∧ 0 ≤ y ∧ y < 2147483647
/-! ### what is left as it was -/
structure Ext (T : List NTab) (so : Option Addr) (H H' : Hp) : Prop where
  kp : ∀ b o, some b ≠ so → (∀ ps, o ≠ .tbl ps) → H b = some o → H' b = some o
  tb : TabsN T H → TabsN T H'
  sr : ∀ a, so = some a → Src H a → Src H' a
  fr : ∀ b, H' b = none → H b = none
section
variable {T : List NTab} {so : Option Addr} {H H1 H2 : Hp} {a : Addr}
theorem Ext.refl (T : List NTab) (so : Option Addr) (H : Hp) : Ext T so H H := ⟨fun _ _ _ _ h => h, fun h => h, fun _ _ h => h, fun _ h => h⟩
theorem Ext.trans (x : Ext T so H H1) (y : Ext T so H1 H2) : Ext T so H H2 := ⟨fun b o n t h => y.kp b o n t (x.kp b o n t h), fun h => y.tb (x.tb h), fun b e h => y.sr b e (x.sr b e h), fun b h => x.fr b (y.fr b h)⟩
theorem upd_none' {H : Hp} {a b : Addr} {o : HO} (e : upd H a o b = none) : H b = none := by
  unfold upd at e
  split at e
  · cases e
  · exact e
theorem tabs_new {H : Hp} {p : Addr} {o : HO} (n : H p = none) (h : TabsN T H) : TabsN T (upd H p o) := h.ext fun b u e => by
  rw [upd_ne (ne_of_none e n)]
  exact e
/-- a new object -/
theorem Ext.new {p : Addr} {o : HO} (n : H p = none) : Ext T so H (upd H p o) :=
  ⟨fun b u _ _ e => by rw [upd_ne (ne_of_none e n)]; exact e, tabs_new n, fun b e ⟨x, y, h, r⟩ => ⟨x, y, by rw [upd_ne (ne_of_none h n)]; exact h, r⟩, fun b e => upd_none' e⟩
/-- an object that the beginning does not know is changed -/
theorem Ext.mut {p : Addr} {o u : HO} (x : Ext T so H H1) (n : H p = none) (h1 : H1 p = some u) (nt : ∀ ps, u ≠ .tbl ps) (nc : ∀ c q, u ≠ CodeO c q) (ns : so ≠ some p) : Ext T so H (upd H1 p o) :=
  ⟨fun b w a b' e => by rw [upd_ne (ne_of_none e n)]; exact x.kp b w a b' e, fun h => by
    have q := x.tb h
    intro t ht
    obtain ⟨ps, a1, a2, a3⟩ := q t ht
    refine ⟨ps, by rw [upd_ne (ne_of a1 h1 (Ne.symm (nt ps)))]; exact a1, a2, fun pos cv hc => ?_⟩
    obtain ⟨c, e1, e2⟩ := a3 pos cv hc
    exact ⟨c, e1, by rw [upd_ne (ne_of e2 h1 (Ne.symm (nc c _)))]; exact e2⟩,
   fun b e q => by
    obtain ⟨x', y', h', r⟩ := x.sr b e q
    exact ⟨x', y', by rw [upd_ne (fun z => ns (by rw [e, z]))]; exact h', r⟩, fun b e => x.fr b (upd_none' e)⟩
theorem lst_nt {xs : List V} (ps : Array Value) : (HO.lst xs) ≠ .tbl ps := fun z => by cases z
theorem lst_nc {xs : List V} (c : Addr) (q : Str) : (HO.lst xs) ≠ CodeO c q := fun z => by
  unfold CodeO at z
  cases z
theorem tup_nt {xs : List V} (ps : Array Value) : (HO.tup xs) ≠ .tbl ps := fun z => by cases z
theorem ins_nt {C d : Addr} {fs : List (Str × V)} (ps : Array Value) : (HO.ins C d fs) ≠ .tbl ps := fun z => by cases z
theorem ins_nc {C d : Addr} {fs : List (Str × V)} (c : Addr) (q : Str) : (HO.ins C d fs) ≠ CodeO c q := fun z => by
  unfold CodeO at z
  cases z
theorem own_nt {x : Addr} (ps : Array Value) : (HO.own x) ≠ .tbl ps := fun z => by cases z
theorem frz_nt {o : Obj} {u : HO} (ps : Array Value) : (HO.frz o u) ≠ .tbl ps := fun z => by cases z
theorem Ext.mutL {p : Addr} {o : HO} {xs : List V} (x : Ext T so H H1) (n : H p = none) (h1 : H1 p = some (.lst xs)) (ns : so ≠ some p) : Ext T so H (upd H1 p o) := x.mut n h1 lst_nt lst_nc ns
/-- nothing but new objects: so the source is left too -/
theorem Ext.toS (x : Ext T none H H1) : Ext T so H H1 := ⟨fun b o _ t h => x.kp b o (fun z => nomatch z) t h, x.tb, fun b _ ⟨i, j, h, r⟩ => ⟨i, j, x.kp b _ (fun z => nomatch z) lst_nt h, r⟩, x.fr⟩
theorem Ext.tup {xs : List V} (x : Ext T none H H1) (h : H a = some (.tup xs)) : H1 a = some (.tup xs) := x.kp a _ (fun z => nomatch z) tup_nt h
theorem Ext.lst {xs : List V} (x : Ext T none H H1) (h : H a = some (.lst xs)) : H1 a = some (.lst xs) := x.kp a _ (fun z => nomatch z) lst_nt h
theorem Ext.ins {C d : Addr} {fs : List (Str × V)} (x : Ext T none H H1) (h : H a = some (.ins C d fs)) : H1 a = some (.ins C d fs) := x.kp a _ (fun z => nomatch z) ins_nt h
theorem Ext.tk (x : Ext T none H H1) : TK H H1 := fun _ _ h => x.tup h
/-- with the source: it is a list -/
theorem Ext.tkS {s : Addr} (x : Ext T (some s) H H1) (q : Src H s) : TK H H1 := fun a xs h => x.kp a _ (fun z => by
  obtain ⟨i, j, e, _⟩ := q
  rw [Option.some.inj z, e] at h
  cases h) tup_nt h
theorem Ext.insS {s C d : Addr} {fs : List (Str × V)} (x : Ext T (some s) H H1) (q : Src H s) (h : H a = some (.ins C d fs)) : H1 a = some (.ins C d fs) := x.kp a _ (fun z => by
  obtain ⟨i, j, e, _⟩ := q
  rw [Option.some.inj z, e] at h
  cases h) ins_nt h
theorem Ext.lstS {s : Addr} {xs : List V} (x : Ext T (some s) H H1) (n : a ≠ s) (h : H a = some (.lst xs)) : H1 a = some (.lst xs) := x.kp a _ (fun z => n (Option.some.inj z)) lst_nt h
theorem Ext.src {s : Addr} (x : Ext T (some s) H H1) (q : Src H s) : Src H1 s := x.sr s rfl q
theorem Ext.same (x : Same H H1) (fr : ∀ b, H1 b = none → H b = none) : Ext T so H H1 := ⟨fun b o _ _ h => x b o h, fun h => h.ext x, fun b _ ⟨i, j, h, r⟩ => ⟨i, j, x b _ h, r⟩, fr⟩
theorem new_ne {b : Addr} (n : H b = none) {o : HO} (h : H a = some o) : a ≠ b := ne_of_none h n
end
/-! ### three comparisons in a row -/
def tChain3 (r r' r'' : R2) (ta tb tc td : TE) : TE := fun σ H Q => ta σ H fun x H1 => tb σ H1 fun y H2 => r x y H2 fun z H3 => ∃ k, z = .bl k ∧
  (if k = true then tc σ H3 fun w H4 => r' y w H4 fun z' H5 => ∃ k', z' = .bl k' ∧ (if k' = true then td σ H5 fun u H6 => r'' w u H6 Q else Q (.bl false) H5) else Q (.bl false) H3)
theorem pe_chain3 {X : Cx} {a b c d : Expr} {ta tb tc td : TE} {pos : Pos} {op op' op'' : CmpOp} {r r' r'' : R2} (ho : OpR X (compareOp op) r) (ho' : OpR X (compareOp op') r') (ho'' : OpR X (compareOp op'') r'') (ha : PE X a ta) (hb : PE X b tb) (hc : PE X c tc) (hd : PE X d td)
    (hm : lastMarks [op, op', op''] [b, c, d] = false := by with_unfolding_all rfl) : PE X (.Compare a [op, op', op''] [b, c, d] pos) (tChain3 r r' r'' ta tb tc td) := by
  refine ⟨fun pins s σ H Q I h => ?_⟩
  refine Compare_chain (thn (ha.run pins s σ H _ I h) fun v s1 ⟨x, H1, I1, r1, q1⟩ => chain_link (thn (hb.run pins s1 σ H1 _ I1 q1) fun u s2 ⟨y, H2, I2, r2, q2⟩ =>
    thn (ho pins s2 σ H2 x y v u _ I2 r1 r2 q2) fun d s3 ⟨z, H3, I3, r3, k, e, q3⟩ => ?_)) hm
  subst e
  cases r3
  refine wpAny_truthy_bool ?_
  cases k with
  | false => exact ite_ff ⟨.bl false, H3, I3, rfl, q3⟩
  | true =>
    refine ite_tt (chain_link (thn (hc.run pins s3 σ H3 _ I3 q3) fun w' s4 ⟨z', H4, I4, r4, q4⟩ => thn (ho' pins s4 σ H4 y z' u w' _ I4 r2 r4 q4) fun d2 s5 ⟨z2, H5, I5, r5, k2, e2, q5⟩ => ?_))
    subst e2
    cases r5
    refine wpAny_truthy_bool ?_
    cases k2 with
    | false => exact ite_ff ⟨.bl false, H5, I5, rfl, q5⟩
    | true => exact ite_tt (chain_last (thn (hd.run pins s5 σ H5 _ I5 q5) fun w2 s6 ⟨z3, H6, I6, r6, q6⟩ => ho'' pins s6 σ H6 z' z3 w' w2 Q I6 r4 r6 q6))
/-! ### where a def of the text stands -/
structure DefAt (K : PySem.W.Frag) (mg : Str → Option Value) (x qual : Str) (st : Stmt) (ps : List Str) (f : Addr) (fd : FuncData) : Prop where
  fn : Fun K x qual st f fd
  bd : L2.Binds K fd ps []
theorem iteB {c : Bool} {A B : Prop} (h1 : c = true → A) (h2 : c = false → B) : if c = true then A else B := by
  cases c with
  | true => exact iteT (h1 rfl)
  | false => exact iteF (h2 rfl)
end R
end

-- Text
section
set_option Elab.async false
set_option linter.all false
set_option maxRecDepth 100000
set_option maxHeartbeats 4000000
/-! Text: the program's text by places, what its top leaves. -/
namespace R
open PySem PySem.Spec PyProof.Rows L2 LamX NdefX LamP
/-! ### the text by places -/
def top (i : Nat) : Stmt := PySem.Challenge.pw_pairfloors_k49_surpluses_to_forty.main.body.getD i (.Pass ⟨0, 0, 0, 0⟩)
abbrev s_Refused_init : Stmt := inClass (top 2) 0
abbrev s_check_count : Stmt := top 5
abbrev s_check_coats : Stmt := top 10
abbrev s_surplus_count : Stmt := top 12
abbrev s_rows_with : Stmt := top 13
abbrev s_sums_of : Stmt := top 14
abbrev s_Lpool : Stmt := top 16
abbrev s_Ltake : Stmt := top 17
abbrev s_Lone : Stmt := top 18
abbrev s_Lways : Stmt := top 19
abbrev s_Lsum : Stmt := top 20
abbrev s_Lrefused : Stmt := top 21
abbrev s_law : Stmt := top 22
abbrev N_Refused_init : List Str := ["self", "what"]
theorem sc_Refused_init : FnScope N_Refused_init ["self", "what"] (defScope s_Refused_init) := ⟨rfl, rfl, rfl, by decide +kernel, rfl, by decide +kernel, by decide +kernel⟩
abbrev N_check_count : List Str := ["number", "least", "most"]
theorem sc_check_count : FnScope N_check_count ["number", "least", "most"] (defScope s_check_count) := ⟨rfl, rfl, rfl, by decide +kernel, rfl, by decide +kernel, by decide +kernel⟩
abbrev N_check_coats : List Str := ["coats"]
theorem sc_check_coats : FnScope N_check_coats ["coats"] (defScope s_check_coats) := ⟨rfl, rfl, rfl, by decide +kernel, rfl, by decide +kernel, by decide +kernel⟩
abbrev N_surplus_count : List Str := ["light", "dark", "coats", "least", "above"]
theorem sc_surplus_count : FnScope N_surplus_count ["light", "dark", "coats"] (defScope s_surplus_count) := ⟨rfl, rfl, rfl, by decide +kernel, rfl, by decide +kernel, by decide +kernel⟩
abbrev N_rows_with : List Str := ["above", "below", "coats", "total", "a", "b"]
theorem sc_rows_with : FnScope N_rows_with ["above", "below", "coats"] (defScope s_rows_with) := ⟨rfl, rfl, rfl, by decide +kernel, rfl, by decide +kernel, by decide +kernel⟩
abbrev N_sums_of : List Str := ["total", "many"]
theorem sc_sums_of : FnScope N_sums_of ["total", "many"] (defScope s_sums_of) := ⟨rfl, rfl, rfl, by decide +kernel, rfl, by decide +kernel, by decide +kernel⟩
abbrev N_Lpool : List Str := ["_law_script", "_law_k", "_law_cell", "_law_big", "_law_mixed"]
theorem sc_Lpool : FnScope N_Lpool ["_law_script", "_law_k"] (defScope s_Lpool) := ⟨rfl, rfl, rfl, by decide +kernel, rfl, by decide +kernel, by decide +kernel⟩
abbrev N_Ltake : List Str := ["_law_source", "_law_top", "_law_drawn"]
theorem sc_Ltake : FnScope N_Ltake ["_law_source", "_law_top"] (defScope s_Ltake) := ⟨rfl, rfl, rfl, by decide +kernel, rfl, by decide +kernel, by decide +kernel⟩
abbrev N_Lone : List Str := ["_law_source", "_law_things"]
theorem sc_Lone : FnScope N_Lone ["_law_source", "_law_things"] (defScope s_Lone) := ⟨rfl, rfl, rfl, by decide +kernel, rfl, by decide +kernel, by decide +kernel⟩
abbrev N_Lways : List Str := ["_law_top", "_law_low", "_law_shades", "_law_p", "_law_m", "_law_cells", "_law_turn", "_law_fresh", "_law_held", "_law_row", "_law_number"]
theorem sc_Lways : FnScope N_Lways ["_law_top", "_law_low", "_law_shades"] (defScope s_Lways) := ⟨rfl, rfl, rfl, by decide +kernel, rfl, by decide +kernel, by decide +kernel⟩
abbrev N_Lsum : List Str := ["_law_cells", "_law_ups", "_law_downs", "_law_many", "_law_p", "_law_m"]
theorem sc_Lsum : FnScope N_Lsum ["_law_cells", "_law_ups", "_law_downs"] (defScope s_Lsum) := ⟨rfl, rfl, rfl, by decide +kernel, rfl, by decide +kernel, by decide +kernel⟩
abbrev N_Lrefused : List Str := ["_law_ups", "_law_downs", "_law_shades", "e"]
theorem sc_Lrefused : FnScope N_Lrefused ["_law_ups", "_law_downs", "_law_shades"] (defScope s_Lrefused) := ⟨rfl, rfl, rfl, by decide +kernel, rfl, by decide +kernel, by decide +kernel⟩
abbrev N_law : List Str := ["_law_script", "_law_source", "_law_shades", "_law_most", "_law_ups", "_law_downs", "_law_cells", "_law_told", "_law_bad"]
theorem sc_law : FnScope N_law ["_law_script"] (defScope s_law) := ⟨rfl, rfl, rfl, by decide +kernel, rfl, by decide +kernel, by decide +kernel⟩
/-! ### what the top leaves -/
structure FunC (K : PySem.W.Frag) (x qual : Str) (st : Stmt) (f : Addr) (fd : FuncData) (c : Addr) : Prop where
  ex : ∃ (oc : Value) (od : Option Addr) (kV doc pm : Value) (an : Option Addr) (ct : Value) (osl : Array (Option Value)), fd = PySem.W.fnOf x qual (defArgs st) (defBody st) (defScope st) .none kV doc pm an (.ref c) ct ∧ K.lookup f = some ⟨oc, od, .func fd, osl⟩ ∧ PySem.W.codeIn K (.ref c) qual = true
structure ErrC (K : PySem.W.Frag) (mg : Str → Option Value) (x : Str) (fI C : Addr) : Prop where
  gC : mg x = some (.ref C)
  ox : OexC K C
  xf : XfC K C
  iC : PySem.W.findIn K (.ref C) "__init__" = some (some (.ref fI))
  nw : PySem.W.findIn K (.ref C) "what" = some none
structure Txt (K : PySem.W.Frag) (mg : Str → Option Value) : Type where
  a_Refused_init : Addr
  d_Refused_init : FuncData
  F_Refused_init : Fun K "__init__" "Refused.__init__" s_Refused_init a_Refused_init d_Refused_init
  b_Refused_init : L2.Binds K d_Refused_init ["self", "what"] []
  a_check_count : Addr
  d_check_count : FuncData
  F_check_count : Fun K "check_count" "check_count" s_check_count a_check_count d_check_count
  b_check_count : L2.Binds K d_check_count ["number", "least", "most"] []
  g_check_count : mg "check_count" = some (.ref a_check_count)
  a_check_coats : Addr
  d_check_coats : FuncData
  F_check_coats : Fun K "check_coats" "check_coats" s_check_coats a_check_coats d_check_coats
  b_check_coats : L2.Binds K d_check_coats ["coats"] []
  g_check_coats : mg "check_coats" = some (.ref a_check_coats)
  a_surplus_count : Addr
  d_surplus_count : FuncData
  F_surplus_count : Fun K "surplus_count" "surplus_count" s_surplus_count a_surplus_count d_surplus_count
  b_surplus_count : L2.Binds K d_surplus_count ["light", "dark", "coats"] []
  g_surplus_count : mg "surplus_count" = some (.ref a_surplus_count)
  a_rows_with : Addr
  d_rows_with : FuncData
  F_rows_with : Fun K "rows_with" "rows_with" s_rows_with a_rows_with d_rows_with
  b_rows_with : L2.Binds K d_rows_with ["above", "below", "coats"] []
  g_rows_with : mg "rows_with" = some (.ref a_rows_with)
  a_sums_of : Addr
  d_sums_of : FuncData
  F_sums_of : Fun K "sums_of" "sums_of" s_sums_of a_sums_of d_sums_of
  b_sums_of : L2.Binds K d_sums_of ["total", "many"] []
  g_sums_of : mg "sums_of" = some (.ref a_sums_of)
  a_Lpool : Addr
  d_Lpool : FuncData
  F_Lpool : Fun K "_law_pool" "_law_pool" s_Lpool a_Lpool d_Lpool
  b_Lpool : L2.Binds K d_Lpool ["_law_script", "_law_k"] []
  g_Lpool : mg "_law_pool" = some (.ref a_Lpool)
  a_Ltake : Addr
  d_Ltake : FuncData
  F_Ltake : Fun K "_law_take" "_law_take" s_Ltake a_Ltake d_Ltake
  b_Ltake : L2.Binds K d_Ltake ["_law_source", "_law_top"] []
  g_Ltake : mg "_law_take" = some (.ref a_Ltake)
  a_Lone : Addr
  d_Lone : FuncData
  F_Lone : Fun K "_law_one" "_law_one" s_Lone a_Lone d_Lone
  b_Lone : L2.Binds K d_Lone ["_law_source", "_law_things"] []
  g_Lone : mg "_law_one" = some (.ref a_Lone)
  a_Lways : Addr
  d_Lways : FuncData
  F_Lways : Fun K "_law_ways" "_law_ways" s_Lways a_Lways d_Lways
  b_Lways : L2.Binds K d_Lways ["_law_top", "_law_low", "_law_shades"] []
  g_Lways : mg "_law_ways" = some (.ref a_Lways)
  a_Lsum : Addr
  d_Lsum : FuncData
  F_Lsum : Fun K "_law_sum" "_law_sum" s_Lsum a_Lsum d_Lsum
  b_Lsum : L2.Binds K d_Lsum ["_law_cells", "_law_ups", "_law_downs"] []
  g_Lsum : mg "_law_sum" = some (.ref a_Lsum)
  a_Lrefused : Addr
  d_Lrefused : FuncData
  F_Lrefused : Fun K "_law_refused" "_law_refused" s_Lrefused a_Lrefused d_Lrefused
  b_Lrefused : L2.Binds K d_Lrefused ["_law_ups", "_law_downs", "_law_shades"] []
  g_Lrefused : mg "_law_refused" = some (.ref a_Lrefused)
  a_law : Addr
  d_law : FuncData
  F_law : Fun K "law" "law" s_law a_law d_law
  b_law : L2.Binds K d_law ["_law_script"] []
  g_law : mg "law" = some (.ref a_law)
  C_Refused : Addr
  e_Refused : ErrC K mg "Refused" a_Refused_init C_Refused
  C_BadCount : Addr
  e_BadCount : ErrC K mg "BadCount" a_Refused_init C_BadCount
  tI : PySem.W.typeIn K (.ref a_Refused_init) = some (.type "function")
  x_Refused_Refused : PySem.W.exmOne K (.ref C_Refused) (.ref C_Refused) = some true
  x_Refused_BadCount : PySem.W.exmOne K (.ref C_Refused) (.ref C_BadCount) = some false
  x_BadCount_Refused : PySem.W.exmOne K (.ref C_BadCount) (.ref C_Refused) = some true
  x_BadCount_BadCount : PySem.W.exmOne K (.ref C_BadCount) (.ref C_BadCount) = some true
  t_MOST_CELLS : Tok
  c_MOST_CELLS : mg "MOST_CELLS" = some (.int 40 t_MOST_CELLS)
  t_LEAST_COATS : Tok
  c_LEAST_COATS : mg "LEAST_COATS" = some (.int 2 t_LEAST_COATS)
  t_MOST_COATS : Tok
  c_MOST_COATS : mg "MOST_COATS" = some (.int 6 t_MOST_COATS)
  n_bool : mg "bool" = none
  n_int : mg "int" = none
  n_isinstance : mg "isinstance" = none
  n_len : mg "len" = none
  n_max : mg "max" = none
  n_range : mg "range" = none
  n_sum : mg "sum" = none
  m_comb : mg "comb" = some (.builtin "math.comb")
end R
end

-- Draw
section
set_option Elab.async false
set_option linter.all false
set_option maxRecDepth 100000
set_option maxHeartbeats 4000000
set_option exponentiation.threshold 100
/-! Draw: the laws' own draws over any text that has them. -/
namespace R
open PySem PySem.Spec PyProof.Rows L2 LamX NdefX LamP
def Ret (T : List NTab) (H : Hp) (Q : VK) (P : V → Hp → Prop) : Prop := ∀ v H', Ext T none H H' → P v H' → Q v H'
def RetV (T : List NTab) (H : Hp) (Q : VK) (v : V) : Prop := ∀ H', Ext T none H H' → Q v H'
theorem seq_cut {t R : TS} {D : Ends} {σ : L2.St} {H : Hp} (J : L2.St → Hp → Prop) (h1 : ∀ R' : L2.St → Hp → Prop, (∀ σ' H', J σ' H' → R' σ' H') → t { D with nx := R' } σ H) (h2 : ∀ σ' H', J σ' H' → R D σ' H') : tSeq t R D σ H := h1 (R D) h2
theorem iteF' {c : Bool} {A B : Prop} (h : c = false) (k : B) : if c = true then A else B := by rw [h]; exact iteF k
theorem iteT' {c : Bool} {A B : Prop} (h : c = true) (k : A) : if c = true then A else B := by rw [h]; exact iteT k
theorem bits_lt {z : Int} (h : Builtin.Int.intBits z ≤ 1048576) : z.natAbs < 2 ^ 1048576 := by
  unfold Builtin.Int.intBits at h
  by_cases e : z = 0
  · subst e
    exact Nat.two_pow_pos _
  · rw [if_neg (by simpa using e)] at h
    exact Nat.lt_of_lt_of_le Nat.lt_log2_self (Nat.pow_le_pow_right (by decide) h)
theorem big_lt {c : Int} {v : Nat} (h : c.natAbs < 2 ^ 1048576) (hv : v ≤ c.natAbs) : v < 2 ^ BIG :=
  Nat.lt_of_le_of_lt hv (Nat.lt_of_lt_of_le h (Nat.pow_le_pow_right (by decide) (by unfold BIG; decide)))
section
variable {P : Program} {w : World} {K : PySem.W.Frag} {mg : Str → Option Value} {base : Heap}
theorem room65 {k : Nat} {A : Around} (r : Room k A) : A.units + 65 < cLine := by have := r.un; omega
/-- what a def that draws gives back: the source has moved on, nothing else has changed -/
def RetS (TT : List NTab) (so : Addr) (H : Hp) (Q : VK) (good : V → Hp → Prop) : Prop := ∀ v H', Ext TT (some so) H H' → Src H' so → good v H' → Q v H'
theorem Ext.srcSet {TT : List NTab} {so : Addr} {H H1 : Hp} {x y : Int} (x1 : Ext TT (some so) H H1) (s1 : Src H1 so) (hx : 0 ≤ x ∧ x.natAbs < 2 ^ BIG) (hy : 0 ≤ y ∧ y < 2147483647) :
    Ext TT (some so) H (upd H1 so (.lst [.int x, .int y])) ∧ Src (upd H1 so (.lst [.int x, .int y])) so := by
  obtain ⟨a, b, h, _⟩ := s1
  have me : Src (upd H1 so (.lst [.int x, .int y])) so := ⟨x, y, upd_same, hx.1, hx.2, hy.1, hy.2⟩
  refine ⟨⟨fun c o ne nt e => ?_, fun t => ?_, fun c e _ => ?_, fun c e => x1.fr c (upd_none' e)⟩, me⟩
  · rw [upd_ne (fun z => ne (by rw [z]))]
    exact x1.kp c o ne nt e
  · have q := x1.tb t
    intro p hp
    obtain ⟨ps, a1, a2, a3⟩ := q p hp
    refine ⟨ps, (upd_ne (ne_of a1 h (Ne.symm (lst_nt ps)))).trans a1, a2, fun pos cv hc => ?_⟩
    obtain ⟨d, e1, e2⟩ := a3 pos cv hc
    exact ⟨d, e1, (upd_ne (ne_of e2 h (Ne.symm (lst_nc d _)))).trans e2⟩
  · cases e
    exact me
/-- a source that the beginning does not know is forgotten -/
theorem Ext.dropS {TT : List NTab} {so : Addr} {H H1 H2 : Hp} (x : Ext TT none H H1) (n : H so = none) (y : Ext TT (some so) H1 H2) : Ext TT none H H2 :=
  ⟨fun b o _ nt e => y.kp b o (fun z => by cases z; rw [n] at e; cases e) nt (x.kp b o (fun z => nomatch z) nt e), fun t => y.tb (x.tb t), fun _ e => (nomatch e), fun b e => x.fr b (y.fr b e)⟩
theorem SqL.ext {TT : List NTab} {H H1 : Hp} {a : Addr} {xs : List V} (h : SqL K H a xs) (x : Ext TT none H H1) : SqL K H1 a xs := by
  rcases h with (h | ⟨o, h⟩) | h
  · exact .inl (.inl (x.lst h))
  · exact .inl (.inr ⟨o, x.kp a _ (fun z => nomatch z) frz_nt h⟩)
  · exact .inr h
/-- a new object: what is kept, and where it stands -/
theorem newX {TT : List NTab} {H H1 : Hp} {p : Addr} {o : HO} {so : Option Addr} (x : Ext TT so H H1) (n : H1 p = none) : Ext TT so H (upd H1 p o) ∧ upd H1 p o p = some o := ⟨x.trans (Ext.new n), upd_same⟩
def spTake (TT : List NTab) : Sp := fun vs H Q _ => ∃ (so : Addr) (n : Int), vs = [.ref so, .int n] ∧ Src H so ∧ 0 < n ∧ n < 2 ^ 62 ∧ RetS TT so H Q fun v _ => ∃ m : Int, v = .int m ∧ 0 ≤ m ∧ m < n
theorem ok_take (T : Txt K mg) (TT : List NTab) : FnOk P w K mg base CX0 1 T.a_Ltake T.d_Ltake ["_law_source", "_law_top"] (spTake TT) := by
  refine T.F_Ltake.ok sc_Ltake (fun vs H Q E h => ?_) (fun cdv A outer s H vs Q E hr h => ?_)
  · obtain ⟨so, n, rfl, _⟩ := h
    rfl
  · obtain ⟨so, n, rfl, hs, hn, hn2, k⟩ := h
    have nd := sc_Ltake.nd
    refine ⟨_, pss_cons (ps_if (pt_cmpR op_gt (pe_ix ix_list (pv 0) pe_int (fun _ _ => rfl)) pe_int (nomark _))
        (pss_cons (ps_set (i := 2) nd rfl (Or.inl rfl) (pe_op op_mod (pe_callTy call_int1 (by rfl) T.n_int (by decide +kernel) (pa_cons (pe_ix ix_list (pv 0) pe_int (fun _ _ => rfl)) pa_nil)) (pv 1)))
        (pss_cons (ps_asg (pe_op op_fdivW (pe_ix ix_list (pv 0) pe_int (fun _ _ => rfl)) (pv 1)) (pg_sub (pv 0) pe_int set_list))
        (pss_one (ps_ret (pv 2))))) pss_nil)
      (pss_cons (ps_asg (pe_op op_mod (pe_callTy call_int1 (by rfl) T.n_int (by decide +kernel) (pa_cons (pe_op op_add (pe_op op_mul (pe_ix ix_list (pv 0) pe_int (fun _ _ => rfl)) pe_int) pe_int) pa_nil)) pe_int) (pg_sub (pv 0) pe_int set_list))
      (pss_one (ps_ret (pe_op op_mod (pe_callTy call_int1 (by rfl) T.n_int (by decide +kernel) (pa_cons (pe_op op_fdiv (pe_op op_mod (pe_callTy call_int1 (by rfl) T.n_int (by decide +kernel) (pa_cons (pe_op op_mulW (pe_ix ix_list (pv 0) pe_int (fun _ _ => rfl)) (pe_ix ix_list (pv 0) pe_int (fun _ _ => rfl))) pa_nil)) pe_int) pe_int) pa_nil)) (pv 1))))), ?_⟩
    have hs0 := hs
    obtain ⟨x, y, h, hx0, hxB, hy0, hyB⟩ := hs
    have n30 : n.natAbs < 2 ^ 62 := by omega
    refine ⟨_, rfl, so, _, 0, _, rfl, rfl, SqL.of h, rfl, _, _, rfl, rfl, _, rfl, ?_⟩
    refine iteB (fun h0 => ?_) (fun h0 => ?_)
    · have hx : 0 < x := of_decide_eq_true h0
      refine ⟨_, rfl, so, _, 0, _, rfl, rfl, SqL.of h, rfl, .inl ⟨_, rfl, _, rfl, _, _, rfl, rfl, hn, ?_⟩⟩
      refine ⟨_, rfl, so, _, 0, _, rfl, rfl, SqL.of h, rfl, _, rfl, _, _, rfl, rfl, wide_div hn n30 (by omega) (by omega), ?_⟩
      refine ⟨_, rfl, so, _, 0, 0, rfl, rfl, h, rfl, ?_⟩
      have d0 : 0 ≤ x / n := Int.ediv_nonneg hx0 (by omega)
      have d1 : x / n ≤ x := Int.ediv_le_self n hx0
      obtain ⟨e1, e2⟩ := (Ext.refl TT (some so) H).srcSet (x := x / n) (y := y) hs0 ⟨d0, wide_le d0 d1 hxB⟩ ⟨hy0, hyB⟩
      exact ⟨_, rfl, k _ _ e1 e2 ⟨_, rfl, Int.emod_nonneg _ (by omega), Int.emod_lt_of_pos _ hn⟩⟩
    · refine ⟨_, rfl, so, _, 1, _, rfl, rfl, SqL.of h, rfl, _, _, rfl, rfl, .inr (by omega), _, _, rfl, rfl, .inl ⟨_, rfl, _, _, rfl, rfl, by omega, ?_⟩⟩
      refine ⟨_, rfl, so, _, 1, 1, rfl, rfl, h, rfl, ?_⟩
      have m0 : 0 ≤ (y * 39373 + 7) % 2147483647 := Int.emod_nonneg _ (by omega)
      have m1 : (y * 39373 + 7) % 2147483647 < 2147483647 := Int.emod_lt_of_pos _ (by omega)
      obtain ⟨e1, e2⟩ := (Ext.refl TT (some so) H).srcSet (x := x) (y := (y * 39373 + 7) % 2147483647) hs0 ⟨hx0, hxB⟩ ⟨m0, m1⟩
      dsimp only [List.set]
      generalize (y * 39373 + 7) % 2147483647 = z at m0 m1 e1 e2 ⊢
      have zb : z.natAbs < 2 ^ 31 := by omega
      refine ⟨_, rfl, so, _, 1, _, rfl, rfl, SqL.of upd_same, rfl, _, rfl, so, _, 1, _, rfl, rfl, SqL.of upd_same, rfl, _, _, rfl, rfl, wide_mul (a := 31) (b := 31) zb zb (by decide) (by decide) (by decide), .inl ⟨_, rfl, _, _, rfl, rfl, by omega, ?_⟩⟩
      have q0 : 0 ≤ z * z % 2147483629 := Int.emod_nonneg _ (by omega)
      have q1 : z * z % 2147483629 < 2147483629 := Int.emod_lt_of_pos _ (by omega)
      refine ⟨_, _, rfl, rfl, ⟨by decide, by decide⟩, .inl ⟨_, rfl, _, rfl, _, _, rfl, rfl, hn, ?_⟩⟩
      exact k _ _ e1 e2 ⟨_, rfl, Int.emod_nonneg _ (by omega), Int.emod_lt_of_pos _ hn⟩
def spOne (TT : List NTab) : Sp := fun vs H Q _ => ∃ (so l : Addr) (xs : List V), vs = [.ref so, .ref l] ∧ Src H so ∧ H l = some (.lst xs) ∧ l ≠ so ∧ 0 < xs.length ∧ xs.length < 1000 ∧ RetS TT so H Q fun v _ => v ∈ xs
theorem atI_in {α : Type} {xs : List α} {m : Int} (h0 : 0 ≤ m) (h : m < xs.length) : ∃ v, atI xs m = some v ∧ v ∈ xs := by
  obtain ⟨k, rfl⟩ : ∃ k : Nat, m = (k : Int) := ⟨m.toNat, by omega⟩
  have hk : k < xs.length := by omega
  exact ⟨xs[k], atI_nat (List.getElem?_eq_getElem hk), List.getElem_mem hk⟩
theorem ok_one (T : Txt K mg) (TT : List NTab) : FnOk P w K mg base CX0 2 T.a_Lone T.d_Lone ["_law_source", "_law_things"] (spOne TT) := by
  refine T.F_Lone.ok sc_Lone (fun vs H Q E h => ?_) (fun cdv A outer s H vs Q E hr h => ?_)
  · obtain ⟨so, l, xs, rfl, _⟩ := h
    rfl
  · obtain ⟨so, l, xs, rfl, hs, hl, ne, h0, h1, k⟩ := h
    refine ⟨_, pss_one (ps_ret (pe_ix ix_list (pv 1) (pe_call (ok_take T TT) (hr.mono (by decide)) rfl T.g_Ltake T.F_Ltake.kp T.b_Ltake .nil pass0 (pa_cons (pv 0) (pa_cons (pe_callB call_len_seq (by rfl) T.n_len PySem.boot_len (pa_cons (pv 1) pa_nil)) pa_nil))) (fun _ _ => rfl))), ?_⟩
    refine ⟨_, rfl, _, rfl, _, rfl, l, _, rfl, .inl (SqL.of hl), so, _, rfl, hs, by omega, by omega, fun v H1 x1 s1 hv => ?_⟩
    obtain ⟨m, rfl, m0, m1⟩ := hv
    obtain ⟨v, hv, hm⟩ := atI_in m0 m1
    exact ⟨l, _, m, v, rfl, rfl, SqL.of (x1.lstS ne hl), hv, k _ _ x1 s1 hm⟩
theorem src_ne {H : Hp} {so l : Addr} (q : Src H so) (n : H l = none) : l ≠ so := fun z => by
  obtain ⟨_, _, e, _⟩ := q
  rw [← z, n] at e
  cases e
def spPool (K : PySem.W.Frag) (TT : List NTab) : Sp := fun vs H Q _ => ∃ (l : Addr) (ns : List Int) (k : Int), vs = [.ref l, .int k] ∧ 0 ≤ k ∧ k < 1000 ∧ SqL K H l (ns.map V.int) ∧ (∀ z ∈ ns, Builtin.Int.intBits z ≤ 1048576) ∧ Ret TT H Q fun v H' => ∃ so, v = .ref so ∧ Src H' so ∧ H so = none
theorem ok_pool (T : Txt K mg) (TT : List NTab) : FnOk P w K mg base CX0 1 T.a_Lpool T.d_Lpool ["_law_script", "_law_k"] (spPool K TT) := by
  refine T.F_Lpool.ok sc_Lpool (fun vs H Q E h => ?_) (fun cdv A outer s H vs Q E hr h => ?_)
  · obtain ⟨l, ns, k, rfl, _⟩ := h
    rfl
  · obtain ⟨l, ns, k, rfl, k0, k1, hl, hb, q⟩ := h
    have nd := sc_Lpool.nd
    refine ⟨_, pss_cons (ps_set (i := 2) nd rfl (Or.inl rfl) pe_int)
      (pss_cons (ps_if (pt_cmpR op_lt (pv 1) (pe_callB call_len_seq (by rfl) T.n_len PySem.boot_len (pa_cons (pv 0) pa_nil)) (nomark _)) (pss_one (ps_set (i := 2) nd rfl (Or.inl rfl) (pe_ix ix_list (pv 0) (pv 1) (fun _ _ => rfl))))
        (pss_one (ps_if (pt_truth (pv 0) (by intro _; rfl)) (pss_one (ps_set (i := 2) nd rfl (Or.inl rfl) (pe_ix ix_list (pv 0) pe_int (fun _ _ => rfl)))) pss_nil)))
      (pss_cons (ps_set (i := 3) nd rfl (Or.inl rfl) (pe_callB (call_max2 rfl) (by rfl) T.n_max (by decide +kernel) (pa_cons (pe_callTy call_int1 (by rfl) T.n_int (by decide +kernel) (pa_cons (pv 2) pa_nil)) (pa_cons (pe_callTy call_int1 (by rfl) T.n_int (by decide +kernel) (pa_cons (pe_op op_sub (pe_un un_neg pe_int) (pv 2)) pa_nil)) pa_nil))))
      (pss_cons (ps_set (i := 4) nd rfl (Or.inl rfl) (pe_op op_mod (pe_callTy call_int1 (by rfl) T.n_int (by decide +kernel) (pa_cons (pe_op op_mul (pe_op op_add (pe_op op_add (pe_op op_add (pe_op op_mod (pe_callTy call_int1 (by rfl) T.n_int (by decide +kernel) (pa_cons (pv 3) pa_nil)) pe_int)
          (pe_op op_mul (pe_op op_mul pe_int (pv 1)) (pv 1))) (pe_op op_mul pe_int (pv 1))) pe_int) pe_int) pa_nil)) pe_int))
      (pss_one (ps_ret (pe_lst (pa_cons (pe_op op_mul (pv 3) (pe_callTy call_int1 (by rfl) T.n_int (by decide +kernel) (pa_cons (pe_cmpR op_ge (pv 3) (pe_op op_pow pe_int pe_int) (nomark _)) pa_nil))) (pa_cons (pv 4) pa_nil)))))))), ?_⟩
    dsimp only
    refine seq_cut (fun σ H' => H = H' ∧ σ = [some (.ref l), some (.int k), some (.int 0), none, none]) (fun R join => join _ _ ⟨rfl, rfl⟩) ?_
    rintro σ _ ⟨rfl, rfl⟩
    refine seq_cut (fun σ H' => H = H' ∧ ∃ c : Int, c.natAbs < 2 ^ 1048576 ∧ σ = [some (.ref l), some (.int k), some (.int c), none, none]) (fun R join => ?_) ?_
    · refine ⟨_, rfl, _, rfl, l, _, rfl, .inl hl, _, _, rfl, rfl, _, rfl, ?_⟩
      refine iteB (fun h => ?_) (fun h => ?_)
      · have h0 : k < ((ns.map V.int).length : Nat) := of_decide_eq_true h
        rw [List.length_map] at h0
        obtain ⟨j, rfl⟩ : ∃ j : Nat, k = (j : Int) := ⟨k.toNat, by omega⟩
        have hj : j < ns.length := by omega
        refine ⟨_, rfl, _, rfl, l, _, _, .int ns[j], rfl, rfl, hl, atI_nat (by rw [List.getElem?_map, List.getElem?_eq_getElem hj]; rfl), ?_⟩
        exact join _ _ ⟨rfl, _, bits_lt (hb _ (List.getElem_mem hj)), rfl⟩
      · refine ⟨_, rfl, _, .inl ⟨_, hl, rfl⟩, ?_⟩
        cases ns with
        | nil => exact iteF' rfl (join _ _ ⟨rfl, 0, Nat.two_pow_pos _, rfl⟩)
        | cons c r =>
          refine iteT' rfl ⟨_, rfl, l, _, 0, .int c, rfl, rfl, hl, atI_nat (j := 0) rfl, ?_⟩
          exact join _ _ ⟨rfl, _, bits_lt (hb _ List.mem_cons_self), rfl⟩
    · rintro σ _ ⟨rfl, c, hcb, rfl⟩
      obtain ⟨B, hB⟩ : ∃ B : Int, B = (if (-1 - c) > c then (-1 - c) else c) := ⟨_, rfl⟩
      have B0 : 0 ≤ B := by rw [hB]; split <;> omega
      have B1 : B.natAbs ≤ (c).natAbs := by rw [hB]; split <;> omega
      have BB := big_lt hcb B1
      have kk : 0 ≤ 7919 * k ∧ 7919 * k < 2 ^ 62 := by omega
      refine ⟨_, rfl, .inl ⟨_, rfl, _, rfl, _, rfl, _, _, rfl, rfl, .inl ⟨_, rfl, c, -1 - c, rfl, ?_⟩⟩⟩
      rw [← hB]
      refine ⟨_, rfl, .inl ⟨_, rfl, _, _, rfl, rfl, (by show (0 : Int) < 2147483629; decide), _, rfl, _, _, rfl, rfl, .inl ⟨by decide, by decide⟩, _, rfl, _, _, rfl, rfl, .inl ⟨by omega, by omega⟩, _, _, rfl, rfl, _, rfl, _, _, rfl, rfl, .inl ⟨by decide, by decide⟩, _, _, rfl, rfl, _, _, rfl, rfl, _, _, rfl, rfl, .inr ⟨by decide, by decide⟩, .inl ⟨_, rfl, _, _, rfl, rfl, (by show (0 : Int) < 2147483647; decide), ?_⟩⟩⟩
      refine ⟨_, rfl, _, rfl, _, _, rfl, rfl, ⟨by decide, by decide, by decide⟩, _, _, rfl, rfl, .inr ⟨_, rfl, _, _, rfl, rfl, .inr ?_, _, rfl, (by show 2 ≤ sizeLine; decide), fun so nso => ?_⟩⟩
      · split <;> exact ⟨by decide, by decide⟩
      · refine q _ _ (Ext.new nso) ⟨so, rfl, ⟨_, _, upd_same, ?_, ?_, Int.emod_nonneg _ (by decide), Int.emod_lt_of_pos _ (by decide)⟩, nso⟩
        · split
          · rw [Int.mul_one]; exact B0
          · rw [Int.mul_zero]; exact Int.le_refl _
        · split
          · rw [Int.mul_one]; exact BB
          · rw [Int.mul_zero]; exact Nat.two_pow_pos _
end
end R
end

-- Err
section
set_option Elab.async false
set_option linter.all false
set_option maxRecDepth 100000
set_option maxHeartbeats 4000000
namespace R
open PySem PySem.Spec PyProof.Rows L2 LamX NdefX LamP
/-! ### errors -/
def spErrInit (K : PySem.W.Frag) : Sp := fun vs H Q _ => ∃ (a C : Addr) (v : V), vs = [.ref a, v] ∧ OexC K C ∧ PySem.W.findIn K (.ref C) "what" = some none ∧ H a = some (exo a C none) ∧
  ∀ dx, H dx = none → dx ≠ a → Q .non (upd (upd H dx (exd dx [("what", v)])) a (exo a C (some dx)))
/-- an error of the class at C is wished, its what as P tells -/
def Rz (TT : List NTab) (E : XK) (H : Hp) (C : Addr) (P : V → Hp → Prop) : Prop := ∀ v d H', Ext TT none H H' → H' d = some (.xd [("what", v)]) → P v H' → E (.ref C) (some d) H'
theorem Rz.step {TT : List NTab} {E : XK} {H H1 : Hp} {C : Addr} {P : V → Hp → Prop} (h : Rz TT E H C P) (x : Ext TT none H H1) : Rz TT E H1 C P := fun v d H' y => h v d H' (x.trans y)
def tErr (C : Addr) (ta : TA) : L2.St → Hp → XK → Prop := fun σ H Q => ta σ H fun vs H1 => ∃ v, vs = [v] ∧ ∀ d, H1 d = none → Q (.ref C) (some d) (upd H1 d (.xd [("what", v)]))
section
variable {P : Program} {w : World} {K : PySem.W.Frag} {mg : Str → Option Value} {base : Heap}
theorem ok_err_init (T : Txt K mg) : FnOk P w K mg base CX0 1 T.a_Refused_init T.d_Refused_init ["self", "what"] (spErrInit K) := by
  refine T.F_Refused_init.ok sc_Refused_init (fun vs H Q E h => ?_) (fun cdv A outer s H vs Q E hr h => ?_)
  · obtain ⟨a, C, v, rfl, _⟩ := h
    rfl
  · obtain ⟨a, C, v, rfl, hC, hw, ha, k⟩ := h
    refine ⟨_, pss_one (ps_ost (pv 0) (pv 1)), ?_⟩
    exact ⟨_, rfl, _, rfl, a, C, rfl, hC, hw, .inl ⟨ha, k⟩⟩
theorem pa_mono {X : Cx} {es : List Expr} {ta : TA} (ha : PA X es ta) : PA X es (fun σ H Q2 => ∃ Q1 : List V → Hp → Prop, ta σ H Q1 ∧ ∀ vs H1, Q1 vs H1 → Q2 vs H1) := by
  refine ⟨fun pos pins s σ H Q I h => ?_⟩
  obtain ⟨Q1, h1, m⟩ := h
  exact wpAny_mono (ha.run pos pins s σ H Q1 I h1) (fun us s' ⟨vs, H', I', r, q⟩ => ⟨vs, H', I', r, m _ _ q⟩) fun _ _ x => x
theorem pmk_err {X : Cx} {x : Str} {C : Addr} {e : Expr} {ta : TA} {p pos : Pos} (T : Txt X.K X.mg) (hE : ErrC X.K X.mg x T.a_Refused_init C) (hr : Room 2 X.A) (hg : Gl X x) (ha : PA X [e] ta)
    (hdb : (x == ("__debug__" : Str)) = false := by decide) (he : starEach (e :: []) X.env = (false, eval e X.env) :: starEach [] X.env := by rfl) (hpl : (backTo pos (starEach [] X.env)).any (·.1) = false := by rfl) :
    PMk X (.Call (.Name x p) [e] [] pos) (tErr C ta) := by
  have q := pmk_oex (pos := pos) (p := p) hE.ox hE.iC T.tI (ok_err_init (P := X.prog) (w := X.w) (base := X.base) T) hr T.b_Refused_init .nil pass0 hg hE.gC (pa_mono ha) hdb he hpl
  intro pins s σ H Q I h
  refine q pins s σ H Q I ?_
  refine ⟨_, h, fun vs H1 hv => ?_⟩
  obtain ⟨v, rfl, k⟩ := hv
  refine ⟨(by show 1 ≤ 1000; decide), fun a na => ?_⟩
  refine ⟨a, C, v, rfl, hE.ox, hE.nw, upd_same, fun dx nd ne => ?_⟩
  have nd1 : H1 dx = none := by
    rw [upd_ne ne] at nd
    exact nd
  refine ⟨rfl, dx, [("what", v)], upd_same, by rw [upd_ne ne]; exact upd_same, nd1, ?_⟩
  have e1 : upd (del (upd (upd (upd H1 a (exo a C none)) dx (exd dx [("what", v)])) a (exo a C (some dx))) a) dx (.xd [("what", v)]) = upd H1 dx (.xd [("what", v)]) := by
    funext b
    by_cases hb : b = dx
    · rw [hb, upd_same, upd_same]
    · rw [upd_ne hb, upd_ne hb]
      by_cases hba : b = a
      · rw [hba, del_same, na]
      · rw [del_ne hba, upd_ne hba, upd_ne hb, upd_ne hba]
  rw [e1]
  exact k dx nd1
/-- a number is refused unless it lies within lo to hi -/
def spCheckCount (T : Txt K mg) (TT : List NTab) : Sp := fun vs H Q E => ∃ n lo hi : Int, vs = [.int n, .int lo, .int hi] ∧ ((lo ≤ n ∧ n ≤ hi) → Q .non H) ∧ (¬ (lo ≤ n ∧ n ≤ hi) → Rz TT E H T.C_BadCount fun v _ => v = .int n)
theorem ok_check_count (T : Txt K mg) (TT : List NTab) : FnOk P w K mg base (L2.CX P w) 3 T.a_check_count T.d_check_count ["number", "least", "most"] (spCheckCount T TT) := by
  refine T.F_check_count.okX sc_check_count (fun vs H Q E h => ?_) (fun cdv A outer s H vs Q E hr h => ?_)
  · obtain ⟨n, lo, hi, rfl, _⟩ := h
    rfl
  · obtain ⟨n, lo, hi, rfl, k1, k2⟩ := h
    refine ⟨_, pss_one (ps_if (pt_not (pt_chain op_le op_le (pv 1) (pv 0) (pv 2)))
      (pss_one (ps_raise rfl (takes_of rfl rfl rfl rfl) (pmk_err (C := T.C_BadCount) T T.e_BadCount hr rfl (pa_cons (pv 0) pa_nil)))) pss_nil), ?_⟩
    refine ⟨_, rfl, _, rfl, _, _, rfl, rfl, _, rfl, ?_⟩
    refine iteB (fun h => ?_) (fun h => ?_)
    · refine ⟨_, rfl, _, _, rfl, rfl, _, rfl, ?_⟩
      refine iteB (fun h2 => ?_) (fun h2 => ?_)
      · have h' : ¬ (lo ≤ n ∧ n ≤ hi) := fun z => by simp at h2; omega
        exact ⟨_, rfl, _, rfl, fun d nd => k2 h' _ _ _ (Ext.new nd) upd_same rfl⟩
      · have h' : lo ≤ n ∧ n ≤ hi := ⟨by simpa using h, by simpa using h2⟩
        exact k1 h'
    · refine ⟨_, rfl, ?_⟩
      refine iteT' rfl ?_
      have h' : ¬ (lo ≤ n ∧ n ≤ hi) := fun z => by simp at h; omega
      exact ⟨_, rfl, _, rfl, fun d nd => k2 h' _ _ _ (Ext.new nd) upd_same rfl⟩
def spCheckCoats (T : Txt K mg) (TT : List NTab) : Sp := fun vs H Q E => ∃ n : Int, vs = [.int n] ∧ ((2 ≤ n ∧ n ≤ 6) → Q .non H) ∧ (¬ (2 ≤ n ∧ n ≤ 6) → Rz TT E H T.C_BadCount fun v _ => v = .int n)
theorem ok_check_coats (T : Txt K mg) (TT : List NTab) : FnOk P w K mg base (L2.CX P w) 4 T.a_check_coats T.d_check_coats ["coats"] (spCheckCoats T TT) := by
  refine T.F_check_coats.okX sc_check_coats (fun vs H Q E h => ?_) (fun cdv A outer s H vs Q E hr h => ?_)
  · obtain ⟨n, rfl, _⟩ := h
    rfl
  · obtain ⟨n, rfl, k1, k2⟩ := h
    have px : Passes (L2.CX P w) (cxOf (L2.CX P w) P w K mg base N_check_coats "check_coats" (defScope s_check_coats) T.a_check_coats cdv A outer s H E) E := passes_call (takes_of rfl rfl rfl rfl) (fun _ _ _ _ h => h)
    refine ⟨_, pss_one (ps_expr (pe_call (ok_check_count T TT) hr rfl T.g_check_count T.F_check_count.kp T.b_check_count .nil px (pa_cons (pv 0) (pa_cons (pe_glob (v := .int 2) rfl T.c_LEAST_COATS ⟨_, rfl⟩) (pa_cons (pe_glob (v := .int 6) rfl T.c_MOST_COATS ⟨_, rfl⟩) pa_nil))))), ?_⟩
    exact ⟨_, rfl, n, 2, 6, rfl, k1, k2⟩
end
end R
end

-- Comb
section
set_option Elab.async false
set_option linter.all false
set_option maxRecDepth 100000
set_option maxHeartbeats 4000000
/-! Comb: math.comb, as a rule of the hand layer. -/
namespace CombX
open PySem PySem.Spec PyProof.Rows L2
/-- numbers that are not negative, of a moderate size -/
def rComb : List V → Hp → VK → Prop := fun vs H Q => ∃ n k : Int, vs = [.int n, .int k] ∧ (0 ≤ n ∧ n < 2 ^ 64) ∧ (0 ≤ k ∧ k ≤ 9000) ∧ Q (.int (PySem.W.mcComb n k)) H
theorem cr_comb {X : Cx} : CallR X (.builtin "math.comb") rComb := by
  rintro pins s σ H vs us Q I r ⟨n, k, rfl, hn, hk, q⟩
  obtain ⟨t, u, rfl⟩ := Vals.int2 r
  exact PySem.W.mc_comb hn.1 hk.1 hn.2 (.inl hk.2) fun _ => ⟨.int _, _, I.tok _, ⟨_, rfl⟩, q⟩
end CombX
end

-- Grid
section
set_option Elab.async false
set_option linter.all false
set_option maxRecDepth 100000
set_option maxHeartbeats 4000000
/-! Grid: a list of lists of numbers, changed in place. -/
namespace GridX
open PySem PySem.Spec PyProof.Rows L2 NdefX R
def nV (n : Nat) : V := .int (n : Int)
def rowV (W : Nat) (g : Nat → Nat) : List V := (List.range W).map fun m => nV (g m)
theorem row_len (W : Nat) (g : Nat → Nat) : (rowV W g).length = W := by unfold rowV; simp
theorem row_at {W m : Nat} (g : Nat → Nat) (h : m < W) : (rowV W g)[m]? = some (nV (g m)) := by
  unfold rowV
  rw [List.getElem?_map, List.getElem?_range h] <;> rfl
theorem row_atI {W m : Nat} (g : Nat → Nat) (h : m < W) : atI (rowV W g) (m : Int) = some (nV (g m)) := atI_nat (row_at g h)
theorem row_succ (W : Nat) (g : Nat → Nat) : rowV W g ++ [nV (g W)] = rowV (W + 1) g := by
  unfold rowV
  rw [List.range_succ, List.map_append] <;> rfl
theorem row_congr {W : Nat} {g g' : Nat → Nat} (h : ∀ m, m < W → g m = g' m) : rowV W g = rowV W g' := by
  unfold rowV
  refine List.map_congr_left fun m hm => ?_
  rw [h m (List.mem_range.mp hm)]
theorem row_set {W m : Nat} (g : Nat → Nat) (v : Nat) (h : m < W) : (rowV W g).set m (nV v) = rowV W (fun x => if x = m then v else g x) := by
  apply List.ext_getElem?
  intro i
  by_cases hi : i < W
  · rw [row_at _ hi, List.getElem?_set]
    by_cases e : m = i
    · subst e
      rw [if_pos rfl, if_pos (by rw [row_len]; exact hi), if_pos rfl]
    · rw [if_neg e, row_at _ hi, if_neg (fun z => e z.symm)]
  · rw [List.getElem?_eq_none (by rw [List.length_set, row_len]; omega), List.getElem?_eq_none (by rw [row_len]; omega)]
theorem ixN_nat {n m : Nat} (h : m < n) : ixN n (m : Int) = some m := by
  unfold ixN
  rw [if_pos (by omega), if_pos (by omega)]
  simp
structure Grid (H : Hp) (a : Addr) (R W : Nat) (f : Nat → Nat → Nat) (ads : List Addr) : Prop where
  top : H a = some (.lst (ads.map V.ref))
  len : ads.length = R
  row : ∀ p r, ads[p]? = some r → H r = some (.lst (rowV W (f p)))
  nd : ads.Nodup
  out : a ∉ ads
theorem Grid.ext {TT : List NTab} {H H1 : Hp} {a : Addr} {R W : Nat} {f : Nat → Nat → Nat} {ads : List Addr} (g : Grid H a R W f ads) (x : Ext TT none H H1) : Grid H1 a R W f ads :=
  ⟨x.lst g.top, g.len, fun p r h => x.lst (g.row p r h), g.nd, g.out⟩
theorem Grid.congr {H : Hp} {a : Addr} {R W : Nat} {f f' : Nat → Nat → Nat} {ads : List Addr} (g : Grid H a R W f ads) (h : ∀ p m, p < R → m < W → f p m = f' p m) : Grid H a R W f' ads :=
  ⟨g.top, g.len, fun p r e => by
    have hp : p < R := by
      rw [← g.len]
      exact (List.getElem?_eq_some_iff.mp e).1
    rw [g.row p r e, row_congr fun m hm => h p m hp hm], g.nd, g.out⟩
/-- where the row p stands -/
theorem Grid.at {H : Hp} {a : Addr} {R W : Nat} {f : Nat → Nat → Nat} {ads : List Addr} (g : Grid H a R W f ads) {p : Nat} (h : p < R) : ∃ r, ads[p]? = some r ∧ atI (ads.map V.ref) (p : Int) = some (.ref r) ∧ H r = some (.lst (rowV W (f p))) ∧ r ∈ ads := by
  have hl : p < ads.length := by rw [g.len]; exact h
  refine ⟨ads[p], List.getElem?_eq_getElem hl, atI_nat ?_, g.row p _ (List.getElem?_eq_getElem hl), List.getElem_mem hl⟩
  rw [List.getElem?_map, List.getElem?_eq_getElem hl] <;> rfl
theorem Grid.put {H : Hp} {a r : Addr} {R W p m : Nat} {f : Nat → Nat → Nat} {ads : List Addr} (g : Grid H a R W f ads) (hp : ads[p]? = some r) (hm : m < W) (v : Nat) :
    Grid (upd H r (.lst ((rowV W (f p)).set m (nV v)))) a R W (fun p' m' => if p' = p ∧ m' = m then v else f p' m') ads := by
  have hr : r ∈ ads := List.mem_of_getElem? hp
  refine ⟨?_, g.len, fun p' r' e => ?_, g.nd, g.out⟩
  · rw [upd_ne (fun z => g.out (by rw [z]; exact hr))]
    exact g.top
  · by_cases ep : p' = p
    · subst ep
      rw [hp] at e
      cases e
      rw [upd_same, row_set _ _ hm]
      refine congrArg (fun z => some (HO.lst z)) (row_congr fun x _ => ?_)
      by_cases ex : x = m
      · rw [if_pos ex, if_pos ⟨rfl, ex⟩]
      · rw [if_neg ex, if_neg (fun z => ex z.2)]
    · have ne : r' ≠ r := fun z => by
        subst z
        obtain ⟨h1, e1⟩ := List.getElem?_eq_some_iff.mp e
        obtain ⟨h2, e2⟩ := List.getElem?_eq_some_iff.mp hp
        have q := List.pairwise_iff_getElem.mp (show ads.Pairwise (· ≠ ·) from g.nd)
        rcases Nat.lt_trichotomy p' p with lt | eq | lt
        · exact q p' p h1 h2 lt (e1.trans e2.symm)
        · exact ep eq
        · exact q p p' h2 h1 lt (e2.trans e1.symm)
      rw [upd_ne ne, g.row p' r' e]
      refine congrArg (fun z => some (HO.lst z)) (row_congr fun x _ => ?_)
      rw [if_neg (fun z => ep z.1)]
theorem Grid.push {H : Hp} {a r : Addr} {R W : Nat} {f : Nat → Nat → Nat} {ads : List Addr} (g : Grid H a R W f ads) (hn : r ∉ ads) (ha : r ≠ a) (hr : H r = some (.lst (rowV W (f R)))) :
    Grid (upd H a (.lst (ads.map V.ref ++ [.ref r]))) a (R + 1) W f (ads ++ [r]) := by
  refine ⟨?_, by rw [List.length_append, g.len] <;> rfl, fun p r' e => ?_, ?_, ?_⟩
  · rw [upd_same, List.map_append] <;> rfl
  · by_cases hp : p < ads.length
    · rw [List.getElem?_append_left hp] at e
      rw [upd_ne (fun z => g.out (by rw [← z]; exact List.mem_of_getElem? e))]
      exact g.row p r' e
    · have hp2 : p < (ads ++ [r]).length := (List.getElem?_eq_some_iff.mp e).1
      rw [List.length_append] at hp2
      have : p = ads.length := by simp only [List.length_cons, List.length_nil] at hp2; omega
      subst this
      rw [List.getElem?_append_right (Nat.le_refl _), Nat.sub_self] at e
      cases e
      rw [upd_ne ha, g.len]
      exact hr
  · rw [List.nodup_append]
    refine ⟨g.nd, by simp, fun x hx y hy z => ?_⟩
    cases List.mem_singleton.mp hy
    subst z
    exact hn hx
  · intro z
    rcases List.mem_append.mp z with z | z
    · exact g.out z
    · exact ha (List.mem_singleton.mp z).symm
end GridX
end

-- Surp
section
set_option Elab.async false
set_option linter.all false
set_option maxRecDepth 100000
set_option maxHeartbeats 4000000
namespace R
open PySem PySem.Spec PyProof.Rows L2 LamX NdefX LamP CombX GridX
/-! ### the counts, as the program makes them -/

def sumTo : Nat → (Nat → Nat) → Nat
  | 0, _ => 0
  | n + 1, g => sumTo n g + g n
def chN (n k : Nat) : Nat := (PySem.W.mcComb n k).toNat
theorem chN_eq (n k : Nat) : PySem.W.mcComb (n : Int) (k : Int) = ((chN n k : Nat) : Int) := by
  have h : 0 ≤ PySem.W.mcComb (n : Int) (k : Int) := (PySem.W.mc_comb_known (a := (n : Int)) (b := (k : Int)) (by omega) (by omega)).1
  unfold chN
  omega
theorem chN_small : ∀ c a : Fin 7, chN c.val a.val ≤ 64 := by decide +kernel
theorem chN_some : ∀ c : Fin 40, ∀ a : Fin 6, chN c.val a.val ≤ 1000000 := by decide +kernel
def sN (t m : Nat) : Nat := if t = 0 ∨ m = 0 then (if t = m then 1 else 0) else chN (t - 1) (m - 1)
theorem sN_le {t m : Nat} (h : t ≤ 40) (hm : m ≤ 6) : sN t m ≤ 1000000 := by
  unfold sN
  by_cases e : t = 0 ∨ m = 0
  · rw [if_pos e]
    split <;> omega
  · rw [if_neg e]
    exact chN_some ⟨t - 1, by omega⟩ ⟨m - 1, by omega⟩
def trm (c p m a b : Nat) : Nat := chN c a * sN p a * chN (c - a) b * sN m b
def rwN (c p m : Nat) : Nat := sumTo (c + 1) fun a => sumTo (c - a + 1) fun b => trm c p m a b
def Cnt (n : Int) : Prop := 1 ≤ n ∧ n ≤ 40
def Cts (n : Int) : Prop := 2 ≤ n ∧ n ≤ 6
/-- what surplus_count comes to -/
def surpL (l d c k : Nat) : List Nat := (List.range k).map fun i => rwN c (l - d + i) (l - d + i + d - l)
def surpN (l d c : Nat) : Nat := (surpL l d c (l - (l - d))).sum
theorem surp_succ (l d c i : Nat) : surpL l d c i ++ [rwN c (l - d + i) (l - d + i + d - l)] = surpL l d c (i + 1) := by
  unfold surpL
  rw [List.range_succ, List.map_append] <;> rfl
theorem surp_len (l d c k : Nat) : (surpL l d c k).length = k := by unfold surpL; simp
theorem sum_nV (L : List Nat) : ∃ ns : List Int, L.map nV = ns.map V.int ∧ ns.sum = ((L.sum : Nat) : Int) := by
  refine ⟨L.map Int.ofNat, by rw [List.map_map] <;> rfl, ?_⟩
  induction L with
  | nil => rfl
  | cons a r ih => rw [List.map_cons, List.sum_cons, ih, List.sum_cons, Int.natCast_add] <;> rfl
section
variable {P : Program} {w : World} {K : PySem.W.Frag} {mg : Str → Option Value} {base : Heap}
def spSumsOf : Sp := fun vs H Q _ => ∃ t m : Nat, vs = [nV t, nV m] ∧ t ≤ 40 ∧ m ≤ 6 ∧ Q (nV (sN t m)) H
theorem ok_sums_of (T : Txt K mg) (TT : List NTab) : FnOk P w K mg base CX0 1 T.a_sums_of T.d_sums_of ["total", "many"] spSumsOf := by
  refine T.F_sums_of.ok sc_sums_of (fun vs H Q E h => ?_) (fun cdv A outer s H vs Q E hr h => ?_)
  · obtain ⟨t, m, rfl, _⟩ := h
    rfl
  · obtain ⟨t, m, rfl, ht, hm, k⟩ := h
    have nd := sc_sums_of.nd
    refine ⟨_, (pss_cons (ps_if (PW.pt (pw_or (pt_cmpR op_eq (pv 0) pe_int (nomark _)) (pw_or1 (pt_cmpR op_eq (pv 1) pe_int (nomark _))))) (pss_one (ps_ret (pe_callTy call_int1 (by rfl) T.n_int (by decide +kernel) (pa_cons (pe_cmpR op_eq (pv 0) (pv 1) (nomark _)) pa_nil)))) pss_nil)
        (pss_one (ps_ret (pe_callBfun cr_comb (by rfl) T.m_comb (pa_cons (pe_op op_sub (pv 0) pe_int) (pa_cons (pe_op op_sub (pv 1) pe_int) pa_nil)))))), ?_⟩
    refine seq_cut (fun σ H' => σ = [some (nV t), some (nV m)] ∧ H = H' ∧ ¬ (t = 0 ∨ m = 0)) (fun R join => ?_) ?_
    · have stop : (t = 0 ∨ m = 0) → ∀ {G : Prop}, (Q (.int (if decide ((t : Int) = (m : Int)) = true then 1 else 0)) H → G) → G := fun e _ f => f (by
        unfold sN at k
        rw [if_pos e] at k
        by_cases z : t = m
        · rw [if_pos z] at k
          rw [if_pos (by simp [z])]
          exact k
        · rw [if_neg z] at k
          rw [if_neg (by simp; omega)]
          exact k)
      refine ⟨_, rfl, rfl, _, rfl, ?_⟩
      refine iteB (fun h => ?_) (fun h => ?_)
      · have e : t = 0 := by simp [nV] at h; omega
        refine ⟨_, rfl, _, rfl, rfl, .inr ⟨_, rfl, ?_⟩⟩
        exact stop (.inl e) (fun z => by first | exact z | simpa [nV] using z)
      · refine ⟨_, rfl, rfl, _, rfl, ?_⟩
        refine iteB (fun h2 => ?_) (fun h2 => ?_)
        · have e : m = 0 := by simp [nV] at h2; omega
          refine ⟨_, rfl, _, rfl, rfl, .inr ⟨_, rfl, ?_⟩⟩
          exact stop (.inr e) (fun z => by first | exact z | simpa [nV] using z)
        · refine join _ _ ⟨rfl, rfl, ?_⟩
          simp [nV] at h h2
          omega
    · rintro σ _ ⟨rfl, rfl, ne⟩
      unfold sN at k
      rw [if_neg ne] at k
      have e1 : (t : Int) - 1 = ((t - 1 : Nat) : Int) := by omega
      have e2 : (m : Int) - 1 = ((m - 1 : Nat) : Int) := by omega
      refine ⟨_, rfl, _, _, rfl, rfl, _, rfl, _, _, rfl, rfl, (t : Int) - 1, (m : Int) - 1, rfl, ⟨by omega, by omega⟩, ⟨by omega, by omega⟩, ?_⟩
      rw [e1, e2, chN_eq]
      exact k
def spRowsWith : Sp := fun vs H Q _ => ∃ p m c : Nat, vs = [nV p, nV m, nV c] ∧ p ≤ 40 ∧ m ≤ 40 ∧ c ≤ 6 ∧ Q (nV (rwN c p m)) H
theorem ok_rows_with (T : Txt K mg) (TT : List NTab) : FnOk P w K mg base CX0 2 T.a_rows_with T.d_rows_with ["above", "below", "coats"] spRowsWith := by
  refine T.F_rows_with.ok sc_rows_with (fun vs H Q E h => ?_) (fun cdv A outer s H vs Q E hr h => ?_)
  · obtain ⟨p, m, c, rfl, _⟩ := h
    rfl
  · obtain ⟨p, m, c, rfl, hp, hm, hc, k⟩ := h
    have nd := sc_rows_with.nd
    refine ⟨_, (pss_cons (ps_set (i := 3) nd rfl (Or.inl rfl) pe_int)
        (pss_cons (ps_for PassesOwn.never rfl (pi_range1 (by rfl) T.n_range (pa_cons (pe_op op_add (pv 2) pe_int) pa_nil)) (pg_name (i := 4) nd rfl (Or.inl rfl))
          (pss_one (ps_for PassesOwn.never rfl (pi_range1 (by rfl) T.n_range (pa_cons (pe_op op_add (pe_op op_sub (pv 2) (pv 4)) pe_int) pa_nil)) (pg_name (i := 5) nd rfl (Or.inl rfl))
          (pss_one (ps_aug (i := 3) nd rfl (Or.inl rfl) (pe_op op_mul (pe_op op_mul (pe_op op_mul (pe_callBfun cr_comb (by rfl) T.m_comb (pa_cons (pv 2) (pa_cons (pv 4) pa_nil))) (pe_call (ok_sums_of T TT) (hr.mono (by decide)) rfl T.g_sums_of T.F_sums_of.kp T.b_sums_of .nil pass0 (pa_cons (pv 0) (pa_cons (pv 4) pa_nil)))) (pe_callBfun cr_comb (by rfl) T.m_comb (pa_cons (pe_op op_sub (pv 2) (pv 4)) (pa_cons (pv 5) pa_nil)))) (pe_call (ok_sums_of T TT) (hr.mono (by decide)) rfl T.g_sums_of T.F_sums_of.kp T.b_sums_of .nil pass0 (pa_cons (pv 1) (pa_cons (pv 5) pa_nil)))) ip_add)))))
        (pss_one (ps_ret (pv 3))))), ?_⟩
    refine ⟨_, rfl, _, _, rfl, rfl, (c : Int) + 1, rfl, by omega, by omega, for_range (lo := 0) (n := ((c : Int) + 1).toNat) (fun i σ H' => ∃ u4 u5, σ = [some (nV p), some (nV m), some (nV c), some (nV (sumTo i fun a => sumTo (c - a + 1) fun b => trm c p m a b)), u4, u5] ∧ H = H') ⟨none, none, rfl, rfl⟩ ?_ ?_⟩
    · rintro i σ _ hi ⟨u4, u5, rfl, rfl⟩
      have hi' : i ≤ c := by omega
      have e0 : (0 : Int) + (i : Int) = (i : Int) := Int.zero_add _
      rw [e0]
      have ei : ((c : Int) - (i : Int) + 1) = ((c - i + 1 : Nat) : Int) := by omega
      refine ⟨_, rfl, _, rfl, _, _, rfl, rfl, _, _, rfl, rfl, (c : Int) - (i : Int) + 1, rfl, by omega, by omega, for_range (lo := 0) (n := ((c : Int) - (i : Int) + 1).toNat) (fun j σ H' => ∃ u5, σ = [some (nV p), some (nV m), some (nV c), some (nV ((sumTo i fun a => sumTo (c - a + 1) fun b => trm c p m a b) + sumTo j fun b => trm c p m i b)), some (nV i), u5] ∧ H = H') ⟨u5, rfl, rfl⟩ ?_ ?_⟩
      · rintro j σ _ hj ⟨u5, rfl, rfl⟩
        rw [show (0 : Int) + (j : Int) = (j : Int) from Int.zero_add _]
        have hj' : j ≤ c - i := by omega
        have c1 := chN_small ⟨c, by omega⟩ ⟨i, by omega⟩
        have c2 := chN_small ⟨c - i, by omega⟩ ⟨j, by omega⟩
        have z1 := sN_le (t := p) (m := i) hp (by omega)
        have z2 := sN_le (t := m) (m := j) hm (by omega)
        dsimp only at c1 c2
        have eci : (c : Int) - (i : Int) = ((c - i : Nat) : Int) := by omega
        refine ⟨_, rfl, ?_⟩
        refine ⟨_, rfl, _, rfl, (c : Int), (i : Int), rfl, ⟨by omega, by omega⟩, ⟨by omega, by omega⟩, ?_⟩
        rw [chN_eq]
        refine ⟨_, rfl, _, rfl, p, i, rfl, hp, by omega, ?_⟩
        refine ⟨_, _, rfl, rfl, .inl ⟨by omega, by omega⟩, ?_⟩
        refine ⟨_, rfl, _, rfl, _, _, rfl, rfl, _, rfl, (c : Int) - (i : Int), (j : Int), rfl, ⟨by omega, by omega⟩, ⟨by omega, by omega⟩, ?_⟩
        rw [eci, chN_eq]
        refine ⟨_, _, rfl, rfl, .inr ⟨by omega, by omega⟩, ?_⟩
        refine ⟨_, rfl, _, rfl, m, j, rfl, hm, by omega, ?_⟩
        refine ⟨_, _, rfl, rfl, .inr ⟨by omega, by omega⟩, ?_⟩
        refine ⟨_, _, rfl, rfl, some (nV j), ?_, rfl⟩
        · show [_, _, _, some (V.int _), _, _] = [_, _, _, some (V.int _), _, _]
          refine congrArg (fun z => [some (nV p), some (nV m), some (nV c), some (V.int z), some (nV i), some (nV j)]) ?_
          show _ = (((sumTo i fun a => sumTo (c - a + 1) fun b => trm c p m a b) + ((sumTo j fun b => trm c p m i b) + trm c p m i j) : Nat) : Int)
          unfold trm
          simp only [Int.natCast_add, Int.natCast_mul]
          omega
      · rintro σ _ ⟨u5, rfl, rfl⟩
        refine ⟨some (nV i), u5, ?_, rfl⟩
        · rw [ei, Int.toNat_natCast] <;> rfl
    · rintro σ _ ⟨u4, u5, rfl, rfl⟩
      refine ⟨_, rfl, ?_⟩
      rw [show ((c : Int) + 1).toNat = c + 1 by omega]
      exact k
end
end R
end

-- Surq
section
set_option Elab.async false
set_option linter.all false
set_option maxRecDepth 100000
set_option maxHeartbeats 4000000
namespace R
open PySem PySem.Spec PyProof.Rows L2 LamX NdefX LamP CombX GridX
section
variable {P : Program} {w : World} {K : PySem.W.Frag} {mg : Str → Option Value} {base : Heap}
def spSurp (T : Txt K mg) (TT : List NTab) : Sp := fun vs H Q E => ∃ l d c : Int, vs = [.int l, .int d, .int c] ∧ (¬ Cnt l → Rz TT E H T.C_BadCount fun v _ => v = .int l) ∧ (Cnt l → ¬ Cnt d → Rz TT E H T.C_BadCount fun v _ => v = .int d) ∧
  (Cnt l → Cnt d → ¬ Cts c → Rz TT E H T.C_BadCount fun v _ => v = .int c) ∧ (Cnt l → Cnt d → Cts c → RetV TT H Q (nV (surpN l.toNat d.toNat c.toNat)))
theorem ok_surplus_count (T : Txt K mg) (TT : List NTab) : FnOk P w K mg base (L2.CX P w) 5 T.a_surplus_count T.d_surplus_count ["light", "dark", "coats"] (spSurp T TT) := by
  refine T.F_surplus_count.okX sc_surplus_count (fun vs H Q E h => ?_) (fun cdv A outer s H vs Q E hr h => ?_)
  · obtain ⟨l, d, c, rfl, _⟩ := h
    rfl
  · obtain ⟨l, d, c, rfl, k1, k2, k3, k4⟩ := h
    have nd := sc_surplus_count.nd
    have px : Passes (L2.CX P w) (cxOf (L2.CX P w) P w K mg base N_surplus_count "surplus_count" (defScope s_surplus_count) T.a_surplus_count cdv A outer s H E) E := passes_call (takes_of rfl rfl rfl rfl) (fun _ _ _ _ h => h)
    refine ⟨_, (pss_cons (ps_expr (pe_call (ok_check_count T TT) (hr.mono (by decide)) rfl T.g_check_count T.F_check_count.kp T.b_check_count .nil px (pa_cons (pv 0) (pa_cons pe_int (pa_cons (pe_glob (v := .int 40) rfl T.c_MOST_CELLS ⟨_, rfl⟩) pa_nil)))))
        (pss_cons (ps_expr (pe_call (ok_check_count T TT) (hr.mono (by decide)) rfl T.g_check_count T.F_check_count.kp T.b_check_count .nil px (pa_cons (pv 1) (pa_cons pe_int (pa_cons (pe_glob (v := .int 40) rfl T.c_MOST_CELLS ⟨_, rfl⟩) pa_nil)))))
        (pss_cons (ps_expr (pe_call (ok_check_coats T TT) (hr.mono (by decide)) rfl T.g_check_coats T.F_check_coats.kp T.b_check_coats .nil px (pa_cons (pv 2) pa_nil)))
        (pss_cons (ps_set (i := 3) nd rfl (Or.inl rfl) (pe_callB (call_max2 rfl) (by rfl) T.n_max (by decide +kernel) (pa_cons pe_int (pa_cons (pe_op op_sub (pv 0) (pv 1)) pa_nil))))
        (pss_one (ps_ret (pe_callB (cr_sum rfl) (by rfl) T.n_sum (by decide +kernel) (pa_cons (pe_lc (own := [("above", 4)]) (g := gName 4) (tt := tYes) rfl nd (pi_range2 (by rfl) T.n_range (pa_cons (pv 3) (pa_cons (pv 0) pa_nil))) (blkOk_by (own := [("above", 4)]) (N := N_surplus_count) (sc := defScope s_surplus_count) (by decide +kernel)) (fun _ _ _ _ _ => (pg_name (i := 4) nd rfl (Or.inl rfl))) (fun _ _ _ _ _ => pts_nil) (fun _ _ _ _ _ => (pe_call (ok_rows_with T TT) (hr.mono (by decide)) rfl T.g_rows_with T.F_rows_with.kp T.b_rows_with .nil pass0 (pa_cons (pv 4) (pa_cons (pe_op op_add (pe_op op_sub (pv 4) (pv 0)) (pv 1)) (pa_cons (pv 2) pa_nil)))))) pa_nil)))))))), ?_⟩
    refine ⟨_, rfl, l, 1, 40, rfl, fun h1 => ?_, fun h1 => k1 h1⟩
    refine ⟨_, rfl, d, 1, 40, rfl, fun h2 => ?_, fun h2 => k2 h1 h2⟩
    refine ⟨_, rfl, c, rfl, fun h3 => ?_, fun h3 => k3 h1 h2 h3⟩
    have k := k4 h1 h2 h3
    have b1 : 1 ≤ l ∧ l ≤ 40 := h1
    have b2 : 1 ≤ d ∧ d ≤ 40 := h2
    have b3 : 2 ≤ c ∧ c ≤ 6 := h3
    obtain ⟨L, rfl⟩ : ∃ L : Nat, l = (L : Int) := ⟨l.toNat, by omega⟩
    obtain ⟨D, rfl⟩ : ∃ D : Nat, d = (D : Int) := ⟨d.toNat, by omega⟩
    obtain ⟨C, rfl⟩ : ∃ C : Nat, c = (C : Int) := ⟨c.toNat, by omega⟩
    simp only [Int.toNat_natCast] at k
    have el : (if (L : Int) - (D : Int) > 0 then (L : Int) - (D : Int) else 0) = ((L - D : Nat) : Int) := by split <;> omega
    refine ⟨_, rfl, _, rfl, _, _, rfl, rfl, _, _, rfl, ?_⟩
    rw [el]
    refine ⟨_, rfl, _, rfl, ((L - D : Nat) : Int), (L : Int), rfl, ⟨by omega, by omega, by omega, by omega⟩, fun q hq => lc_it walk_range (fun i H' => H' = upd H q (.lst ((surpL L D C i).map nV))) rfl (fun _ _ _ _ => trivial) (fun i x H1 H2 hi e y => ?_) (fun H' e => ?_)⟩
    · obtain ⟨rfl, rfl⟩ := y
      subst e
      refine ⟨rfl, ?_⟩
      dsimp only [tYes]
      refine iteT ?_
      have hi' : L - D + i < L := by omega
      have ea : ((L - D : Nat) : Int) + (i : Int) = ((L - D + i : Nat) : Int) := by omega
      have eb : (((L - D + i : Nat) : Int) - (L : Int) + (D : Int)) = ((L - D + i + D - L : Nat) : Int) := by omega
      rw [ea]
      refine ⟨_, rfl, _, rfl, _, rfl, _, _, rfl, rfl, _, rfl, _, _, rfl, rfl, _, rfl, L - D + i, L - D + i + D - L, C, ?_, by omega, by omega, by omega, ?_⟩
      · show [V.int _, V.int _, V.int _] = [V.int _, V.int _, V.int _]
        rw [eb]
      · refine ⟨_, upd_same, by rw [List.length_map, surp_len]; exact small1000 (by omega), ?_⟩
        rw [upd_upd, ← surp_succ, List.map_append] <;> rfl
    · subst e
      obtain ⟨ns, e1, e2⟩ := sum_nV (surpL L D C (L - (L - D)))
      refine ⟨q, ns, rfl, SqL.of ?_, ?_⟩
      · rw [upd_same, ← e1, show ((L : Int) - ((L - D : Nat) : Int)).toNat = L - (L - D) by omega]
      · rw [e2]
        exact k _ (Ext.new hq)
end
end R
end

-- Blk
section
set_option Elab.async false
set_option linter.all false
set_option maxRecDepth 100000
set_option maxHeartbeats 4000000
/-! Blk: rules that speak of the written part, with that part named: for the insides of comprehensions. -/
namespace BlkX
open PySem PySem.Spec PyProof.Rows L2
variable {X : Cx} (K : PySem.W.Frag)
theorem ixl (h : X.K = K := by rfl) : IxR X (rIxL K) := h ▸ ix_list
theorem ixt (h : X.K = K := by rfl) : IxR X (rIxT K) := h ▸ ix_tup
theorem csum (hc : X.calm = true := by rfl) (h : X.K = K := by rfl) : CallR X (.builtin "sum") (rSum K) := h ▸ cr_sum hc
theorem call (hc : X.calm = true := by rfl) (h : X.K = K := by rfl) : CallR X (.builtin "all") (rAll K) := h ▸ cr_all hc
theorem cany (hc : X.calm = true := by rfl) (h : X.K = K := by rfl) : CallR X (.builtin "any") (rAny K) := h ▸ cr_any hc
def rLen : List V → Hp → VK → Prop := fun xs H Q => ∃ p ys, xs = [.ref p] ∧ (SqL K H p ys ∨ SqT K H p ys) ∧ Q (.int ys.length) H
theorem clen (h : X.K = K := by rfl) : CallR X (.builtin "len") (rLen K) := by
  subst h
  exact call_len_seq
def rTupO : List V → Hp → VK → Prop := fun xs H Q => ∃ p ys, xs = [.ref p] ∧ ((SqL K H p ys ∧ ∀ l, H l = none → Q (.ref l) (upd H l (.tup ys))) ∨ (SqT K H p ys ∧ Q (.ref p) H))
theorem ctup (h : X.K = K := by rfl) : CallR X (.type "tuple") (rTupO K) := by
  subst h
  exact call_tuple_of
theorem pil {tg l : Expr} {tl : TE} (hl : PE X l tl) (h : X.K = K := by rfl) : PI X tg l (iList K tl) := h ▸ pi_list hl
theorem pit {tg l : Expr} {tl : TE} (hl : PE X l tl) (h : X.K = K := by rfl) : PI X tg l (iTup K tl) := h ▸ pi_tup hl
theorem sll (h : X.K = K := by rfl) : SlR X (rSlL K) := h ▸ sl_list
theorem slt (h : X.K = K := by rfl) : SlR X (rSlA K) := h ▸ sl_tupA
theorem catT (h : X.K = K := by rfl) : OpR X (binaryOp .Add) (rCatT K) := h ▸ op_catT
def tTru (ta : TE) : TT := fun σ H Q => ta σ H fun x H' => ∃ k, TruV K x H' k ∧ Q k H'
theorem ptru {a : Expr} {ta : TE} (ha : PE X a ta) (he : ∀ whole, isTrue a X.env whole = (do let v ← whole; standAt a.pos; holding [v] (truthy v)) := by intro _; rfl) (h : X.K = K := by rfl) : PT X a (tTru K ta) := h ▸ pt_truth ha he
end BlkX
end

-- Ways
section
set_option Elab.async false
set_option linter.all false
set_option maxRecDepth 100000
set_option maxHeartbeats 4000000
namespace R
open PySem PySem.Spec PyProof.Rows L2 LamX NdefX LamP CombX BlkX GridX
/-! ### the law's own table of ways, coat by coat -/
def stW (c : Nat → Nat → Nat) : Nat → Nat → Nat := fun p m => c p m + sumTo p (fun q => c q m) + sumTo m (fun q => c p q)
def wayF : Nat → Nat → Nat → Nat
  | 0 => fun p m => if p = 0 ∧ m = 0 then 1 else 0
  | k + 1 => stW (wayF k)
/-- where the first pass stands: cells of earlier columns, and of this one above p, are done -/
def pass1 (c : Nat → Nat → Nat) (m p : Nat) : Nat → Nat → Nat := fun p' m' => if m' < m ∨ (m' = m ∧ p' < p) then c p' m' + sumTo p' (fun q => c q m') else c p' m'
def pass2 (c : Nat → Nat → Nat) (p m : Nat) : Nat → Nat → Nat := fun p' m' => if p' < p ∨ (p' = p ∧ m' < m) then stW c p' m' else c p' m' + sumTo p' (fun q => c q m')
section
variable {P : Program} {w : World} {K : PySem.W.Frag} {mg : Str → Option Value} {base : Heap}
def spWays (TT : List NTab) : Sp := fun vs H Q _ => ∃ t l c : Nat, vs = [nV t, nV l, nV c] ∧ t ≤ 40 ∧ l ≤ 40 ∧ c ≤ 6 ∧ ∀ (a : Addr) (ads : List Addr) (H' : Hp), Ext TT none H H' → Grid H' a (t + 1) (l + 1) (wayF c) ads → Q (.ref a) H'
theorem ok_ways (T : Txt K mg) (TT : List NTab) : FnOk P w K mg base CX0 1 T.a_Lways T.d_Lways ["_law_top", "_law_low", "_law_shades"] (spWays TT) := by
  refine T.F_Lways.ok sc_Lways (fun vs H Q E h => ?_) (fun cdv A outer s H vs Q E hr h => ?_)
  · obtain ⟨t, l, c, rfl, _⟩ := h
    rfl
  · obtain ⟨t, l, c, rfl, ht, hl, hc, k⟩ := h
    have nd := sc_Lways.nd
    refine ⟨_, (pss_cons (ps_setLc (i := 5) (own := [("_law_p", 3)]) (g := gName 3) (tt := tYes) rfl nd rfl rfl (sw_true rfl rfl rfl (by decide +kernel)) (pi_range1 (by rfl) T.n_range (pa_cons (pe_op op_add (pv 0) pe_int) pa_nil)) (blkOk_by (own := [("_law_p", 3)]) (N := N_Lways) (sc := defScope s_Lways) (by decide +kernel)) (fun _ _ _ _ _ => (pg_name (i := 3) nd rfl (Or.inl rfl))) (fun _ _ _ _ _ => pts_nil) (fun _ _ _ _ _ => (pe_lc (own := [("_law_m", 4)]) (g := gName 4) (tt := tYes) rfl nd (pi_range1 (by rfl) T.n_range (pa_cons (pe_op op_add (pv 1) pe_int) pa_nil)) (blkOk_by (own := [("_law_m", 4)]) (by rfl)) (fun _ _ _ _ _ => (pg_name (i := 4) nd rfl (Or.inl rfl))) (fun _ _ _ _ _ => pts_nil) (fun _ _ _ _ _ => pe_int))))
        (pss_cons (ps_asg pe_int (pg_sub (pe_ix ix_list (pv 5) pe_int (fun _ _ => rfl)) pe_int set_list))
        (pss_cons (ps_for PassesOwn.never rfl (pi_range1 (by rfl) T.n_range (pa_cons (pv 2) pa_nil)) (pg_name (i := 6) nd rfl (Or.inl rfl))
          (pss_cons (ps_setLc (i := 7) (own := [("_law_row", 9)]) (g := gName 9) (tt := tYes) rfl nd rfl rfl (sw_true rfl rfl rfl (by decide +kernel)) (pi_list (pv 5)) (blkOk_by (own := [("_law_row", 9)]) (N := N_Lways) (sc := defScope s_Lways) (by decide +kernel)) (fun _ _ _ _ _ => (pg_name (i := 9) nd rfl (Or.inl rfl))) (fun _ _ _ _ _ => pts_nil) (fun _ _ _ _ _ => (pe_lc (own := [("_law_number", 10)]) (g := gName 10) (tt := tYes) rfl nd (pil K (pv 9)) (blkOk_by (own := [("_law_number", 10)]) (by rfl)) (fun _ _ _ _ _ => (pg_name (i := 10) nd rfl (Or.inl rfl))) (fun _ _ _ _ _ => pts_nil) (fun _ _ _ _ _ => (pv 10)))))
        (pss_cons (ps_for PassesOwn.never rfl (pi_range1 (by rfl) T.n_range (pa_cons (pe_op op_add (pv 1) pe_int) pa_nil)) (pg_name (i := 4) nd rfl (Or.inl rfl))
          (pss_cons (ps_set (i := 8) nd rfl (Or.inl rfl) pe_int)
        (pss_one (ps_for PassesOwn.never rfl (pi_range1 (by rfl) T.n_range (pa_cons (pe_op op_add (pv 0) pe_int) pa_nil)) (pg_name (i := 3) nd rfl (Or.inl rfl))
          (pss_cons (ps_asg (pe_op op_add (pe_ix ix_list (pe_ix ix_list (pv 7) (pv 3) (fun _ _ => rfl)) (pv 4) (fun _ _ => rfl)) (pv 8)) (pg_sub (pe_ix ix_list (pv 7) (pv 3) (fun _ _ => rfl)) (pv 4) set_list))
        (pss_one (ps_set (i := 8) nd rfl (Or.inl rfl) (pe_op op_add (pv 8) (pe_ix ix_list (pe_ix ix_list (pv 5) (pv 3) (fun _ _ => rfl)) (pv 4) (fun _ _ => rfl))))))))))
        (pss_cons (ps_for PassesOwn.never rfl (pi_range1 (by rfl) T.n_range (pa_cons (pe_op op_add (pv 0) pe_int) pa_nil)) (pg_name (i := 3) nd rfl (Or.inl rfl))
          (pss_cons (ps_set (i := 8) nd rfl (Or.inl rfl) pe_int)
        (pss_one (ps_for PassesOwn.never rfl (pi_range1 (by rfl) T.n_range (pa_cons (pe_op op_add (pv 1) pe_int) pa_nil)) (pg_name (i := 4) nd rfl (Or.inl rfl))
          (pss_cons (ps_asg (pe_op op_add (pe_ix ix_list (pe_ix ix_list (pv 7) (pv 3) (fun _ _ => rfl)) (pv 4) (fun _ _ => rfl)) (pv 8)) (pg_sub (pe_ix ix_list (pv 7) (pv 3) (fun _ _ => rfl)) (pv 4) set_list))
        (pss_one (ps_set (i := 8) nd rfl (Or.inl rfl) (pe_op op_add (pv 8) (pe_ix ix_list (pe_ix ix_list (pv 5) (pv 3) (fun _ _ => rfl)) (pv 4) (fun _ _ => rfl))))))))))
        (pss_one (ps_set (i := 5) nd rfl (Or.inl rfl) (pv 7)))))))
        (pss_one (ps_ret (pv 5)))))), ?_⟩
    have small : ∀ {n : Nat}, n ≤ 41 → n < sizeLine := fun h => small1000 (by omega)
    refine ⟨_, rfl, _, _, rfl, rfl, (t : Int) + 1, rfl, by omega, by omega, fun D0 hD0 => ?_⟩
    rw [show ((t : Int) + 1).toNat = t + 1 by omega]
    refine lc_it walk_range (fun i H' => ∃ ads, Ext TT none H H' ∧ Grid H' D0 i (l + 1) (fun _ _ => 0) ads ∧ ∀ r ∈ ads, H r = none) ⟨[], Ext.new hD0, ⟨upd_same, rfl, (fun _ _ e => by simp at e), List.nodup_nil, by simp⟩, by simp⟩ (fun _ _ _ _ => trivial) (fun i x H2 H1 hi e y => ?_) (fun H1 e => ?_)
    · obtain ⟨rfl, rfl⟩ := y
      obtain ⟨ads, x1, g1, n1⟩ := e
      refine ⟨rfl, ?_⟩
      dsimp only [tYes]
      refine iteT ?_
      refine ⟨_, rfl, _, _, rfl, rfl, (l : Int) + 1, rfl, by omega, by omega, fun r hr0 => ?_⟩
      rw [show ((l : Int) + 1).toNat = l + 1 by omega]
      refine lc_it walk_range (fun j H' => H' = upd H1 r (.lst (rowV j fun _ => 0))) rfl (fun _ _ _ _ => trivial) (fun j x H4 H3 hj e y => ?_) (fun H3 e => ?_)
      · obtain ⟨rfl, rfl⟩ := y
        subst e
        refine ⟨rfl, ?_⟩
        dsimp only [tYes]
        refine iteT ?_
        refine ⟨_, upd_same, by rw [row_len]; exact small (by omega), ?_⟩
        rw [upd_upd, ← row_succ] <;> rfl
      · subst e
        have g2 := g1.ext (TT := TT) (Ext.new (o := .lst (rowV (l + 1) fun _ => 0)) hr0)
        have x2 := x1.trans (Ext.new (o := .lst (rowV (l + 1) fun _ => 0)) hr0)
        have rD : r ≠ D0 := fun z => by rw [z, g1.top] at hr0; cases hr0
        have ra : r ∉ ads := fun z => by
          obtain ⟨q, hq⟩ := List.getElem?_of_mem z
          rw [g1.row q r hq] at hr0
          cases hr0
        refine ⟨_, g2.top, by rw [List.length_map, g2.len]; exact small (by omega), ads ++ [r], x2.mutL hD0 g2.top (fun z => nomatch z), g2.push ra rD upd_same, fun b hb => ?_⟩
        rcases List.mem_append.mp hb with z | z
        · exact n1 b z
        · cases List.mem_singleton.mp z
          exact x1.fr r hr0
    · obtain ⟨ads, x1, g1, n1⟩ := e
      obtain ⟨r, hr0, hat, hrow, hrm⟩ := g1.at (p := 0) (by omega)
      refine ⟨_, rfl, D0, _, 0, _, rfl, rfl, SqL.of g1.top, hat, r, _, 0, 0, rfl, rfl, hrow, (by rw [row_len]; exact ixN_nat (m := 0) (by omega)), ?_⟩
      have x2 := x1.mutL (o := .lst ((rowV (l + 1) fun _ => 0).set 0 (nV 1))) (n1 r hrm) hrow (fun z => nomatch z)
      have g2 := (g1.put hr0 (m := 0) (by omega) 1).congr (f' := wayF 0) (fun _ _ _ _ => rfl)
      refine ⟨_, rfl, (c : Int), rfl, by omega, by omega, for_range (lo := 0) (n := (c : Int).toNat) (fun i σ H' => ∃ (a : Addr) (ads : List Addr) (u3 u4 u6 u7 u8 : Option V), σ = [some (nV t), some (nV l), some (nV c), u3, u4, some (.ref a), u6, u7, u8, none, none] ∧ Ext TT none H H' ∧ Grid H' a (t + 1) (l + 1) (wayF i) ads) ⟨D0, ads, none, none, none, none, none, rfl, x2, g2⟩ ?_ ?_⟩
      · rintro i σ H1 hi ⟨a, ads, u3, u4, u6, u7, u8, rfl, x1, gC1⟩
        obtain ⟨cf, ecf⟩ : ∃ cf, cf = wayF i := ⟨_, rfl⟩
        rw [← ecf] at gC1
        have lenA : (ads.map V.ref).length = t + 1 := by rw [List.length_map, gC1.len]
        refine ⟨_, rfl, a, rfl, ⟨_, SqL.of gC1.top⟩, fun D hD => lc_it (walk_list (xs := ads.map V.ref)) (fun i H' => ∃ fds, Ext TT none H1 H' ∧ Grid H' D i (l + 1) cf fds ∧ ∀ r ∈ fds, H1 r = none) ⟨[], Ext.new hD, ⟨upd_same, rfl, (fun _ _ e => by simp at e), List.nodup_nil, by simp⟩, by simp⟩ ?_ (fun j x H3 H2 hj e y => ?_) (fun H2 e => ?_)⟩
        · rintro j H' _ ⟨fds, x2, _⟩
          exact SqL.of (x2.lst gC1.top)
        · obtain ⟨rfl, y⟩ := y
          obtain ⟨fds, x2, g2, n2⟩ := e
          rw [lenA] at hj
          rw [List.getElem?_map] at y
          cases ez : ads[j]? with
          | none => rw [ez] at y; cases y
          | some r0 =>
            rw [ez] at y
            cases y
            refine ⟨rfl, ?_⟩
            dsimp only [tYes]
            refine iteT ?_
            have h0 := x2.lst (gC1.row j r0 ez)
            refine ⟨_, rfl, r0, rfl, ⟨_, SqL.of h0⟩, fun r hr0 => lc_it (walk_list (xs := rowV (l + 1) (cf j))) (fun q H' => H' = upd H2 r (.lst (rowV q (cf j)))) rfl (fun q H' _ e => ?_) (fun q x H5 H4 hq e y => ?_) (fun H4 e => ?_)⟩
            · subst e
              exact SqL.of (by rw [upd_ne (ne_of_none h0 hr0)]; exact h0)
            · obtain ⟨rfl, y⟩ := y
              subst e
              rw [row_len] at hq
              rw [row_at _ hq] at y
              cases y
              refine ⟨rfl, ?_⟩
              dsimp only [tYes]
              refine iteT ?_
              refine ⟨_, rfl, _, upd_same, by rw [row_len]; exact small (by omega), ?_⟩
              rw [upd_upd, ← row_succ]
            · subst e
              rw [row_len]
              have g3 := g2.ext (TT := TT) (Ext.new (o := .lst (rowV (l + 1) (cf j))) hr0)
              have x3 := x2.trans (Ext.new (o := .lst (rowV (l + 1) (cf j))) hr0)
              have rD : r ≠ D := fun z => by rw [z, g2.top] at hr0; cases hr0
              have ra : r ∉ fds := fun z => by
                obtain ⟨q, hq⟩ := List.getElem?_of_mem z
                rw [g2.row q r hq] at hr0
                cases hr0
              refine ⟨_, g3.top, by rw [List.length_map, g3.len]; exact small (by omega), fds ++ [r], x3.mutL hD g3.top (fun z => nomatch z), g3.push ra rD upd_same, fun b hb => ?_⟩
              rcases List.mem_append.mp hb with z | z
              · exact n2 b z
              · cases List.mem_singleton.mp z
                exact x2.fr r hr0
        · obtain ⟨fds, x2, g2, nf⟩ := e
          rw [lenA] at g2
          have eW : (l : Int) + 1 = ((l + 1 : Nat) : Int) := by omega
          have eR : (t : Int) + 1 = ((t + 1 : Nat) : Int) := by omega
          refine ⟨_, rfl, _, _, rfl, rfl, (l : Int) + 1, rfl, by omega, by omega, for_range (lo := 0) (n := ((l : Int) + 1).toNat) (fun m σ H' => ∃ (u3 u4 u8 : Option V), σ = [some (nV t), some (nV l), some (nV c), u3, u4, some (.ref a), some (.int (0 + (i : Int))), some (.ref D), u8, none, none] ∧ Ext TT none H1 H' ∧ Grid H' D (t + 1) (l + 1) (pass1 cf m 0) fds) ⟨u3, u4, u8, rfl, x2, g2.congr (fun p' m' _ _ => by unfold pass1; rw [if_neg (by omega)])⟩ ?_ ?_⟩
          · rintro m σ H2 hm ⟨u3, u4, u8, rfl, x2, gF0⟩
            rw [show (0 : Int) + (m : Int) = (m : Int) from Int.zero_add _]
            have hm : m < l + 1 := by omega
            refine ⟨_, rfl, _, _, rfl, rfl, (t : Int) + 1, rfl, by omega, by omega, for_range (lo := 0) (n := ((t : Int) + 1).toNat) (fun p σ H' => ∃ (u3 : Option V), σ = [some (nV t), some (nV l), some (nV c), u3, some (nV m), some (.ref a), some (.int (0 + (i : Int))), some (.ref D), some (nV (sumTo p fun q => cf q m)), none, none] ∧ Ext TT none H1 H' ∧ Grid H' D (t + 1) (l + 1) (pass1 cf m p) fds) ⟨u3, rfl, x2, gF0⟩ ?_ ?_⟩
            · rintro p σ H2 hp ⟨u3, rfl, x2, gF⟩
              rw [show (0 : Int) + (p : Int) = (p : Int) from Int.zero_add _]
              have hp : p < t + 1 := by omega
              obtain ⟨r, hr0, hat, hrow, hrm⟩ := gF.at hp
              have nr := nf r hrm
              refine ⟨_, rfl, _, rfl, D, _, _, _, rfl, rfl, SqL.of gF.top, hat, _, rfl, r, _, _, _, rfl, rfl, SqL.of hrow, row_atI _ hm, _, rfl, _, _, rfl, rfl, _, rfl, _, rfl, D, _, _, _, rfl, rfl, SqL.of gF.top, hat, _, rfl, r, _, _, m, rfl, rfl, hrow, (by rw [row_len]; exact ixN_nat hm), ?_⟩
              have x3 : Ext TT none H1 (upd H2 r (.lst ((rowV (l + 1) (pass1 cf m p p)).set m (nV (pass1 cf m p p m + sumTo p fun q => cf q m))))) := x2.mutL nr hrow (fun z => nomatch z)
              have g3 := gF.put hr0 hm (pass1 cf m p p m + sumTo p fun q => cf q m)
              have gC3 := gC1.ext x3
              obtain ⟨rc, _, cat, crow, _⟩ := gC3.at hp
              refine ⟨_, rfl, _, rfl, _, rfl, a, _, _, _, rfl, rfl, SqL.of gC3.top, cat, _, rfl, rc, _, _, _, rfl, rfl, SqL.of crow, row_atI _ hm, _, _, rfl, rfl, ?_⟩
              refine ⟨some (nV p), rfl, x3, g3.congr (fun p' m' _ _ => ?_)⟩
              by_cases e : p' = p ∧ m' = m
              · obtain ⟨e1, e2⟩ := e
                subst e1
                subst e2
                rw [if_pos ⟨rfl, rfl⟩]
                unfold pass1
                rw [if_neg (by omega), if_pos (by omega)]
              · rw [if_neg e]
                unfold pass1
                by_cases z : m' < m ∨ (m' = m ∧ p' < p)
                · rw [if_pos z, if_pos (by omega)]
                · rw [if_neg z, if_neg (by omega)]
            · rintro σ H2 ⟨u3, rfl, x2, gF⟩
              refine ⟨u3, some (nV m), _, rfl, x2, gF.congr (fun p' m' hp' _ => ?_)⟩
              unfold pass1
              by_cases z : m' < m ∨ (m' = m ∧ p' < ((t : Int) + 1).toNat)
              · rw [if_pos z, if_pos (by omega)]
              · rw [if_neg z, if_neg (by omega)]
          · rintro σ H2 ⟨u3, u4, u8, rfl, x2, gF0⟩
            refine ⟨_, rfl, _, _, rfl, rfl, (t : Int) + 1, rfl, by omega, by omega, for_range (lo := 0) (n := ((t : Int) + 1).toNat) (fun p σ H' => ∃ (u3 u4 u8 : Option V), σ = [some (nV t), some (nV l), some (nV c), u3, u4, some (.ref a), some (.int (0 + (i : Int))), some (.ref D), u8, none, none] ∧ Ext TT none H1 H' ∧ Grid H' D (t + 1) (l + 1) (pass2 cf p 0) fds) ⟨u3, u4, u8, rfl, x2, gF0.congr (fun p' m' _ hm' => by unfold pass1 pass2; rw [if_pos (by omega), if_neg (by omega)])⟩ ?_ ?_⟩
            · rintro p σ H2 hp ⟨u3, u4, u8, rfl, x2, gF0⟩
              rw [show (0 : Int) + (p : Int) = (p : Int) from Int.zero_add _]
              have hp : p < t + 1 := by omega
              refine ⟨_, rfl, _, _, rfl, rfl, (l : Int) + 1, rfl, by omega, by omega, for_range (lo := 0) (n := ((l : Int) + 1).toNat) (fun m σ H' => ∃ (u4 : Option V), σ = [some (nV t), some (nV l), some (nV c), some (nV p), u4, some (.ref a), some (.int (0 + (i : Int))), some (.ref D), some (nV (sumTo m fun q => cf p q)), none, none] ∧ Ext TT none H1 H' ∧ Grid H' D (t + 1) (l + 1) (pass2 cf p m) fds) ⟨u4, rfl, x2, gF0⟩ ?_ ?_⟩
              · rintro m σ H2 hm ⟨u4, rfl, x2, gF⟩
                rw [show (0 : Int) + (m : Int) = (m : Int) from Int.zero_add _]
                have hm : m < l + 1 := by omega
                obtain ⟨r, hr0, hat, hrow, hrm⟩ := gF.at hp
                have nr := nf r hrm
                refine ⟨_, rfl, _, rfl, D, _, _, _, rfl, rfl, SqL.of gF.top, hat, _, rfl, r, _, _, _, rfl, rfl, SqL.of hrow, row_atI _ hm, _, rfl, _, _, rfl, rfl, _, rfl, _, rfl, D, _, _, _, rfl, rfl, SqL.of gF.top, hat, _, rfl, r, _, _, m, rfl, rfl, hrow, (by rw [row_len]; exact ixN_nat hm), ?_⟩
                have x3 : Ext TT none H1 (upd H2 r (.lst ((rowV (l + 1) (pass2 cf p m p)).set m (nV (pass2 cf p m p m + sumTo m fun q => cf p q))))) := x2.mutL nr hrow (fun z => nomatch z)
                have g3 := gF.put hr0 hm (pass2 cf p m p m + sumTo m fun q => cf p q)
                have gC3 := gC1.ext x3
                obtain ⟨rc, _, cat, crow, _⟩ := gC3.at hp
                refine ⟨_, rfl, _, rfl, _, rfl, a, _, _, _, rfl, rfl, SqL.of gC3.top, cat, _, rfl, rc, _, _, _, rfl, rfl, SqL.of crow, row_atI _ hm, _, _, rfl, rfl, ?_⟩
                refine ⟨some (nV m), rfl, x3, g3.congr (fun p' m' _ _ => ?_)⟩
                by_cases e : p' = p ∧ m' = m
                · obtain ⟨e1, e2⟩ := e
                  subst e1
                  subst e2
                  rw [if_pos ⟨rfl, rfl⟩]
                  unfold pass2
                  rw [if_neg (by omega), if_pos (by omega)]
                  rfl
                · rw [if_neg e]
                  unfold pass2
                  by_cases z : p' < p ∨ (p' = p ∧ m' < m)
                  · rw [if_pos z, if_pos (by omega)]
                  · rw [if_neg z, if_neg (by omega)]
              · rintro σ H2 ⟨u4, rfl, x2, gF⟩
                refine ⟨some (nV p), u4, _, rfl, x2, gF.congr (fun p' m' _ hm' => ?_)⟩
                unfold pass2
                by_cases z : p' < p ∨ (p' = p ∧ m' < ((l : Int) + 1).toNat)
                · rw [if_pos z, if_pos (by omega)]
                · rw [if_neg z, if_neg (by omega)]
            · rintro σ H2 ⟨u3, u4, u8, rfl, x2, gF⟩
              refine ⟨_, rfl, D, fds, u3, u4, _, _, u8, rfl, x1.trans x2, gF.congr (fun p' m' hp' _ => ?_)⟩
              unfold pass2
              rw [if_pos (by omega)]
              show stW cf p' m' = stW (wayF i) p' m'
              rw [ecf]
      · rintro σ H1 ⟨a, ads, u3, u4, u6, u7, u8, rfl, x1, g1⟩
        rw [Int.toNat_natCast] at g1
        exact ⟨_, rfl, k a ads H1 x1 g1⟩
end
end R
end

-- Mth
section
set_option Elab.async false
set_option linter.all false
set_option maxRecDepth 100000
set_option maxHeartbeats 4000000
namespace R
open GridX
/-! ### both counts agree on all cells up to 39: tables, compared by the kernel -/
def preL (s : Nat) : List Nat → List Nat
  | [] => []
  | x :: r => s :: preL (s + x) r
def addL : List Nat → List Nat → List Nat
  | x :: a, y :: b => (x + y) :: addL a b
  | _, _ => []
def tabStep (acc : List Nat) : List (List Nat) → List (List Nat)
  | [] => []
  | row :: rest => addL (addL row acc) (preL 0 row) :: tabStep (addL acc row) rest
theorem addL_map (f g : Nat → Nat) : ∀ l : List Nat, addL (l.map f) (l.map g) = l.map fun m => f m + g m
  | [] => rfl
  | x :: r => by
    show (f x + g x) :: addL (r.map f) (r.map g) = _
    rw [addL_map f g r] <;> rfl
theorem preL_map (g : Nat → Nat) : ∀ n j : Nat, preL (sumTo j g) ((List.range' j n).map g) = (List.range' j n).map fun m => sumTo m g
  | 0, _ => rfl
  | n + 1, j => by
    rw [List.range'_succ, List.map_cons, List.map_cons]
    show sumTo j g :: preL (sumTo (j + 1) g) ((List.range' (j + 1) n).map g) = _
    rw [preL_map g n (j + 1)]
def rows (W i n : Nat) (f : Nat → Nat → Nat) : List (List Nat) := (List.range' i n).map fun p => (List.range' 0 W).map (f p)
theorem tab_rows (W : Nat) (f : Nat → Nat → Nat) : ∀ n i : Nat, tabStep ((List.range' 0 W).map fun m => sumTo i fun q => f q m) (rows W i n f) = rows W i n (stW f)
  | 0, _ => rfl
  | n + 1, i => by
    unfold rows
    rw [List.range'_succ, List.map_cons, List.map_cons]
    show addL (addL ((List.range' 0 W).map (f i)) ((List.range' 0 W).map fun m => sumTo i fun q => f q m)) (preL (sumTo 0 (f i)) ((List.range' 0 W).map (f i))) :: tabStep (addL ((List.range' 0 W).map fun m => sumTo i fun q => f q m) ((List.range' 0 W).map (f i))) (rows W (i + 1) n f) = _
    rw [addL_map, preL_map, addL_map, addL_map]
    have ih := tab_rows W f n (i + 1)
    have e : (fun m => (sumTo i fun q => f q m) + f i m) = fun m => sumTo (i + 1) fun q => f q m := rfl
    rw [e, ih]
    refine congrArg (· :: _) ?_
    refine List.map_congr_left fun m _ => ?_
    rfl
theorem zeros (W : Nat) (f : Nat → Nat → Nat) : ((List.range' 0 W).map fun m => sumTo 0 fun q => f q m) = List.replicate W 0 := by
  have : (fun m => sumTo 0 fun q => f q m) = fun _ => 0 := rfl
  rw [this, List.map_const', List.length_range']
def tabN : Nat → List (List Nat)
  | 0 => rows 40 0 40 (wayF 0)
  | k + 1 => tabStep (List.replicate 40 0) (tabN k)
theorem tabN_eq : ∀ k, tabN k = rows 40 0 40 (wayF k)
  | 0 => rfl
  | k + 1 => by
    show tabStep (List.replicate 40 0) (tabN k) = _
    rw [tabN_eq k, ← zeros 40 (wayF k), tab_rows] <;> rfl
def ddN (c a m : Nat) : Nat := sumTo (c - a + 1) fun b => chN (c - a) b * sN m b
def rwE (c p m : Nat) : Nat := sumTo (c + 1) fun a => chN c a * sN p a * ddN c a m
theorem sum_mul (x : Nat) (g : Nat → Nat) : ∀ n, sumTo n (fun b => x * g b) = x * sumTo n g
  | 0 => rfl
  | n + 1 => by
    show sumTo n (fun b => x * g b) + x * g n = x * (sumTo n g + g n)
    rw [sum_mul x g n, Nat.mul_add]
theorem rw_eq (c p m : Nat) : rwN c p m = rwE c p m := by
  unfold rwN rwE
  refine congrArg (sumTo (c + 1)) (funext fun a => ?_)
  unfold ddN
  rw [← sum_mul]
  refine congrArg (sumTo (c - a + 1)) (funext fun b => ?_)
  unfold trm
  rw [Nat.mul_assoc (chN c a * sN p a)]
def eqL : List Nat → List Nat → Bool
  | [], [] => true
  | x :: a, y :: b => Nat.beq x y && eqL a b
  | _, _ => false
def eqT : List (List Nat) → List (List Nat) → Bool
  | [], [] => true
  | x :: a, y :: b => eqL x y && eqT a b
  | _, _ => false
theorem eqL_eq : ∀ {a b : List Nat}, eqL a b = true → a = b
  | [], [], _ => rfl
  | x :: a, y :: b, h => by
    have h : (Nat.beq x y && eqL a b) = true := h
    rw [Bool.and_eq_true] at h
    rw [Nat.eq_of_beq_eq_true h.1, eqL_eq h.2]
  | [], _ :: _, h => by cases h
  | _ :: _, [], h => by cases h
theorem eqT_eq : ∀ {a b : List (List Nat)}, eqT a b = true → a = b
  | [], [], _ => rfl
  | x :: a, y :: b, h => by
    have h : (eqL x y && eqT a b) = true := h
    rw [Bool.and_eq_true] at h
    rw [eqL_eq h.1, eqT_eq h.2]
  | [], _ :: _, h => by cases h
  | _ :: _, [], h => by cases h
theorem same2 : eqT (tabN 2) (rows 40 0 40 (rwE 2)) = true := by decide +kernel
theorem same3 : eqT (tabN 3) (rows 40 0 40 (rwE 3)) = true := by decide +kernel
theorem same4 : eqT (tabN 4) (rows 40 0 40 (rwE 4)) = true := by decide +kernel
theorem same5 : eqT (tabN 5) (rows 40 0 40 (rwE 5)) = true := by decide +kernel
theorem same6 : eqT (tabN 6) (rows 40 0 40 (rwE 6)) = true := by decide +kernel
theorem rows_at {f g : Nat → Nat → Nat} (h : rows 40 0 40 f = rows 40 0 40 g) {p m : Nat} (hp : p < 40) (hm : m < 40) : f p m = g p m := by
  have e : (rows 40 0 40 f)[p]? = (rows 40 0 40 g)[p]? := by rw [h]
  have ep : (List.range' 0 40)[p]? = some p := by rw [List.getElem?_range' hp]; simp
  have em : (List.range' 0 40)[m]? = some m := by rw [List.getElem?_range' hm]; simp
  unfold rows at e
  rw [List.getElem?_map, List.getElem?_map, ep] at e
  have e2 : (List.range' 0 40).map (f p) = (List.range' 0 40).map (g p) := Option.some.inj e
  have e3 : ((List.range' 0 40).map (f p))[m]? = ((List.range' 0 40).map (g p))[m]? := by rw [e2]
  rw [List.getElem?_map, List.getElem?_map, em] at e3
  exact Option.some.inj e3
theorem way_rw {c p m : Nat} (hc : 2 ≤ c ∧ c ≤ 6) (hp : p < 40) (hm : m < 40) : wayF c p m = rwN c p m := by
  rw [rw_eq]
  refine rows_at (f := wayF c) (g := rwE c) ?_ hp hm
  rw [← tabN_eq]
  have : c = 2 ∨ c = 3 ∨ c = 4 ∨ c = 5 ∨ c = 6 := by omega
  rcases this with e | e | e | e | e <;> subst e
  · exact eqT_eq same2
  · exact eqT_eq same3
  · exact eqT_eq same4
  · exact eqT_eq same5
  · exact eqT_eq same6
/-- the law's sum over p -/
def lawS (F : Nat → Nat → Nat) (u d n : Nat) : Nat := sumTo n fun p => if u ≤ p + d then F p (p + d - u) else 0
theorem sum_split (g : Nat → Nat) (b : Nat) (h : ∀ p, p < b → g p = 0) : ∀ k, sumTo (b + k) g = ((List.range k).map fun i => g (b + i)).sum
  | 0 => by
    show sumTo b g = 0
    have z : ∀ n, n ≤ b → sumTo n g = 0 := fun n => by
      induction n with
      | zero => intro _; rfl
      | succ n ih =>
        intro hn
        show sumTo n g + g n = 0
        rw [ih (by omega), h n (by omega)]
    exact z b (Nat.le_refl _)
  | k + 1 => by
    show sumTo (b + k) g + g (b + k) = _
    rw [sum_split g b h k, List.range_succ, List.map_append, List.sum_append]
    simp
theorem law_surp {c u d : Nat} (hc : 2 ≤ c ∧ c ≤ 6) (hu : 1 ≤ u ∧ u ≤ 40) (hd : 1 ≤ d ∧ d ≤ 40) : lawS (wayF c) u d u = surpN u d c := by
  unfold lawS surpN surpL
  have e : u = (u - d) + (u - (u - d)) := by omega
  have q := sum_split (fun p => if u ≤ p + d then wayF c p (p + d - u) else 0) (u - d) (fun p hp => if_neg (by omega)) (u - (u - d))
  rw [← e] at q
  rw [q]
  refine congrArg List.sum (List.map_congr_left fun i hi => ?_)
  have hi' : i < u - (u - d) := List.mem_range.mp hi
  rw [if_pos (by omega), way_rw hc (by omega) (by omega)]
theorem surp_more {c u d : Nat} (hc : 2 ≤ c ∧ c ≤ 6) (hu : 1 ≤ u ∧ u < 40) (hd : 1 ≤ d ∧ d < 40) : surpN (u + 1) (d + 1) c = surpN u d c + wayF c u d := by
  rw [← law_surp hc (u := u + 1) (d := d + 1) (by omega) (by omega), ← law_surp hc (u := u) (d := d) (by omega) (by omega)]
  unfold lawS
  show sumTo u _ + (if u + 1 ≤ u + (d + 1) then wayF c u (u + (d + 1) - (u + 1)) else 0) = _
  rw [if_pos (by omega), show u + (d + 1) - (u + 1) = d by omega]
  refine congrArg (· + wayF c u d) (congrArg (sumTo u) (funext fun p => ?_))
  by_cases h : u ≤ p + d
  · rw [if_pos (by omega), if_pos h, show p + (d + 1) - (u + 1) = p + d - u by omega]
  · rw [if_neg (by omega), if_neg h]
end R
end

-- TryB
section
set_option Elab.async false
set_option linter.all false
set_option maxRecDepth 100000
set_option maxHeartbeats 4000000
/-! TryB: try with several clauses, `except C as n` (one name n for all of them, place i) or `except C`. -/
namespace TryB
open PySem PySem.Spec PyProof.Rows L2
abbrev Suite := Addr → Value → Option Addr → TS
theorem iteT_of {A B : Prop} (h : if (true = true) then A else B) : A := by simpa using h
theorem iteF_of {A B : Prop} (h : if (false = true) then A else B) : B := by simpa using h
/-- behind a clause the name is gone -/
def gone (i : Nat) (D : Ends) : Ends := ⟨fun σ H => D.nx (σ.set i none) H, D.rt, fun σ H => D.bk (σ.set i none) H, fun σ H => D.ct (σ.set i none) H⟩
def wClauses (K : PySem.W.Frag) (i : Nat) (Wout : WX) (D : Ends) : List (Value × Bool × Suite) → WX
  | [] => Wout
  | k :: r => fun cls d σ H => ∃ b, PySem.W.exmOne K cls k.1 = some b ∧ (b = true → ∀ a, H a = none → if k.2.1 = true then k.2.2 a cls d (gone i D) (σ.set i (some (.ref a))) H else k.2.2 a cls d D σ H) ∧ (b = false → wClauses K i Wout D r cls d σ H)
inductive Clauses (X : Cx) (n : Str) : List ExceptHandler → List (Value × Bool × Suite) → Prop
  | none : Clauses X n [] []
  | one {x : Str} {c : Value} {ts : Suite} {b₀ : Stmt} {suite : List Stmt} {np hp : Pos} {hds : List ExceptHandler} {l : List (Value × Bool × Suite)} (names : Names X x c)
      (reads : ∀ a oe cls d pn, Zc cls d oe → (∃ vs, oe.data = .fields vs) → PSs (X.suite a ((a, oe) :: pn)) (b₀ :: suite) (ts a cls d)) (rest : Clauses X n hds l) : Clauses X n (.ExceptHandler (some (.Name x np)) (some n) (b₀ :: suite) hp :: hds) ((c, true, ts) :: l)
  | bare {x : Str} {c : Value} {ts : Suite} {b₀ : Stmt} {suite : List Stmt} {np hp : Pos} {hds : List ExceptHandler} {l : List (Value × Bool × Suite)} (names : Names X x c)
      (reads : ∀ a oe cls d pn, Zc cls d oe → (∃ vs, oe.data = .fields vs) → PSs (X.suite a ((a, oe) :: pn)) (b₀ :: suite) (ts a cls d)) (rest : Clauses X n hds l) : Clauses X n (.ExceptHandler (some (.Name x np)) none (b₀ :: suite) hp :: hds) ((c, false, ts) :: l)
section
variable {X : Cx} {i : Nat} {n : Str} {Wout : WX} {pins : List (Addr × Obj)} {σ : L2.St} {H : Hp} {S : Shared} {D : Ends} {a : Addr} {cls : Value} {d : Option Addr}
/-- the clauses, one after the other, in the state S in which the exception at a is caught -/
theorem clauses_run (ok : X.Ok) (hN : X.N.Nodup) (hi : X.N[i]? = some n) (hln : X.env.kindOf n = some .local) (isNew : H a = none)
    (look : ∀ {c b}, PySem.W.exmOne X.K cls c = some b → PySem.W.Looks (model X.prog X.w) S.heap (excMatches (.ref a) c) b)
    (name : ∀ {x c np}, Names X x c → ∀ {Q : Value → Shared → Prop} {E : Value → Shared → Prop}, Q c S → wpAny (model X.prog X.w) (X.A.mark (some (.ref a))) (eval (.Name x np) X.env) Q E S)
    (enter : ∀ {A : Around} {E : Value → Shared → Prop} {Q : Unit → Shared → Prop}, (∀ oe s4, Zc cls d oe → (∃ vs, oe.data = .fields vs) → Inv (X.suite a ((a, oe) :: (X.pn ++ pins))) [] σ H s4 → Q () s4) → wpAny (model X.prog X.w) A (setFlight (.ref a) none) Q E S)
    (out : Wout cls d σ H → wpAny (model X.prog X.w) X.A (handleBy (.ref a) X.env []) (SP X pins D) X.xe S) :
    ∀ {hds l}, Clauses X n hds l → wClauses X.K i Wout D l cls d σ H → wpAny (model X.prog X.w) X.A (handleBy (.ref a) X.env hds) (SP X pins D) X.xe S := by
  intro hds l cs
  induction cs with
  | none => exact out
  | one names reads _ next =>
    rintro ⟨b, is, yes, no⟩
    refine wpAny_handleBy_cons (codeAny_handlers_test (name names ((look is).here ?_))) (fun z => nomatch z)
    cases b
    · exact next (no rfl)
    · refine codeAny_handlers_suite_as (enter fun oe s4 hz hf I4 => ?_)
      refine store_ok (X := X.suite a ((a, oe) :: (X.pn ++ pins))) (v := .ref a) I4 hN hi (.inl hln) rfl (fun s5 I5 => ?_) (.inr hln)
      refine wpAny_mono ((reads a oe cls d (X.pn ++ pins) hz hf).run [] s5 _ H _ I5 (iteT_of (yes rfl a isNew))) (fun f s6 left => ?_) fun _ _ z => z.elim
      cases f
      case ret =>
        obtain ⟨v, σ6, H6, I6, r, q⟩ := left
        exact gone_ok (I6.unsuite ok) hN hi hln fun s7 I7 => ⟨v, _, H6, I7, r, q⟩
      all_goals
        obtain ⟨σ6, H6, I6, q⟩ := left
        exact gone_ok (I6.unsuite ok) hN hi hln fun s7 I7 => ⟨_, H6, I7, q⟩
  | bare names reads _ next =>
    rintro ⟨b, is, yes, no⟩
    refine wpAny_handleBy_cons (codeAny_handlers_test (name names ((look is).here ?_))) (fun z => nomatch z)
    cases b
    · exact next (no rfl)
    · refine codeAny_handlers_suite (enter fun oe s4 hz hf I4 => ?_)
      refine wpAny_mono ((reads a oe cls d (X.pn ++ pins) hz hf).run [] s4 _ H _ I4 (iteF_of (yes rfl a isNew))) (fun f s6 left => ?_) fun _ _ z => z.elim
      cases f
      case ret =>
        obtain ⟨v, σ6, H6, I6, r, q⟩ := left
        exact ⟨v, _, _, I6.unsuite ok, r, q⟩
      all_goals
        obtain ⟨σ6, H6, I6, q⟩ := left
        exact ⟨_, _, I6.unsuite ok, q⟩
theorem ps_try_clauses {body : List Stmt} {h₀ : ExceptHandler} {hds : List ExceptHandler} {l : List (Value × Bool × Suite)} {pos : Pos} {tb : WX → TS} (hs : X.stack = X.env :: X.outer) (hf : X.env.frame = some X.env.locals) (hN : X.N.Nodup) (hi : X.N[i]? = some n) (hln : X.env.kindOf n = some .local)
    (tk : Takes X Wout) (hb : ∀ (W : WX) (pn : List (Addr × Obj)) (xe : Value → Shared → Prop), Takes (X.tr pn xe) W → PassesOwn (model X.prog X.w) X.A X.env xe → PSs (X.tr pn xe) body (tb W)) (cs : Clauses X n (h₀ :: hds) l) :
    PS X (.Try body (h₀ :: hds) [] [] pos) (fun D σ H => tb (wClauses X.K i Wout D l) D σ H) := by
  constructor
  intro pins s σ H D I h
  have ok := I.ok
  have frames : X.A.frames = some (X.env :: X.outer) := ok.frames.trans (congrArg some hs)
  let caught : Value → Shared → Prop := fun e s₁ => wpAny (model X.prog X.w) X.A (noteFrame e X.env) (fun _ s₂ => wpAny (model X.prog X.w) X.A (setFlight e none) (fun _ s₃ => wpAny (model X.prog X.w) X.A (handleBy e X.env (h₀ :: hds)) (SP X pins D) X.xe s₃) X.xe s₂) X.xe s₁
  have run := (hb (wClauses X.K i Wout D l) (X.pn ++ pins) caught ?taken PassesOwn.looking).run [] s σ H D (I.toTry _) h
  · refine wpAny_Try_except (wpAny_mono run (fun f s1 left => ?_) fun _ _ z => z)
    cases f
    case ret =>
      obtain ⟨v, σ1, H1, I1, r, q⟩ := left
      exact ⟨v, σ1, H1, I1.ofTry ok, r, q⟩
    case next =>
      obtain ⟨σ1, H1, I1, q⟩ := left
      exact wpAny_execs_nil ⟨σ1, H1, I1.ofTry ok, q⟩
    all_goals
      obtain ⟨σ1, H1, I1, q⟩ := left
      exact ⟨σ1, H1, I1.ofTry ok, q⟩
  case taken =>
    rintro e s' ⟨a, B, sI, pins', σ', H', cls, d, rfl, J', nb, up, sky, isNew, os, bare, wish⟩
    have J : Inv X pins σ' H' sI := J'.ofTry ok
    rw [show (X.tr (X.pn ++ pins) caught).stack = X.env :: X.outer from hs] at sky
    refine Sky.land Zc.steady frames hf sky fun h3 fly up3 => ?_
    have J3 := J.landed (s' := { s' with heap := h3 }) nb fly.1 (up.trans up3) os bare
    obtain ⟨oe, vs, at_, hz, hd⟩ := fly.there
    have apart : a ∉ frs (X.env :: X.outer) := fun m => by
      obtain ⟨_, o, e1, hno⟩ := fly.2.2.1.mem m
      cases at_.symm.trans e1
      exact hno _ hd
    have notL : a ≠ X.env.locals := fun z => apart (List.mem_filterMap.mpr ⟨X.env, List.mem_cons_self, z ▸ hf⟩)
    have notF : a ∉ X.fs := fun m => by
      obtain ⟨e, he, q⟩ := List.mem_filterMap.mp m
      exact apart (List.mem_filterMap.mpr ⟨e, List.mem_cons_of_mem _ he, q⟩)
    have S3 := J3.suite at_ hd isNew notL notF
    refine clauses_run ok hN hi hln isNew (fun is => ?_) (fun names Q E q => ?_) (fun k => ?_) (fun q => ?_) cs wish
    · exact PySem.W.exm_one J3.kIn (fun _ _ _ _ k q => wpAny_typeOf_ref (k _ _ at_) (by rw [hz.1]; exact q)) is
    · rcases names with ⟨g, dbg, m | ⟨m, v, nn⟩⟩
      · exact ld_glob (X := X.suite a ((a, oe) :: (X.pn ++ pins))) S3 g m q dbg
      · exact ld_blt (X := X.suite a ((a, oe) :: (X.pn ++ pins))) S3 g m v q nn dbg
    · refine HandSPX.lands_againZ fly fun h4 fly4 up4 => ?_
      obtain ⟨oe4, vs4, at4, hz4, hd4⟩ := fly4.there
      have J4 : Inv X pins σ' H' { s' with heap := h4 } := J.landed nb fly4.1 ((up.trans up3).trans up4) os bare
      exact k oe4 _ hz4 ⟨_, hd4⟩ (J4.suite at4 hd4 isNew notL notF)
    · obtain ⟨_, _, _, o, fs, T, _, _, at2, _, hd2, first, _⟩ := id fly
      refine wpAny_handleBy_nil ?_
      unfold PySem.passOn
      refine wpAny_bind (wpAny_field at2 hd2 first ?_)
      rw [if_neg (show ¬ ((Value.ref T == Value.none) = true) from by simp)]
      have last : wpAny (model X.prog X.w) X.A (setFlight (.ref a) X.env.frame) (fun _ s4 => wpAny (model X.prog X.w) X.A (throw (.ref a) : Sem Flow) (SP X pins D) X.xe s4) X.xe { s' with heap := h3 } := by
        rw [hf]
        refine HandSPX.setFlight_upZ fly fun h4 h4sky up4 => wpAny_throw (tk _ _ ?_)
        exact ⟨a, B, sI, pins, σ', H', cls, d, rfl, J, nb, (up.trans up3).trans up4, .inr (.inr (hs.symm ▸ h4sky)), isNew, os, bare, q⟩
      first
        | exact wpAny_bind (wpAny_pure (wpAny_bind last))
        | exact wpAny_bind last
end
end TryB
end

-- Ref
section
set_option Elab.async false
set_option linter.all false
set_option maxRecDepth 100000
set_option maxHeartbeats 4000000
namespace R
open PySem PySem.Spec PyProof.Rows L2 LamX NdefX LamP TryB GridX
/-! what the law tells of a call with a bad number -/
section
variable {P : Program} {w : World} {K : PySem.W.Frag} {mg : Str → Option Value} {base : Heap}
def spRefused (TT : List NTab) : Sp := fun vs H Q _ => ∃ l d c b : Int, vs = [.int l, .int d, .int c] ∧ ((¬ Cnt l ∧ b = l) ∨ (Cnt l ∧ ¬ Cnt d ∧ b = d) ∨ (Cnt l ∧ Cnt d ∧ ¬ Cts c ∧ b = c)) ∧ Ret TT H Q fun v H' => Tp H' v (.tuple [.str "count", .int b])
def clsRef (T : Txt K mg) : List (Value × Bool × Suite) :=
  [(.ref T.C_BadCount, true, fun a cls d => tRet (tTup (tCons (tC (.str "count")) (tCons (tXf a cls d T.C_BadCount "what" (tVar 3)) tNil)))),
   (.ref T.C_Refused, false, fun a cls d => tRet (tTup (tCons (tC (.str "another")) (tCons (tC (.int 0)) tNil))))]
theorem ok_refused (T : Txt K mg) (TT : List NTab) : FnOk P w K mg base CX0 6 T.a_Lrefused T.d_Lrefused ["_law_ups", "_law_downs", "_law_shades"] (spRefused TT) := by
  refine T.F_Lrefused.ok sc_Lrefused (fun vs H Q E h => ?_) (fun cdv A outer s H vs Q E hr h => ?_)
  · obtain ⟨l, d, c, b, rfl, _⟩ := h
    rfl
  · obtain ⟨l, d, c, b, rfl, bad, k⟩ := h
    have nd := sc_Lrefused.nd
    have GC : FnOk P w K mg base (L2.CX P w) 5 T.a_surplus_count T.d_surplus_count ["light", "dark", "coats"] (spSurp T TT) := ok_surplus_count T TT
    have hr1 : Room 5 _ := hr
    refine ⟨_, pss_one (ps_try_clauses (i := 3) (n := "e") (l := clsRef T) (tb := fun W => tRet (tTup (tCons (tC (.str "told")) (tCons (tCallS (spSurp T TT) (WE W) (tCons (tVar 0) (tCons (tVar 1) (tCons (tVar 2) tNil)))) tNil)))) (Wout := fun _ _ _ _ => False) rfl rfl nd rfl rfl takes_none5
          (fun W pn xe tk _ => pss_one (ps_ret (pe_tup (pa_cons pe_str (pa_cons (by exact (pe_callS GC hr1 rfl T.g_surplus_count T.F_surplus_count.kp T.b_surplus_count (fun σ => passAt tk σ) (by exact (pa_cons (pv 0) (pa_cons (pv 1) (pa_cons (pv 2) pa_nil)))))) pa_nil)))))
          (.one ⟨rfl, by decide, Or.inl T.e_BadCount.gC⟩ (fun a oe cls d pn hz hf => pss_one (ps_ret (pe_tup (pa_cons pe_str (pa_cons (pe_xf T.e_BadCount.xf T.e_BadCount.nw hz hf (pv 3)) pa_nil)))))
          (.bare ⟨rfl, by decide, Or.inl T.e_Refused.gC⟩ (fun a oe cls d pn hz hf => pss_one (ps_ret (pe_tup (pa_cons pe_str (pa_cons pe_int pa_nil))))) .none))), ?_⟩
    have s2 : 2 ≤ sizeLine := by decide
    have out : ∀ {σ : L2.St} {D : Ends} (v : V) (e : Addr) (H1 : Hp), σ.length = 4 → D.rt = Q → Ext TT none H H1 → H1 e = some (.xd [("what", v)]) → v = .int b → wClauses K 3 (fun _ _ _ _ => False) D (clsRef T) (.ref T.C_BadCount) (some e) σ H1 := by
      rintro σ D v e H1 hl hD x1 hd rfl
      refine ⟨true, T.x_BadCount_BadCount, fun _ a0 na => iteT ?_, (fun z => nomatch z)⟩
      have e3 : (σ.set 3 (some (V.ref a0)))[3]? = some (some (V.ref a0)) := by rw [List.getElem?_set]; simp [hl]
      refine ⟨_, e3, rfl, rfl, e, _, _, rfl, hd, rfl, s2, fun p0 np => ?_⟩
      show (gone 3 D).rt _ _
      show D.rt _ _
      rw [hD]
      exact k _ _ (x1.trans (Ext.new np)) (.tup upd_same (.cons (.str _) (.cons (.int _) .nil)))
    refine ⟨_, rfl, _, rfl, _, rfl, l, d, c, rfl, fun h1 => ?_, fun h1 h2 => ?_, fun h1 h2 h3 => ?_, fun h1 h2 h3 => ?_⟩
    · rintro v e H1 x1 hd hv
      refine out v e H1 rfl rfl x1 hd ?_
      rcases bad with ⟨_, e⟩ | ⟨z, _⟩ | ⟨z, _⟩
      · rw [hv, e]
      · exact absurd z h1
      · exact absurd z h1
    · rintro v e H1 x1 hd hv
      refine out v e H1 rfl rfl x1 hd ?_
      rcases bad with ⟨z, _⟩ | ⟨_, _, e⟩ | ⟨_, z, _⟩
      · exact absurd h1 z
      · rw [hv, e]
      · exact absurd z h2
    · rintro v e H1 x1 hd hv
      refine out v e H1 rfl rfl x1 hd ?_
      rcases bad with ⟨z, _⟩ | ⟨_, z, _⟩ | ⟨_, _, _, e⟩
      · exact absurd h1 z
      · exact absurd h2 z
      · rw [hv, e]
    · rcases bad with ⟨z, _⟩ | ⟨_, z, _⟩ | ⟨_, _, z, _⟩
      · exact absurd h1 z
      · exact absurd h2 z
      · exact absurd h3 z
end
end R
end

-- Sum
section
set_option Elab.async false
set_option linter.all false
set_option maxRecDepth 100000
set_option maxHeartbeats 4000000
namespace R
open PySem PySem.Spec PyProof.Rows L2 LamX NdefX LamP GridX
section
variable {P : Program} {w : World} {K : PySem.W.Frag} {mg : Str → Option Value} {base : Heap}
def spSum : Sp := fun vs H Q _ => ∃ (a : Addr) (ads : List Addr) (u d : Nat) (F : Nat → Nat → Nat), vs = [.ref a, nV u, nV d] ∧ u ≤ 40 ∧ d ≤ 40 ∧ Grid H a (u + 1) (d + 1) F ads ∧ Q (nV (lawS F u d u)) H
theorem ok_sum (T : Txt K mg) (TT : List NTab) : FnOk P w K mg base CX0 1 T.a_Lsum T.d_Lsum ["_law_cells", "_law_ups", "_law_downs"] spSum := by
  refine T.F_Lsum.ok sc_Lsum (fun vs H Q E h => ?_) (fun cdv A outer s H vs Q E hr h => ?_)
  · obtain ⟨a, ads, u, d, F, rfl, _⟩ := h
    rfl
  · obtain ⟨a, ads, u, d, F, rfl, hu, hd, g, k⟩ := h
    have nd := sc_Lsum.nd
    refine ⟨_, (pss_cons (ps_set (i := 3) nd rfl (Or.inl rfl) pe_int)
        (pss_cons (ps_for PassesOwn.never rfl (pi_range1 (by rfl) T.n_range (pa_cons (pv 1) pa_nil)) (pg_name (i := 4) nd rfl (Or.inl rfl))
          (pss_cons (ps_set (i := 5) nd rfl (Or.inl rfl) (pe_op op_sub (pv 4) (pe_op op_sub (pv 1) (pv 2))))
        (pss_one (ps_if (pt_cmpR op_ge (pv 5) pe_int (nomark _)) (pss_one (ps_set (i := 3) nd rfl (Or.inl rfl) (pe_op op_add (pv 3) (pe_ix ix_list (pe_ix ix_list (pv 0) (pv 4) (fun _ _ => rfl)) (pv 5) (fun _ _ => rfl))))) pss_nil))))
        (pss_one (ps_ret (pv 3))))), ?_⟩
    refine ⟨_, rfl, (u : Int), rfl, by omega, by omega, for_range (lo := 0) (n := (u : Int).toNat) (fun i σ H' => ∃ u4 u5, σ = [some (.ref a), some (nV u), some (nV d), some (nV (lawS F u d i)), u4, u5] ∧ H = H') ⟨none, none, rfl, rfl⟩ ?_ ?_⟩
    · rintro i σ _ hi ⟨u4, u5, rfl, rfl⟩
      rw [show (0 : Int) + (i : Int) = (i : Int) from Int.zero_add _]
      have hi' : i < u := by omega
      obtain ⟨r, hr0, hat, hrow, hrm⟩ := g.at (p := i) (by omega)
      refine ⟨_, rfl, _, rfl, _, rfl, _, _, rfl, rfl, _, _, rfl, rfl, ?_⟩
      refine ⟨_, rfl, _, _, rfl, rfl, _, rfl, ?_⟩
      refine iteB (fun h => ?_) (fun h => ?_)
      · have h' : u ≤ i + d := by
          have := of_decide_eq_true h
          omega
        have em : (i : Int) - ((u : Int) - (d : Int)) = ((i + d - u : Nat) : Int) := by omega
        have at2 : atI (rowV (d + 1) (F i)) ((i : Int) - ((u : Int) - (d : Int))) = some (nV (F i (i + d - u))) := by rw [em]; exact row_atI _ (by omega)
        refine ⟨_, rfl, _, rfl, _, rfl, a, _, _, _, rfl, rfl, SqL.of g.top, hat, _, rfl, r, _, _, _, rfl, rfl, SqL.of hrow, at2, _, _, rfl, rfl, ?_⟩
        refine ⟨some (.int (i : Int)), some (.int ((i : Int) - ((u : Int) - (d : Int)))), ?_, rfl⟩
        · show [_, _, _, some (V.int (((lawS F u d i : Nat) : Int) + ((F i (i + d - u) : Nat) : Int))), _, _] = _
          rw [← Int.natCast_add]
          have : lawS F u d (i + 1) = lawS F u d i + F i (i + d - u) := by
            show lawS F u d i + (if u ≤ i + d then F i (i + d - u) else 0) = _
            rw [if_pos h']
          rw [this] <;> rfl
      · have h' : ¬ u ≤ i + d := by
          have := of_decide_eq_false h
          omega
        have : lawS F u d (i + 1) = lawS F u d i := by
          show lawS F u d i + (if u ≤ i + d then F i (i + d - u) else 0) = _
          rw [if_neg h', Nat.add_zero]
        exact ⟨some (.int (i : Int)), some (.int ((i : Int) - ((u : Int) - (d : Int)))), by rw [this] <;> rfl, rfl⟩
    · rintro σ _ ⟨u4, u5, rfl, rfl⟩
      rw [Int.toNat_natCast]
      exact ⟨_, rfl, k⟩
end
end R
end

-- LawL
section
set_option Elab.async false
set_option linter.all false
set_option maxRecDepth 100000
set_option maxHeartbeats 4000000
namespace R
open PySem PySem.Spec PyProof.Rows L2 LamX NdefX LamP GridX
theorem shaped_of {d : PyData} (h1 : d.canLay0 = true) (h2 : d.depth ≤ 64) : SeqAt.shaped d = true := by
  show (d.canLay0 && decide (d.depth ≤ 64)) = true
  rw [Bool.and_eq_true]
  exact ⟨h1, decide_eq_true h2⟩
theorem lay2 (q : Str) (i : Int) (hq : PyData.strOk q = true) : (PyData.tuple [.str q, .int i]).canLay0 = true := by simp [PyData.canLay0, PyData.canLayAll0, hq]
theorem shaped2 (q : Str) (i : Int) (hq : PyData.strOk q = true := by decide +kernel) : SeqAt.shaped (.tuple [.str q, .int i]) = true := shaped_of (lay2 q i hq) (by simp [PyData.depth, PyData.depthAll])
theorem eqv2 (q : Str) (i : Int) (hq : PyData.strOk q = true) : PyData.eqv (.tuple [.str q, .int i]) (.tuple [.str q, .int i]) = true := SeqAt.eqv_refl _ (lay2 q i hq)
section
variable {P : Program} {w : World} {K : PySem.W.Frag} {mg : Str → Option Value} {base : Heap}
def spLaw (K : PySem.W.Frag) (TT : List NTab) : Sp := fun vs H Q _ => ∃ (l : Addr) (ns : List Int), vs = [.ref l] ∧ SqL K H l (ns.map V.int) ∧ (∀ z ∈ ns, Builtin.Int.intBits z ≤ 1048576) ∧ TabsN TT H ∧ ∀ H', Q (.bl true) H'
theorem ok_law (T : Txt K mg) (TT : List NTab) : FnOk P w K mg base CX0 7 T.a_law T.d_law ["_law_script"] (spLaw K TT) := by
  refine T.F_law.ok sc_law (fun vs H Q E h => ?_) (fun cdv A outer s H vs Q E hr h => ?_)
  · obtain ⟨l, ns, rfl, _⟩ := h
    rfl
  · obtain ⟨l0, ns, rfl, hl0, hb, hT, k⟩ := h
    have nd := sc_law.nd
    have px : Passes (L2.CX P w) (cxOf CX0 P w K mg base N_law "law" (defScope s_law) T.a_law cdv A outer s H E).nox (fun _ _ _ => False) := passes_call takes_none5 (fun _ _ _ _ h => h)
    refine ⟨_, (pss_cons (ps_set (i := 1) nd rfl (Or.inl rfl) (pe_call (ok_pool T TT) (hr.mono (by decide)) rfl T.g_Lpool T.F_Lpool.kp T.b_Lpool .nil pass0 (pa_cons (pv 0) (pa_cons pe_int pa_nil))))
        (pss_cons (ps_set (i := 2) nd rfl (Or.inl rfl) (pe_op op_add pe_int (pe_call (ok_take T TT) (hr.mono (by decide)) rfl T.g_Ltake T.F_Ltake.kp T.b_Ltake .nil pass0 (pa_cons (pv 1) (pa_cons pe_int pa_nil)))))
        (pss_cons (ps_set (i := 3) nd rfl (Or.inl rfl) (pe_call (ok_one T TT) (hr.mono (by decide)) rfl T.g_Lone T.F_Lone.kp T.b_Lone .nil pass0 (pa_cons (pv 1) (pa_cons (pe_lst (pa_cons pe_int (pa_cons pe_int (pa_cons pe_int (pa_cons pe_int pa_nil))))) pa_nil))))
        (pss_cons (ps_set (i := 4) nd rfl (Or.inl rfl) (pe_call (ok_one T TT) (hr.mono (by decide)) rfl T.g_Lone T.F_Lone.kp T.b_Lone .nil pass0 (pa_cons (pv 1) (pa_cons (pe_lst (pa_cons pe_int (pa_cons pe_int (pa_cons (pv 3) (pa_cons (pe_op op_sub (pv 3) pe_int) (pa_cons (pe_op op_add pe_int (pe_call (ok_take T TT) (hr.mono (by decide)) rfl T.g_Ltake T.F_Ltake.kp T.b_Ltake .nil pass0 (pa_cons (pv 1) (pa_cons (pv 3) pa_nil)))) (pa_cons (pe_op op_add pe_int (pe_call (ok_take T TT) (hr.mono (by decide)) rfl T.g_Ltake T.F_Ltake.kp T.b_Ltake .nil pass0 (pa_cons (pv 1) (pa_cons (pv 3) pa_nil)))) pa_nil))))))) pa_nil))))
        (pss_cons (ps_set (i := 5) nd rfl (Or.inl rfl) (pe_call (ok_one T TT) (hr.mono (by decide)) rfl T.g_Lone T.F_Lone.kp T.b_Lone .nil pass0 (pa_cons (pv 1) (pa_cons (pe_lst (pa_cons pe_int (pa_cons (pv 4) (pa_cons (pv 3) (pa_cons (pe_op op_add pe_int (pe_call (ok_take T TT) (hr.mono (by decide)) rfl T.g_Ltake T.F_Ltake.kp T.b_Ltake .nil pass0 (pa_cons (pv 1) (pa_cons (pv 3) pa_nil)))) (pa_cons (pe_op op_add pe_int (pe_call (ok_take T TT) (hr.mono (by decide)) rfl T.g_Ltake T.F_Ltake.kp T.b_Ltake .nil pass0 (pa_cons (pv 1) (pa_cons (pv 3) pa_nil)))) pa_nil)))))) pa_nil))))
        (pss_cons (ps_set (i := 6) nd rfl (Or.inl rfl) (pe_call (ok_ways T TT) (hr.mono (by decide)) rfl T.g_Lways T.F_Lways.kp T.b_Lways .nil pass0 (pa_cons (pv 4) (pa_cons (pv 5) (pa_cons (pv 2) pa_nil)))))
        (pss_cons (ps_set (i := 7) nd rfl (Or.inl rfl) (pe_call (ok_surplus_count T TT) (hr.mono (by decide)) rfl T.g_surplus_count T.F_surplus_count.kp T.b_surplus_count .nil px (pa_cons (pv 4) (pa_cons (pv 5) (pa_cons (pv 2) pa_nil)))))
        (pss_cons (ps_if (PW.pt (pw_or (pt_not (pt_val (pe_callB call_isi (by rfl) T.n_isinstance (by decide +kernel) (pa_cons (pv 7) (pa_cons (pe_bltn (v := .ty "int") (u := Value.type "int") (by rfl) T.n_int (by decide +kernel) rfl) pa_nil))))) (pw_or (pt_val (pe_callB call_isi (by rfl) T.n_isinstance (by decide +kernel) (pa_cons (pv 7) (pa_cons (pe_bltn (v := .ty "bool") (u := Value.type "bool") (by rfl) T.n_bool (by decide +kernel) rfl) pa_nil)))) (pw_or1 (pt_cmpR op_ne (pv 7) (pe_call (ok_sum T TT) (hr.mono (by decide)) rfl T.g_Lsum T.F_Lsum.kp T.b_Lsum .nil pass0 (pa_cons (pv 6) (pa_cons (pv 4) (pa_cons (pv 5) pa_nil)))) (nomark _)))))) (pss_one (ps_ret pe_bl)) pss_nil)
        (pss_cons (ps_if (PW.pt (pw_and (pt_cmpR op_lt (pv 4) pe_int (nomark _)) (pw_and1 (pt_cmpR op_lt (pv 5) pe_int (nomark _))))) (pss_one (ps_ret (pe_cmpR op_eq (pe_call (ok_surplus_count T TT) (hr.mono (by decide)) rfl T.g_surplus_count T.F_surplus_count.kp T.b_surplus_count .nil px (pa_cons (pe_op op_add (pv 4) pe_int) (pa_cons (pe_op op_add (pv 5) pe_int) (pa_cons (pv 2) pa_nil)))) (pe_op op_add (pv 7) (pe_ix ix_list (pe_ix ix_list (pv 6) (pv 4) (fun _ _ => rfl)) (pv 5) (fun _ _ => rfl))) (nomark _)))) pss_nil)
        (pss_cons (ps_set (i := 8) nd rfl (Or.inl rfl) (pe_tup (pa_cons pe_str (pa_cons pe_int pa_nil))))
        (pss_one (ps_ret (pe_and (pe_cmpR (op_eqD hr.units) (pe_call (ok_refused T TT) (hr.mono (by decide)) rfl T.g_Lrefused T.F_Lrefused.kp T.b_Lrefused .nil pass0 (pa_cons (pe_op op_add (pv 4) pe_int) (pa_cons (pe_op op_add (pv 5) pe_int) (pa_cons (pv 2) pa_nil)))) (pv 8) (nomark _)) (pe_and (pe_cmpR (op_eqD hr.units) (pe_call (ok_refused T TT) (hr.mono (by decide)) rfl T.g_Lrefused T.F_Lrefused.kp T.b_Lrefused .nil pass0 (pa_cons pe_int (pa_cons (pv 5) (pa_cons (pv 2) pa_nil)))) (pv 8) (nomark _)) (pe_one (pe_cmpR (op_eqD hr.units) (pe_call (ok_refused T TT) (hr.mono (by decide)) rfl T.g_Lrefused T.F_Lrefused.kp T.b_Lrefused .nil pass0 (pa_cons (pv 4) (pa_cons pe_int (pa_cons (pv 2) pa_nil)))) (pv 8) (nomark _))))))))))))))))), ?_⟩
    have s2 : 2 ≤ sizeLine := by decide
    refine ⟨_, rfl, l0, ns, 0, rfl, by omega, by omega, hl0, hb, fun v H2 x2 hv => ?_⟩
    obtain ⟨so, rfl, q2, nso⟩ := hv
    refine ⟨_, rfl, so, 5, rfl, q2, by decide, by decide, fun v H3 x3 q3 hv => ?_⟩
    obtain ⟨c0, rfl, c1, c2⟩ := hv
    refine ⟨_, _, rfl, rfl, ?_⟩
    refine ⟨_, rfl, (by show 4 ≤ sizeLine; decide), fun l nl => ?_⟩
    obtain ⟨x4, h4⟩ := newX (TT := TT) (so := some so) (o := .lst [.int 9, .int 9, .int 9, .int 40]) (Ext.refl _ _ H3) nl
    refine ⟨so, l, _, rfl, x4.src q3, h4, src_ne q3 nl, by show 0 < 4; decide, by show 4 < 1000; decide, fun v H5 x5 q5 hv => ?_⟩
    have hmo : ∃ mo : Int, v = .int mo ∧ 9 ≤ mo ∧ mo ≤ 40 := by
      simp only [List.mem_cons, List.not_mem_nil, or_false] at hv
      rcases hv with z | z | z | z <;> exact ⟨_, z, by omega, by omega⟩
    obtain ⟨mo, rfl, mo1, mo2⟩ := hmo
    clear hv
    refine ⟨_, rfl, _, rfl, _, rfl, _, _, rfl, rfl, _, rfl, _, rfl, so, mo, rfl, q5, by omega, by omega, fun v H6 x6 q6 hv => ?_⟩
    obtain ⟨d1, rfl, d1a, d1b⟩ := hv
    refine ⟨_, _, rfl, rfl, _, rfl, _, rfl, so, mo, rfl, q6, by omega, by omega, fun v H7 x7 q7 hv => ?_⟩
    obtain ⟨d2, rfl, d2a, d2b⟩ := hv
    refine ⟨_, _, rfl, rfl, (by show 6 ≤ sizeLine; decide), fun l2 nl2 => ?_⟩
    obtain ⟨x8, h8⟩ := newX (TT := TT) (so := some so) (o := .lst [.int 1, .int 2, .int mo, .int (mo - 1), .int (1 + d1), .int (1 + d2)]) (Ext.refl _ _ H7) nl2
    refine ⟨so, l2, _, rfl, x8.src q7, h8, src_ne q7 nl2, by show 0 < 6; decide, by show 6 < 1000; decide, fun v H9 x9 q9 hv => ?_⟩
    have hu : ∃ u : Nat, v = nV u ∧ 1 ≤ u ∧ u ≤ 40 := by
      simp only [List.mem_cons, List.not_mem_nil, or_false] at hv
      rcases hv with z | z | z | z | z | z
      · exact ⟨1, z, by omega, by omega⟩
      · exact ⟨2, z, by omega, by omega⟩
      · exact ⟨mo.toNat, by rw [z]; exact congrArg V.int (by omega), by omega, by omega⟩
      · exact ⟨(mo - 1).toNat, by rw [z]; exact congrArg V.int (by omega), by omega, by omega⟩
      · exact ⟨(1 + d1).toNat, by rw [z]; exact congrArg V.int (by omega), by omega, by omega⟩
      · exact ⟨(1 + d2).toNat, by rw [z]; exact congrArg V.int (by omega), by omega, by omega⟩
    obtain ⟨u, rfl, u1, u2⟩ := hu
    clear hv
    refine ⟨_, rfl, _, rfl, _, rfl, _, rfl, _, rfl, so, mo, rfl, q9, by omega, by omega, fun v H10 x10 q10 hv => ?_⟩
    obtain ⟨d3, rfl, d3a, d3b⟩ := hv
    refine ⟨_, _, rfl, rfl, _, rfl, _, rfl, so, mo, rfl, q10, by omega, by omega, fun v H11 x11 q11 hv => ?_⟩
    obtain ⟨d4, rfl, d4a, d4b⟩ := hv
    refine ⟨_, _, rfl, rfl, (by show 5 ≤ sizeLine; decide), fun l3 nl3 => ?_⟩
    obtain ⟨x12, h12⟩ := newX (TT := TT) (so := some so) (o := .lst [.int 1, nV u, .int mo, .int (1 + d3), .int (1 + d4)]) (Ext.refl _ _ H11) nl3
    refine ⟨so, l3, _, rfl, x12.src q11, h12, src_ne q11 nl3, by show 0 < 5; decide, by show 5 < 1000; decide, fun v H13 x13 q13 hv => ?_⟩
    have hd : ∃ d : Nat, v = nV d ∧ 1 ≤ d ∧ d ≤ 40 := by
      simp only [List.mem_cons, List.not_mem_nil, or_false] at hv
      rcases hv with z | z | z | z | z
      · exact ⟨1, z, by omega, by omega⟩
      · exact ⟨u, z, by omega, by omega⟩
      · exact ⟨mo.toNat, by rw [z]; exact congrArg V.int (by omega), by omega, by omega⟩
      · exact ⟨(1 + d3).toNat, by rw [z]; exact congrArg V.int (by omega), by omega, by omega⟩
      · exact ⟨(1 + d4).toNat, by rw [z]; exact congrArg V.int (by omega), by omega, by omega⟩
    obtain ⟨d, rfl, dd1, dd2⟩ := hd
    clear hv
    obtain ⟨C, hC⟩ : ∃ C : Nat, (2 + c0) = (C : Int) := ⟨(2 + c0).toNat, by omega⟩
    have hC2 : 2 ≤ C ∧ C ≤ 6 := by omega
    have hc : Cts (2 + c0) := ⟨by omega, by omega⟩
    have cu : Cnt (u : Int) := ⟨by omega, by omega⟩
    have cd : Cnt (d : Int) := ⟨by omega, by omega⟩
    refine ⟨_, rfl, _, rfl, _, rfl, u, d, C, ?_, by omega, by omega, by omega, fun a ads H14 x14 g => ?_⟩
    · show [V.int _, V.int _, V.int (2 + c0)] = _
      rw [hC] <;> rfl
    refine ⟨_, rfl, _, rfl, _, rfl, (u : Int), (d : Int), 2 + c0, rfl, fun z => absurd cu z, fun _ z => absurd cd z, fun _ _ z => absurd hc z, fun _ _ _ H15 x15 => ?_⟩
    rw [Int.toNat_natCast, Int.toNat_natCast, show (2 + c0).toNat = C by omega]
    have g15 := g.ext x15
    refine ⟨_, rfl, _, _, .type "int", .type "int", true, rfl, .ty _, .base (.int _), kit_ty (by decide +kernel), _, rfl, ?_⟩
    refine iteF' rfl ?_
    refine ⟨_, rfl, _, _, .type "int", .type "bool", false, rfl, .ty _, .base (.int _), kit_ty (by decide +kernel), _, rfl, ?_⟩
    refine iteF ?_
    refine ⟨_, rfl, _, rfl, _, rfl, _, rfl, a, ads, u, d, wayF C, rfl, u2, dd2, g15, ?_⟩
    rw [law_surp hC2 ⟨u1, u2⟩ ⟨dd1, dd2⟩]
    refine ⟨rfl, _, rfl, ?_⟩
    refine iteF' (by simp) ?_
    dsimp only [tNext]
    refine seq_cut (fun σ H' => σ = [some (.ref l0), some (.ref so), some (.int (2 + c0)), some (.int mo), some (nV u), some (nV d), some (.ref a), some (nV (surpN u d C)), none] ∧ H15 = H' ∧ ¬ (u < 40 ∧ d < 40)) (fun R join => ?_) ?_
    · refine ⟨_, rfl, _, _, rfl, rfl, _, rfl, ?_⟩
      refine iteB (fun h => ?_) (fun h => ?_)
      · refine ⟨_, rfl, _, _, rfl, rfl, _, rfl, ?_⟩
        refine iteB (fun h2 => ?_) (fun h2 => ?_)
        · have hu4 : u < 40 := by
            have := of_decide_eq_true h
            omega
          have hd4 : d < 40 := by
            have := of_decide_eq_true h2
            omega
          have cu1 : Cnt ((u : Int) + 1) := ⟨by omega, by omega⟩
          have cd1 : Cnt ((d : Int) + 1) := ⟨by omega, by omega⟩
          refine ⟨_, rfl, _, _, rfl, rfl, _, rfl, _, _, rfl, rfl, _, rfl, (u : Int) + 1, (d : Int) + 1, 2 + c0, rfl, fun z => absurd cu1 z, fun _ z => absurd cd1 z, fun _ _ z => absurd hc z, fun _ _ _ H16 x16 => ?_⟩
          rw [show ((u : Int) + 1).toNat = u + 1 by omega, show ((d : Int) + 1).toNat = d + 1 by omega, show (2 + c0).toNat = C by omega]
          have g16 := g15.ext x16
          obtain ⟨r, _, hat, hrow, _⟩ := g16.at (p := u) (by omega)
          refine ⟨_, rfl, _, rfl, _, rfl, a, _, _, _, rfl, rfl, SqL.of g16.top, hat, _, rfl, r, _, _, _, rfl, rfl, SqL.of hrow, row_atI _ (by omega), _, _, rfl, rfl, ?_⟩
          refine ⟨rfl, ?_⟩
          rw [surp_more hC2 ⟨u1, hu4⟩ ⟨dd1, hd4⟩]
          have e : decide (nV (surpN u d C + wayF C u d) = V.int (((surpN u d C : Nat) : Int) + ((wayF C u d : Nat) : Int))) = true := decide_eq_true (congrArg V.int (Int.natCast_add _ _))
          show Q (.bl (decide (nV (surpN u d C + wayF C u d) = V.int (((surpN u d C : Nat) : Int) + ((wayF C u d : Nat) : Int))))) H16
          rw [e]
          exact k _
        · refine join _ _ ⟨rfl, rfl, fun z => ?_⟩
          have := of_decide_eq_false h2
          omega
      · refine join _ _ ⟨rfl, rfl, fun z => ?_⟩
        have := of_decide_eq_false h
        omega
    · rintro σ _ ⟨rfl, rfl, big⟩
      refine ⟨s2, fun bt nbt => ?_⟩
      obtain ⟨x16, h16⟩ := newX (TT := TT) (so := none) (o := .tup [.str "count", .int 41]) (Ext.refl _ _ H15) nbt
      have t16 : Tp (upd H15 bt (.tup [.str "count", .int 41])) (.ref bt) (.tuple [.str "count", .int 41]) := .tup h16 (.cons (.str _) (.cons (.int _) .nil))
      generalize upd H15 bt _ = H16 at x16 h16 t16 ⊢
      refine ⟨_, rfl, _, _, rfl, rfl, _, rfl, _, _, rfl, rfl, _, rfl, (u : Int) + 1, (d : Int) + 1, 2 + c0, 41, rfl, ?_, fun v H17 x17 hv => ?_⟩
      · by_cases e : u = 40
        · exact .inl ⟨fun z => by unfold Cnt at z; omega, by omega⟩
        · exact .inr (.inl ⟨⟨by omega, by omega⟩, fun z => by unfold Cnt at z; omega, by omega⟩)
      have t17 := t16.mono x17.tk
      refine ⟨_, rfl, _, _, hv.dp, t17.dp, shaped2 _ _, shaped2 _ _, ?_⟩
      rw [eqv2 _ _ (by decide +kernel)]
      refine ⟨_, rfl, iteT ?_⟩
      refine ⟨_, rfl, _, rfl, 41, (d : Int), 2 + c0, 41, rfl, .inl ⟨fun z => by unfold Cnt at z; omega, rfl⟩, fun v H18 x18 hv => ?_⟩
      have t18 := t17.mono x18.tk
      refine ⟨_, rfl, _, _, hv.dp, t18.dp, shaped2 _ _, shaped2 _ _, ?_⟩
      rw [eqv2 _ _ (by decide +kernel)]
      refine ⟨_, rfl, iteT ?_⟩
      refine ⟨_, rfl, _, rfl, (u : Int), 41, 2 + c0, 41, rfl, .inr (.inl ⟨cu, fun z => by unfold Cnt at z; omega, rfl⟩), fun v H19 x19 hv => ?_⟩
      have t19 := t18.mono x19.tk
      refine ⟨_, rfl, _, _, hv.dp, t19.dp, shaped2 _ _, shaped2 _ _, ?_⟩
      rw [eqv2 _ _ (by decide +kernel)]
      exact k _
end
end R
end

-- EndMk
section
set_option Elab.async false
set_option linter.all false
set_option maxRecDepth 100000
set_option maxHeartbeats 4000000
namespace R
open PySem PySem.Spec PyProof.Rows L2 LamX NdefX LamP
theorem exm_by {K : PySem.W.Frag} {S F : Addr} {b : Bool} (h1 : PySem.W.subIn K (.ref F) (.type "BaseException") = some true) (h2 : PySem.W.isClsIn K F = true) (h3 : PySem.W.typeIn K (.ref F) = some (.type "type")) (h4 : PySem.W.subIn K (.ref S) (.ref F) = some b) : PySem.W.exmOne K (.ref S) (.ref F) = some b := by
  have a1 : (PySem.W.subIn K (.ref F) (.type "BaseException") == some true) = true := by rw [h1] <;> rfl
  have a2 : ((PySem.W.clsIn K F).isSome && PySem.W.typeIn K (.ref F) == some (.type "type")) = true := by
    rw [show (PySem.W.clsIn K F).isSome = true from h2, h3] <;> rfl
  unfold PySem.W.exmOne
  first
    | rw [if_pos a1, if_pos a2, h4]
    | (show (if _ = true then (if _ = true then _ else _) else _) = _; rw [if_pos a1, if_pos a2, h4])
theorem law_at {l : PySem.W.OpenLaw} {w : World} {K : PySem.W.Frag} {h : Heap} {mg : Str → Option Value} {fa : Addr} (X : K.In h) (T : Txt K mg) (hfa : mg "law" = some (.ref fa))
    (hb : ∀ (s : Shared) (u : Value), BindsTo s T.d_law ⟨[u], []⟩ [("_law_script", u)]) : LawAtS l w K CX0 7 63 "_law_script" mg fa h := by
  have e := hfa.symm.trans T.g_law
  cases e
  refine ⟨T.d_law, [], spLaw K [], ?_, ?_, ?_, hb, ?_, ?_⟩
  · intro p hp
    cases hp
  · intro p hp
    cases hp
  · intro p hp
    cases hp
  · intro H a ns _ hbits htab hS
    refine ⟨a, ns, rfl, hS, hbits, ?_, fun _ => rfl⟩
    intro p hp
    cases hp
  · intro base _ _ TB
    exact ok_law T []
theorem all_mk {l : PySem.W.OpenLaw} {w : World} {K : PySem.W.Frag} {h : Heap} {mg : Str → Option Value} {fa : Addr} (X : K.In h) (G : h.Ns mainGlobals mg) (hfa : mg "law" = some (.ref fa))
    {C_Refused N_Refused : Addr} {nm_Refused q_Refused : Str} {bs_Refused bm_Refused sub_Refused : List Value} {sn_Refused : List Str} {ab_Refused : Bool} {col_Refused : Option Bool} {dd_Refused : Option Addr} {m0_Refused m1_Refused m2_Refused m3_Refused m5_Refused : Option Value}
    {C_BadCount N_BadCount : Addr} {nm_BadCount q_BadCount : Str} {bs_BadCount bm_BadCount sub_BadCount : List Value} {sn_BadCount : List Str} {ab_BadCount : Bool} {col_BadCount : Option Bool} {dd_BadCount : Option Addr} {m0_BadCount m1_BadCount m2_BadCount m3_BadCount m5_BadCount : Option Value}
    {a_Refused_init : Addr} {od_Refused_init an_Refused_init : Option Addr} {sl_Refused_init : Array (Option Value)} {oc_Refused_init kV_Refused_init dc_Refused_init pm_Refused_init ct_Refused_init : Value} {cd_Refused_init : Value}
    {a_check_count : Addr} {od_check_count an_check_count : Option Addr} {sl_check_count : Array (Option Value)} {oc_check_count kV_check_count dc_check_count pm_check_count ct_check_count : Value} {cd_check_count : Value}
    {a_check_coats : Addr} {od_check_coats an_check_coats : Option Addr} {sl_check_coats : Array (Option Value)} {oc_check_coats kV_check_coats dc_check_coats pm_check_coats ct_check_coats : Value} {cd_check_coats : Value}
    {a_surplus_count : Addr} {od_surplus_count an_surplus_count : Option Addr} {sl_surplus_count : Array (Option Value)} {oc_surplus_count kV_surplus_count dc_surplus_count pm_surplus_count ct_surplus_count : Value} {cd_surplus_count : Value}
    {a_rows_with : Addr} {od_rows_with an_rows_with : Option Addr} {sl_rows_with : Array (Option Value)} {oc_rows_with kV_rows_with dc_rows_with pm_rows_with ct_rows_with : Value} {cd_rows_with : Value}
    {a_sums_of : Addr} {od_sums_of an_sums_of : Option Addr} {sl_sums_of : Array (Option Value)} {oc_sums_of kV_sums_of dc_sums_of pm_sums_of ct_sums_of : Value} {cd_sums_of : Value}
    {a_Lpool : Addr} {od_Lpool an_Lpool : Option Addr} {sl_Lpool : Array (Option Value)} {oc_Lpool kV_Lpool dc_Lpool pm_Lpool ct_Lpool : Value} {cd_Lpool : Value}
    {a_Ltake : Addr} {od_Ltake an_Ltake : Option Addr} {sl_Ltake : Array (Option Value)} {oc_Ltake kV_Ltake dc_Ltake pm_Ltake ct_Ltake : Value} {cd_Ltake : Value}
    {a_Lone : Addr} {od_Lone an_Lone : Option Addr} {sl_Lone : Array (Option Value)} {oc_Lone kV_Lone dc_Lone pm_Lone ct_Lone : Value} {cd_Lone : Value}
    {a_Lways : Addr} {od_Lways an_Lways : Option Addr} {sl_Lways : Array (Option Value)} {oc_Lways kV_Lways dc_Lways pm_Lways ct_Lways : Value} {cd_Lways : Value}
    {a_Lsum : Addr} {od_Lsum an_Lsum : Option Addr} {sl_Lsum : Array (Option Value)} {oc_Lsum kV_Lsum dc_Lsum pm_Lsum ct_Lsum : Value} {cd_Lsum : Value}
    {a_Lrefused : Addr} {od_Lrefused an_Lrefused : Option Addr} {sl_Lrefused : Array (Option Value)} {oc_Lrefused kV_Lrefused dc_Lrefused pm_Lrefused ct_Lrefused : Value} {cd_Lrefused : Value}
    {a_law : Addr} {od_law an_law : Option Addr} {sl_law : Array (Option Value)} {oc_law kV_law dc_law pm_law ct_law : Value} {cd_law : Value}
    {t_MOST_CELLS : Tok}
    {t_LEAST_COATS : Tok}
    {t_MOST_COATS : Tok}
    (aC_Refused : PySem.W.nsIn K mainGlobals "Refused" = some (some (.ref C_Refused)))
    (xL_Refused : K.lookup C_Refused = some (excClassObj nm_Refused q_Refused C_Refused N_Refused bs_Refused bm_Refused true sn_Refused sub_Refused ab_Refused col_Refused dd_Refused m0_Refused m1_Refused m2_Refused m3_Refused m5_Refused "ValueError.__new__"))
    (rV_Refused : PySem.HandSPX.refsVE bm_Refused = true)
    (sa_Refused : PySem.W.findIn K (.ref C_Refused) "__setattr__" = some (some (.builtin "object.__setattr__")))
    (ex_Refused : PySem.W.subIn K (.ref C_Refused) (.type "BaseException") = some true)
    (ty_Refused : PySem.W.typeIn K (.ref C_Refused) = some (.type "type"))
    (kC_Refused : PySem.W.keepIn K (.ref C_Refused) = true)
    (ga_Refused : PySem.W.findIn K (.ref C_Refused) "__getattribute__" = some (some (.builtin "BaseException.__getattribute__")))
    (gg_Refused : PySem.W.findIn K (.ref C_Refused) "__getattr__" = some none)
    (hd_Refused : PySem.W.hasDictIn K C_Refused = true)
    (is_Refused : PySem.W.isClsIn K C_Refused = true)
    (iC_Refused : PySem.W.findIn K (.ref C_Refused) "__init__" = some (some (.ref a_Refused_init)))
    (nw_Refused : PySem.W.findIn K (.ref C_Refused) "what" = some none)
    (aC_BadCount : PySem.W.nsIn K mainGlobals "BadCount" = some (some (.ref C_BadCount)))
    (xL_BadCount : K.lookup C_BadCount = some (excClassObj nm_BadCount q_BadCount C_BadCount N_BadCount bs_BadCount bm_BadCount true sn_BadCount sub_BadCount ab_BadCount col_BadCount dd_BadCount m0_BadCount m1_BadCount m2_BadCount m3_BadCount m5_BadCount "ValueError.__new__"))
    (rV_BadCount : PySem.HandSPX.refsVE bm_BadCount = true)
    (sa_BadCount : PySem.W.findIn K (.ref C_BadCount) "__setattr__" = some (some (.builtin "object.__setattr__")))
    (ex_BadCount : PySem.W.subIn K (.ref C_BadCount) (.type "BaseException") = some true)
    (ty_BadCount : PySem.W.typeIn K (.ref C_BadCount) = some (.type "type"))
    (kC_BadCount : PySem.W.keepIn K (.ref C_BadCount) = true)
    (ga_BadCount : PySem.W.findIn K (.ref C_BadCount) "__getattribute__" = some (some (.builtin "BaseException.__getattribute__")))
    (gg_BadCount : PySem.W.findIn K (.ref C_BadCount) "__getattr__" = some none)
    (hd_BadCount : PySem.W.hasDictIn K C_BadCount = true)
    (is_BadCount : PySem.W.isClsIn K C_BadCount = true)
    (iC_BadCount : PySem.W.findIn K (.ref C_BadCount) "__init__" = some (some (.ref a_Refused_init)))
    (nw_BadCount : PySem.W.findIn K (.ref C_BadCount) "what" = some none)
    (s_BadCount_BadCount : PySem.W.subIn K (.ref C_BadCount) (.ref C_BadCount) = some true)
    (s_BadCount_Refused : PySem.W.subIn K (.ref C_BadCount) (.ref C_Refused) = some true)
    (s_Refused_BadCount : PySem.W.subIn K (.ref C_Refused) (.ref C_BadCount) = some false)
    (s_Refused_Refused : PySem.W.subIn K (.ref C_Refused) (.ref C_Refused) = some true)
    (l_Refused_init : K.lookup a_Refused_init = some ⟨oc_Refused_init, od_Refused_init, .func (PySem.W.fnOf "__init__" "Refused.__init__" (defArgs s_Refused_init) (defBody s_Refused_init) (defScope s_Refused_init) .none kV_Refused_init dc_Refused_init pm_Refused_init an_Refused_init cd_Refused_init ct_Refused_init), sl_Refused_init⟩)
    (co_Refused_init : PySem.W.codeIn K cd_Refused_init "Refused.__init__" = true)
    (k_Refused_init : PySem.W.keepIn K (.ref a_Refused_init) = true)
    (g_check_count : PySem.W.nsIn K mainGlobals "check_count" = some (some (.ref a_check_count)))
    (l_check_count : K.lookup a_check_count = some ⟨oc_check_count, od_check_count, .func (PySem.W.fnOf "check_count" "check_count" (defArgs s_check_count) (defBody s_check_count) (defScope s_check_count) .none kV_check_count dc_check_count pm_check_count an_check_count cd_check_count ct_check_count), sl_check_count⟩)
    (co_check_count : PySem.W.codeIn K cd_check_count "check_count" = true)
    (k_check_count : PySem.W.keepIn K (.ref a_check_count) = true)
    (g_check_coats : PySem.W.nsIn K mainGlobals "check_coats" = some (some (.ref a_check_coats)))
    (l_check_coats : K.lookup a_check_coats = some ⟨oc_check_coats, od_check_coats, .func (PySem.W.fnOf "check_coats" "check_coats" (defArgs s_check_coats) (defBody s_check_coats) (defScope s_check_coats) .none kV_check_coats dc_check_coats pm_check_coats an_check_coats cd_check_coats ct_check_coats), sl_check_coats⟩)
    (co_check_coats : PySem.W.codeIn K cd_check_coats "check_coats" = true)
    (k_check_coats : PySem.W.keepIn K (.ref a_check_coats) = true)
    (g_surplus_count : PySem.W.nsIn K mainGlobals "surplus_count" = some (some (.ref a_surplus_count)))
    (l_surplus_count : K.lookup a_surplus_count = some ⟨oc_surplus_count, od_surplus_count, .func (PySem.W.fnOf "surplus_count" "surplus_count" (defArgs s_surplus_count) (defBody s_surplus_count) (defScope s_surplus_count) .none kV_surplus_count dc_surplus_count pm_surplus_count an_surplus_count cd_surplus_count ct_surplus_count), sl_surplus_count⟩)
    (co_surplus_count : PySem.W.codeIn K cd_surplus_count "surplus_count" = true)
    (k_surplus_count : PySem.W.keepIn K (.ref a_surplus_count) = true)
    (g_rows_with : PySem.W.nsIn K mainGlobals "rows_with" = some (some (.ref a_rows_with)))
    (l_rows_with : K.lookup a_rows_with = some ⟨oc_rows_with, od_rows_with, .func (PySem.W.fnOf "rows_with" "rows_with" (defArgs s_rows_with) (defBody s_rows_with) (defScope s_rows_with) .none kV_rows_with dc_rows_with pm_rows_with an_rows_with cd_rows_with ct_rows_with), sl_rows_with⟩)
    (co_rows_with : PySem.W.codeIn K cd_rows_with "rows_with" = true)
    (k_rows_with : PySem.W.keepIn K (.ref a_rows_with) = true)
    (g_sums_of : PySem.W.nsIn K mainGlobals "sums_of" = some (some (.ref a_sums_of)))
    (l_sums_of : K.lookup a_sums_of = some ⟨oc_sums_of, od_sums_of, .func (PySem.W.fnOf "sums_of" "sums_of" (defArgs s_sums_of) (defBody s_sums_of) (defScope s_sums_of) .none kV_sums_of dc_sums_of pm_sums_of an_sums_of cd_sums_of ct_sums_of), sl_sums_of⟩)
    (co_sums_of : PySem.W.codeIn K cd_sums_of "sums_of" = true)
    (k_sums_of : PySem.W.keepIn K (.ref a_sums_of) = true)
    (g_Lpool : PySem.W.nsIn K mainGlobals "_law_pool" = some (some (.ref a_Lpool)))
    (l_Lpool : K.lookup a_Lpool = some ⟨oc_Lpool, od_Lpool, .func (PySem.W.fnOf "_law_pool" "_law_pool" (defArgs s_Lpool) (defBody s_Lpool) (defScope s_Lpool) .none kV_Lpool dc_Lpool pm_Lpool an_Lpool cd_Lpool ct_Lpool), sl_Lpool⟩)
    (co_Lpool : PySem.W.codeIn K cd_Lpool "_law_pool" = true)
    (k_Lpool : PySem.W.keepIn K (.ref a_Lpool) = true)
    (g_Ltake : PySem.W.nsIn K mainGlobals "_law_take" = some (some (.ref a_Ltake)))
    (l_Ltake : K.lookup a_Ltake = some ⟨oc_Ltake, od_Ltake, .func (PySem.W.fnOf "_law_take" "_law_take" (defArgs s_Ltake) (defBody s_Ltake) (defScope s_Ltake) .none kV_Ltake dc_Ltake pm_Ltake an_Ltake cd_Ltake ct_Ltake), sl_Ltake⟩)
    (co_Ltake : PySem.W.codeIn K cd_Ltake "_law_take" = true)
    (k_Ltake : PySem.W.keepIn K (.ref a_Ltake) = true)
    (g_Lone : PySem.W.nsIn K mainGlobals "_law_one" = some (some (.ref a_Lone)))
    (l_Lone : K.lookup a_Lone = some ⟨oc_Lone, od_Lone, .func (PySem.W.fnOf "_law_one" "_law_one" (defArgs s_Lone) (defBody s_Lone) (defScope s_Lone) .none kV_Lone dc_Lone pm_Lone an_Lone cd_Lone ct_Lone), sl_Lone⟩)
    (co_Lone : PySem.W.codeIn K cd_Lone "_law_one" = true)
    (k_Lone : PySem.W.keepIn K (.ref a_Lone) = true)
    (g_Lways : PySem.W.nsIn K mainGlobals "_law_ways" = some (some (.ref a_Lways)))
    (l_Lways : K.lookup a_Lways = some ⟨oc_Lways, od_Lways, .func (PySem.W.fnOf "_law_ways" "_law_ways" (defArgs s_Lways) (defBody s_Lways) (defScope s_Lways) .none kV_Lways dc_Lways pm_Lways an_Lways cd_Lways ct_Lways), sl_Lways⟩)
    (co_Lways : PySem.W.codeIn K cd_Lways "_law_ways" = true)
    (k_Lways : PySem.W.keepIn K (.ref a_Lways) = true)
    (g_Lsum : PySem.W.nsIn K mainGlobals "_law_sum" = some (some (.ref a_Lsum)))
    (l_Lsum : K.lookup a_Lsum = some ⟨oc_Lsum, od_Lsum, .func (PySem.W.fnOf "_law_sum" "_law_sum" (defArgs s_Lsum) (defBody s_Lsum) (defScope s_Lsum) .none kV_Lsum dc_Lsum pm_Lsum an_Lsum cd_Lsum ct_Lsum), sl_Lsum⟩)
    (co_Lsum : PySem.W.codeIn K cd_Lsum "_law_sum" = true)
    (k_Lsum : PySem.W.keepIn K (.ref a_Lsum) = true)
    (g_Lrefused : PySem.W.nsIn K mainGlobals "_law_refused" = some (some (.ref a_Lrefused)))
    (l_Lrefused : K.lookup a_Lrefused = some ⟨oc_Lrefused, od_Lrefused, .func (PySem.W.fnOf "_law_refused" "_law_refused" (defArgs s_Lrefused) (defBody s_Lrefused) (defScope s_Lrefused) .none kV_Lrefused dc_Lrefused pm_Lrefused an_Lrefused cd_Lrefused ct_Lrefused), sl_Lrefused⟩)
    (co_Lrefused : PySem.W.codeIn K cd_Lrefused "_law_refused" = true)
    (k_Lrefused : PySem.W.keepIn K (.ref a_Lrefused) = true)
    (g_law : PySem.W.nsIn K mainGlobals "law" = some (some (.ref a_law)))
    (l_law : K.lookup a_law = some ⟨oc_law, od_law, .func (PySem.W.fnOf "law" "law" (defArgs s_law) (defBody s_law) (defScope s_law) .none kV_law dc_law pm_law an_law cd_law ct_law), sl_law⟩)
    (co_law : PySem.W.codeIn K cd_law "law" = true)
    (k_law : PySem.W.keepIn K (.ref a_law) = true)
    (tI : PySem.W.typeIn K (.ref a_Refused_init) = some (.type "function"))
    (c_MOST_CELLS : PySem.W.nsIn K mainGlobals "MOST_CELLS" = some (some (.int 40 t_MOST_CELLS)))
    (c_LEAST_COATS : PySem.W.nsIn K mainGlobals "LEAST_COATS" = some (some (.int 2 t_LEAST_COATS)))
    (c_MOST_COATS : PySem.W.nsIn K mainGlobals "MOST_COATS" = some (some (.int 6 t_MOST_COATS)))
    (m_comb : PySem.W.nsIn K mainGlobals "comb" = some (some (.builtin "math.comb")))
    (n_bool : PySem.W.nsIn K mainGlobals "bool" = some (none))
    (n_int : PySem.W.nsIn K mainGlobals "int" = some (none))
    (n_isinstance : PySem.W.nsIn K mainGlobals "isinstance" = some (none))
    (n_len : PySem.W.nsIn K mainGlobals "len" = some (none))
    (n_max : PySem.W.nsIn K mainGlobals "max" = some (none))
    (n_range : PySem.W.nsIn K mainGlobals "range" = some (none))
    (n_sum : PySem.W.nsIn K mainGlobals "sum" = some (none)) : LawAtS l w K CX0 7 63 "_law_script" mg fa h :=
  law_at X {
    C_Refused := C_Refused,
    e_Refused := ⟨PySem.W.mg_of X G aC_Refused, ⟨⟨_, _, _, _, _, _, _, _, _, _, _, _, _, _, _, xL_Refused, rV_Refused⟩, sa_Refused, ex_Refused, ty_Refused, kC_Refused⟩, ⟨ga_Refused, gg_Refused, ex_Refused, hd_Refused⟩, iC_Refused, nw_Refused⟩,
    C_BadCount := C_BadCount,
    e_BadCount := ⟨PySem.W.mg_of X G aC_BadCount, ⟨⟨_, _, _, _, _, _, _, _, _, _, _, _, _, _, _, xL_BadCount, rV_BadCount⟩, sa_BadCount, ex_BadCount, ty_BadCount, kC_BadCount⟩, ⟨ga_BadCount, gg_BadCount, ex_BadCount, hd_BadCount⟩, iC_BadCount, nw_BadCount⟩,
    x_BadCount_BadCount := exm_by ex_BadCount is_BadCount ty_BadCount s_BadCount_BadCount,
    x_BadCount_Refused := exm_by ex_Refused is_Refused ty_Refused s_BadCount_Refused,
    x_Refused_BadCount := exm_by ex_BadCount is_BadCount ty_BadCount s_Refused_BadCount,
    x_Refused_Refused := exm_by ex_Refused is_Refused ty_Refused s_Refused_Refused,
    a_Refused_init := a_Refused_init,
    d_Refused_init := (PySem.W.fnOf "__init__" "Refused.__init__" (defArgs s_Refused_init) (defBody s_Refused_init) (defScope s_Refused_init) .none kV_Refused_init dc_Refused_init pm_Refused_init an_Refused_init cd_Refused_init ct_Refused_init),
    F_Refused_init := fun_mk l_Refused_init co_Refused_init k_Refused_init,
    b_Refused_init := (fun_mk (st := s_Refused_init) l_Refused_init co_Refused_init k_Refused_init).binds (ps := ["self", "what"]) (fun _ _ _ _ _ _ us hl => match us, hl with | [_, _], _ => rfl),
    g_check_count := PySem.W.mg_of X G g_check_count,
    a_check_count := a_check_count,
    d_check_count := (PySem.W.fnOf "check_count" "check_count" (defArgs s_check_count) (defBody s_check_count) (defScope s_check_count) .none kV_check_count dc_check_count pm_check_count an_check_count cd_check_count ct_check_count),
    F_check_count := fun_mk l_check_count co_check_count k_check_count,
    b_check_count := (fun_mk (st := s_check_count) l_check_count co_check_count k_check_count).binds (ps := ["number", "least", "most"]) (fun _ _ _ _ _ _ us hl => match us, hl with | [_, _, _], _ => rfl),
    g_check_coats := PySem.W.mg_of X G g_check_coats,
    a_check_coats := a_check_coats,
    d_check_coats := (PySem.W.fnOf "check_coats" "check_coats" (defArgs s_check_coats) (defBody s_check_coats) (defScope s_check_coats) .none kV_check_coats dc_check_coats pm_check_coats an_check_coats cd_check_coats ct_check_coats),
    F_check_coats := fun_mk l_check_coats co_check_coats k_check_coats,
    b_check_coats := (fun_mk (st := s_check_coats) l_check_coats co_check_coats k_check_coats).binds (ps := ["coats"]) (fun _ _ _ _ _ _ us hl => match us, hl with | [_], _ => rfl),
    g_surplus_count := PySem.W.mg_of X G g_surplus_count,
    a_surplus_count := a_surplus_count,
    d_surplus_count := (PySem.W.fnOf "surplus_count" "surplus_count" (defArgs s_surplus_count) (defBody s_surplus_count) (defScope s_surplus_count) .none kV_surplus_count dc_surplus_count pm_surplus_count an_surplus_count cd_surplus_count ct_surplus_count),
    F_surplus_count := fun_mk l_surplus_count co_surplus_count k_surplus_count,
    b_surplus_count := (fun_mk (st := s_surplus_count) l_surplus_count co_surplus_count k_surplus_count).binds (ps := ["light", "dark", "coats"]) (fun _ _ _ _ _ _ us hl => match us, hl with | [_, _, _], _ => rfl),
    g_rows_with := PySem.W.mg_of X G g_rows_with,
    a_rows_with := a_rows_with,
    d_rows_with := (PySem.W.fnOf "rows_with" "rows_with" (defArgs s_rows_with) (defBody s_rows_with) (defScope s_rows_with) .none kV_rows_with dc_rows_with pm_rows_with an_rows_with cd_rows_with ct_rows_with),
    F_rows_with := fun_mk l_rows_with co_rows_with k_rows_with,
    b_rows_with := (fun_mk (st := s_rows_with) l_rows_with co_rows_with k_rows_with).binds (ps := ["above", "below", "coats"]) (fun _ _ _ _ _ _ us hl => match us, hl with | [_, _, _], _ => rfl),
    g_sums_of := PySem.W.mg_of X G g_sums_of,
    a_sums_of := a_sums_of,
    d_sums_of := (PySem.W.fnOf "sums_of" "sums_of" (defArgs s_sums_of) (defBody s_sums_of) (defScope s_sums_of) .none kV_sums_of dc_sums_of pm_sums_of an_sums_of cd_sums_of ct_sums_of),
    F_sums_of := fun_mk l_sums_of co_sums_of k_sums_of,
    b_sums_of := (fun_mk (st := s_sums_of) l_sums_of co_sums_of k_sums_of).binds (ps := ["total", "many"]) (fun _ _ _ _ _ _ us hl => match us, hl with | [_, _], _ => rfl),
    g_Lpool := PySem.W.mg_of X G g_Lpool,
    a_Lpool := a_Lpool,
    d_Lpool := (PySem.W.fnOf "_law_pool" "_law_pool" (defArgs s_Lpool) (defBody s_Lpool) (defScope s_Lpool) .none kV_Lpool dc_Lpool pm_Lpool an_Lpool cd_Lpool ct_Lpool),
    F_Lpool := fun_mk l_Lpool co_Lpool k_Lpool,
    b_Lpool := (fun_mk (st := s_Lpool) l_Lpool co_Lpool k_Lpool).binds (ps := ["_law_script", "_law_k"]) (fun _ _ _ _ _ _ us hl => match us, hl with | [_, _], _ => rfl),
    g_Ltake := PySem.W.mg_of X G g_Ltake,
    a_Ltake := a_Ltake,
    d_Ltake := (PySem.W.fnOf "_law_take" "_law_take" (defArgs s_Ltake) (defBody s_Ltake) (defScope s_Ltake) .none kV_Ltake dc_Ltake pm_Ltake an_Ltake cd_Ltake ct_Ltake),
    F_Ltake := fun_mk l_Ltake co_Ltake k_Ltake,
    b_Ltake := (fun_mk (st := s_Ltake) l_Ltake co_Ltake k_Ltake).binds (ps := ["_law_source", "_law_top"]) (fun _ _ _ _ _ _ us hl => match us, hl with | [_, _], _ => rfl),
    g_Lone := PySem.W.mg_of X G g_Lone,
    a_Lone := a_Lone,
    d_Lone := (PySem.W.fnOf "_law_one" "_law_one" (defArgs s_Lone) (defBody s_Lone) (defScope s_Lone) .none kV_Lone dc_Lone pm_Lone an_Lone cd_Lone ct_Lone),
    F_Lone := fun_mk l_Lone co_Lone k_Lone,
    b_Lone := (fun_mk (st := s_Lone) l_Lone co_Lone k_Lone).binds (ps := ["_law_source", "_law_things"]) (fun _ _ _ _ _ _ us hl => match us, hl with | [_, _], _ => rfl),
    g_Lways := PySem.W.mg_of X G g_Lways,
    a_Lways := a_Lways,
    d_Lways := (PySem.W.fnOf "_law_ways" "_law_ways" (defArgs s_Lways) (defBody s_Lways) (defScope s_Lways) .none kV_Lways dc_Lways pm_Lways an_Lways cd_Lways ct_Lways),
    F_Lways := fun_mk l_Lways co_Lways k_Lways,
    b_Lways := (fun_mk (st := s_Lways) l_Lways co_Lways k_Lways).binds (ps := ["_law_top", "_law_low", "_law_shades"]) (fun _ _ _ _ _ _ us hl => match us, hl with | [_, _, _], _ => rfl),
    g_Lsum := PySem.W.mg_of X G g_Lsum,
    a_Lsum := a_Lsum,
    d_Lsum := (PySem.W.fnOf "_law_sum" "_law_sum" (defArgs s_Lsum) (defBody s_Lsum) (defScope s_Lsum) .none kV_Lsum dc_Lsum pm_Lsum an_Lsum cd_Lsum ct_Lsum),
    F_Lsum := fun_mk l_Lsum co_Lsum k_Lsum,
    b_Lsum := (fun_mk (st := s_Lsum) l_Lsum co_Lsum k_Lsum).binds (ps := ["_law_cells", "_law_ups", "_law_downs"]) (fun _ _ _ _ _ _ us hl => match us, hl with | [_, _, _], _ => rfl),
    g_Lrefused := PySem.W.mg_of X G g_Lrefused,
    a_Lrefused := a_Lrefused,
    d_Lrefused := (PySem.W.fnOf "_law_refused" "_law_refused" (defArgs s_Lrefused) (defBody s_Lrefused) (defScope s_Lrefused) .none kV_Lrefused dc_Lrefused pm_Lrefused an_Lrefused cd_Lrefused ct_Lrefused),
    F_Lrefused := fun_mk l_Lrefused co_Lrefused k_Lrefused,
    b_Lrefused := (fun_mk (st := s_Lrefused) l_Lrefused co_Lrefused k_Lrefused).binds (ps := ["_law_ups", "_law_downs", "_law_shades"]) (fun _ _ _ _ _ _ us hl => match us, hl with | [_, _, _], _ => rfl),
    g_law := PySem.W.mg_of X G g_law,
    a_law := a_law,
    d_law := (PySem.W.fnOf "law" "law" (defArgs s_law) (defBody s_law) (defScope s_law) .none kV_law dc_law pm_law an_law cd_law ct_law),
    F_law := fun_mk l_law co_law k_law,
    b_law := (fun_mk (st := s_law) l_law co_law k_law).binds (ps := ["_law_script"]) (fun _ _ _ _ _ _ us hl => match us, hl with | [_], _ => rfl),
    tI := tI,
    t_MOST_CELLS := t_MOST_CELLS,
    c_MOST_CELLS := PySem.W.mg_of X G c_MOST_CELLS,
    t_LEAST_COATS := t_LEAST_COATS,
    c_LEAST_COATS := PySem.W.mg_of X G c_LEAST_COATS,
    t_MOST_COATS := t_MOST_COATS,
    c_MOST_COATS := PySem.W.mg_of X G c_MOST_COATS,
    m_comb := PySem.W.mg_of X G m_comb,
    n_bool := PySem.W.mg_none_of X G n_bool,
    n_int := PySem.W.mg_none_of X G n_int,
    n_isinstance := PySem.W.mg_none_of X G n_isinstance,
    n_len := PySem.W.mg_none_of X G n_len,
    n_max := PySem.W.mg_none_of X G n_max,
    n_range := PySem.W.mg_none_of X G n_range,
    n_sum := PySem.W.mg_none_of X G n_sum } hfa fun s u => .of_eq rfl
end R
end

-- Final
section
open PySem PySem.W PyProof.Rows
set_option Elab.async false
set_option maxRecDepth 100000 in
set_option maxHeartbeats 0 in
theorem PySem.Challenge.cw_pairfloors_k49_surpluses_to_forty_holds : PySem.Challenge.rw_pairfloors_k49_surpluses_to_forty.Holds := by
  w_on; o_law; k_head; (case hw => w_witness2)
  k_fill
  refine LamX.walk_ofTs (l := PySem.Challenge.rw_pairfloors_k49_surpluses_to_forty) (n := 63) (k := 7) (CX := fun _ => L2.CX0) (x := "_law_script") rfl (by decide) rfl ⟨rfl, by decide, by decide⟩ (fun w h Y => PySem.W.kIn_of Y) ?F (fun _ _ _ _ _ z => z)
  case F =>
    intro w mg fa h Y KX G hmg
    refine' R.all_mk KX G hmg ?aC_Refused ?xL_Refused ?rV_Refused ?sa_Refused ?ex_Refused ?ty_Refused ?kC_Refused ?ga_Refused ?gg_Refused ?hd_Refused ?is_Refused ?iC_Refused ?nw_Refused ?aC_BadCount ?xL_BadCount ?rV_BadCount ?sa_BadCount ?ex_BadCount ?ty_BadCount ?kC_BadCount ?ga_BadCount ?gg_BadCount ?hd_BadCount ?is_BadCount ?iC_BadCount ?nw_BadCount ?s_BadCount_BadCount ?s_BadCount_Refused ?s_Refused_BadCount ?s_Refused_Refused ?l_Refused_init ?co_Refused_init ?k_Refused_init ?g_check_count ?l_check_count ?co_check_count ?k_check_count ?g_check_coats ?l_check_coats ?co_check_coats ?k_check_coats ?g_surplus_count ?l_surplus_count ?co_surplus_count ?k_surplus_count ?g_rows_with ?l_rows_with ?co_rows_with ?k_rows_with ?g_sums_of ?l_sums_of ?co_sums_of ?k_sums_of ?g_Lpool ?l_Lpool ?co_Lpool ?k_Lpool ?g_Ltake ?l_Ltake ?co_Ltake ?k_Ltake ?g_Lone ?l_Lone ?co_Lone ?k_Lone ?g_Lways ?l_Lways ?co_Lways ?k_Lways ?g_Lsum ?l_Lsum ?co_Lsum ?k_Lsum ?g_Lrefused ?l_Lrefused ?co_Lrefused ?k_Lrefused ?g_law ?l_law ?co_law ?k_law ?tI ?c_MOST_CELLS ?c_LEAST_COATS ?c_MOST_COATS ?m_comb ?n_bool ?n_int ?n_isinstance ?n_len ?n_max ?n_range ?n_sum
    case aC_Refused => k_is
    case xL_Refused => k_is
    case rV_Refused => first | rfl | decide +kernel | k_is
    case sa_Refused => k_is
    case ex_Refused => k_is
    case ty_Refused => k_is
    case kC_Refused => k_is
    case ga_Refused => k_is
    case gg_Refused => k_is
    case hd_Refused => k_is
    case is_Refused => k_is
    case iC_Refused => k_is
    case nw_Refused => k_is
    case aC_BadCount => k_is
    case xL_BadCount => k_is
    case rV_BadCount => first | rfl | decide +kernel | k_is
    case sa_BadCount => k_is
    case ex_BadCount => k_is
    case ty_BadCount => k_is
    case kC_BadCount => k_is
    case ga_BadCount => k_is
    case gg_BadCount => k_is
    case hd_BadCount => k_is
    case is_BadCount => k_is
    case iC_BadCount => k_is
    case nw_BadCount => k_is
    case s_BadCount_BadCount => first | rfl | k_is | decide +kernel
    case s_BadCount_Refused => first | rfl | k_is | decide +kernel
    case s_Refused_BadCount => first | rfl | k_is | decide +kernel
    case s_Refused_Refused => first | rfl | k_is | decide +kernel
    case l_Refused_init => k_is
    case co_Refused_init => k_is
    case k_Refused_init => k_is
    case g_check_count => k_is
    case l_check_count => k_is
    case co_check_count => k_is
    case k_check_count => k_is
    case g_check_coats => k_is
    case l_check_coats => k_is
    case co_check_coats => k_is
    case k_check_coats => k_is
    case g_surplus_count => k_is
    case l_surplus_count => k_is
    case co_surplus_count => k_is
    case k_surplus_count => k_is
    case g_rows_with => k_is
    case l_rows_with => k_is
    case co_rows_with => k_is
    case k_rows_with => k_is
    case g_sums_of => k_is
    case l_sums_of => k_is
    case co_sums_of => k_is
    case k_sums_of => k_is
    case g_Lpool => k_is
    case l_Lpool => k_is
    case co_Lpool => k_is
    case k_Lpool => k_is
    case g_Ltake => k_is
    case l_Ltake => k_is
    case co_Ltake => k_is
    case k_Ltake => k_is
    case g_Lone => k_is
    case l_Lone => k_is
    case co_Lone => k_is
    case k_Lone => k_is
    case g_Lways => k_is
    case l_Lways => k_is
    case co_Lways => k_is
    case k_Lways => k_is
    case g_Lsum => k_is
    case l_Lsum => k_is
    case co_Lsum => k_is
    case k_Lsum => k_is
    case g_Lrefused => k_is
    case l_Lrefused => k_is
    case co_Lrefused => k_is
    case k_Lrefused => k_is
    case g_law => k_is
    case l_law => k_is
    case co_law => k_is
    case k_law => k_is
    case tI => k_is
    case c_MOST_CELLS => k_is
    case c_LEAST_COATS => k_is
    case c_MOST_COATS => k_is
    case m_comb => k_is
    case n_bool => k_is
    case n_int => k_is
    case n_isinstance => k_is
    case n_len => k_is
    case n_max => k_is
    case n_range => k_is
    case n_sum => k_is
end
