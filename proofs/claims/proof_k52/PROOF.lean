import PyProof.Rows.All
import Wide.All
import OpenK.AllK
import Wide.FinOn
import HandS.ForMost
import HandS.Exc
import HandS.ExcOwn
import HandS.ExcInit
import HandS.ExcField
import HandS.TryMany
import HandS.WordsExc
import HandS.Nested
import HandS.Walk
import HandS.IsInst
import HandS.TupLe
import HandS.TupAny
import HandS.Wide
import HandS.Deep
import HandS.SortRule
import HandS.DictComp
import HandS.Conv
import HandS.Lambda
import KE.GoesMore
import KE.GoesEnum
import KE.KNestM
import PySem.Challenge.RW_pairfloors_k52_floors_of_one_odd_set
import HandS.WideMore
import HandS.Defaults
import HandS.Style
import HandS.EndTab
import KE.KLam
-- Lam
section
set_option Elab.async false
set_option linter.all false
set_option maxRecDepth 100000
set_option maxHeartbeats 4000000
/-! Lam: a lambda with parameters is made in a def, handed to a second def and called there. -/
namespace LamP
open PySem PySem.Spec PyProof.Rows L2 LamX NdefX
/-- at f stands what `lambda ..: b` makes -/
def LamIs (h : Heap) (f : Addr) (F : NF) (b : Expr) : Prop :=
  ∃ od sl pm ctv, h.get? f = some { cls := .type "function", dict := od, data := .func (PySem.W.kla_fn "<lambda>" F.qual F.params b F.scope F.cl pm (.ref F.c) ctv), slots := sl }
def LamO (f : Addr) (F : NF) (b : Expr) : HO := .ext fun h => LamIs h f F b
theorem lamO_ne {f : Addr} {F : NF} {b : Expr} (ps : Array Value) : LamO f F b ≠ .tbl ps := by
  unfold LamO
  exact fun z => HO.noConfusion z
theorem lam_is {P : Program} {w : World} {H : Hp} {h : Heap} {f : Addr} {F : NF} {b : Expr} (hok : HOk P w H h) (e : H f = some (LamO f F b)) : LamIs h f F b :=
  (show LamIs h f F b ∧ _ ∧ _ from hok f _ e).1
section
variable {T : List NTab} {H : Hp} {P c' : Addr} {ps : Array Value} {pos : Pos} {q : Str}
/-- the table at P has a new row, for the code object at c' -/
def grow (H : Hp) (P : Addr) (ps : Array Value) (pos : Pos) (c' : Addr) (q : Str) : Hp := upd (upd H P (.tbl (ps ++ #[rawInt pos.line, rawInt pos.col, .ref c']))) c' (CodeO c' q)
theorem grow_other {b : Addr} (h1 : b ≠ P) (h2 : b ≠ c') : grow H P ps pos c' q b = H b := (upd_ne h2).trans (upd_ne h1)
theorem grow_kept (hP : H P = some (.tbl ps)) (nC : H c' = none) : ExtN H (grow H P ps pos c' q) := by
  intro b o e plain
  refine (grow_other (fun z => ?_) (ne_of_none e nC)).trans e
  subst z
  exact plain ps (Option.some.inj (e.symm.trans hP))
theorem grow_none {b : Addr} (e : grow H P ps pos c' q b = none) : H b = none := upd_none (upd_none e)
theorem grow_tabs (hT : TabsN T H) (hP : H P = some (.tbl ps)) (well : TriplesOk ps.toList) (only : ∀ p ∈ T, p.1 = P → p.2 = fun _ _ => q) (nC : H c' = none) : TabsN T (grow H P ps pos c' q) := by
  intro p hp
  obtain ⟨qs, at_, ok, rows⟩ := hT p hp
  have keep := grow_kept (pos := pos) (q := q) hP nC
  by_cases here : p.1 = P
  · have same : qs = ps := by
      rw [here, hP] at at_
      cases at_
      rfl
    subst same
    refine ⟨qs ++ #[rawInt pos.line, rawInt pos.col, .ref c'], ?_, ?_, fun pos2 cv found => ?_⟩
    · rw [here]
      exact (upd_ne (ne_of_none hP nC)).trans upd_same
    · rw [Array.toList_append]
      exact PySem.TriplesOk_snoc _ _ _ _ ok
    · rw [Array.toList_append] at found
      rcases among_app2 _ ok found with old | ⟨new, _⟩
      · obtain ⟨c0, e1, e2⟩ := rows pos2 cv old
        exact ⟨c0, e1, keep _ _ e2 codeO_ne⟩
      · exact ⟨c', new, by rw [only p hp here]; exact upd_same⟩
  · refine ⟨qs, ?_, ok, fun pos2 cv found => ?_⟩
    · exact (grow_other here (ne_of_none at_ nC)).trans at_
    · exact (rows pos2 cv found).imp fun _ z => ⟨z.1, keep _ _ z.2 codeO_ne⟩
end
/-- a lambda made: F its data but for the code object's place -/
structure Made (T : List NTab) (F : Addr → NF) (b : Expr) (H H1 : Hp) (f c' : Addr) : Prop where
  kept : ExtN H H1
  back : ∀ a, H1 a = none → H a = none
  tabs : TabsN T H1
  new : H f = none
  lam : H1 f = some (LamO f (F c') b)
  code : H1 c' = some (CodeO c' (F c').qual)
theorem made_of {T : List NTab} {F : Addr → NF} {b : Expr} {H H1 : Hp} {f c' : Addr} (kept : ExtN H H1) (back : ∀ a, H1 a = none → H a = none) (tabs : TabsN T H1) (n1 : H1 f = none) (code : H1 c' = some (CodeO c' (F c').qual)) : Made T F b H (upd H1 f (LamO f (F c') b)) f c' :=
  have step : ∀ a o, H1 a = some o → upd H1 f (LamO f (F c') b) a = some o := fun a o e => (upd_ne (ne_of_none e n1)).trans e
  ⟨fun a o e p => step a o (kept a o e p), fun a e => back a (upd_none e), tabs.ext step, back f n1, upd_same, step c' _ code⟩
section
variable {X : Cx} {pins : List (Addr × Obj)} {σ : L2.St} {H : Hp} {s : Shared}
/-- its function object laid on top of the heap -/
theorem inv_lam {F : NF} {b : Expr} {tk : Nat} {pm ctv : Value} (I : Inv X pins σ H s) :
    Inv X pins σ (upd H s.heap.objs.size (LamO s.heap.objs.size F b)) { s with heap := s.heap.push (PySem.W.kla_obj "<lambda>" F.qual F.params b F.scope F.cl pm F.c ctv), toks := tk } := by
  have top := Heap.get?_push_size s.heap (o := PySem.W.kla_obj "<lambda>" F.qual F.params b F.scope F.cl pm F.c ctv) rfl
  refine I.laid (fun _ _ e => Heap.get?_push_of_some _ e) (Nat.le_refl _) ⟨⟨_, _, _, _, top⟩, ⟨_, top⟩, fun _ _ is st => ?_⟩
  exact is.imp fun _ y => y.imp fun _ y => y.imp fun _ y => y.imp fun _ e => st _ e
def mkLam (X : Cx) (params : Arguments) (scope : Scope) (c' : Addr) : NF := ⟨"<lambda>", X.env.qual ++ "<lambda>", params, [], scope, cloFrom X.env.cells scope.names [], c'⟩
/-- the reading of a lambda: a new function object -/
def tLamE (T : List NTab) (mk : Addr → NF) (b : Expr) : TE := fun σ H Q => TabsN T H ∧ ∀ (f c' : Addr) (H1 : Hp), Made T mk b H H1 f c' → Q (.ref f) H1
theorem pe_lam {T : List NTab} {c P : Addr} {params : Arguments} {body : Expr} {scope : Scope} {pos : Pos} (TB : TabB X.base X.mg c P) (hcode : X.env.code = .ref c) (mem : (P, fun _ _ => X.env.qual ++ "<lambda>") ∈ T)
    (only : ∀ p ∈ T, p.1 = P → p.2 = fun _ _ => X.env.qual ++ "<lambda>") (hdef : defaultsOf params X.env = ([], []))
    (hfree : ∀ y ∈ scope.names, y.2 = .free → X.env.scope.names.lookup y.1 = some .cell ∨ X.env.scope.names.lookup y.1 = some .free) : PE X (.Lambda params body scope pos) (tLamE T (mkLam X params scope) body) := by
  constructor
  rintro pins s σ H Q I ⟨hT, h⟩
  have clo := closure_ok (scope := scope) (env := X.env) fun y hy e => I.ok.has _ (hfree y hy e)
  obtain ⟨ps, hP, well, rows⟩ := (hT _ mem : TabN H P fun _ _ => X.env.qual ++ "<lambda>")
  have inP : s.heap.get? P = some (PySem.W.tabObj ps) := I.hok P _ hP
  have ends : ∀ {g : Heap} {tk : Nat} {H1 : Hp} {c1 : Addr} (ctv : Value), Inv X pins σ H1 { s with heap := g, toks := tk } → ExtN H H1 → (∀ a, H1 a = none → H a = none) → TabsN T H1 → H1 c1 = some (CodeO c1 (X.env.qual ++ "<lambda>")) →
      EP X pins σ Q (.ref g.objs.size) { s with heap := g.push (PySem.W.kla_obj "<lambda>" (X.env.qual ++ "<lambda>") params body scope (cloFrom X.env.cells scope.names []) ((X.mg "__name__").getD .none) c1 ctv), toks := tk } := fun ctv J kept back tabs code =>
    ⟨.ref _, _, inv_lam (F := mkLam X params scope _) J, rfl, h _ _ _ (made_of kept back tabs (J.hok.fresh (Nat.le_refl _)) code)⟩
  refine PySem.W.kla_eval hdef ?_
  rcases known : codeAmong pos ps.toList with _ | cv
  · refine PySem.W.kla_makeFunction clo I.ok.glob (I.mod.glob.keeps I.bk) hcode (TB.code.keeps I.bk) inP well known TB.gP (TB.bm.keeps I.bk) fun c1 ctv g tk but new _ rec row => ?_
    obtain ⟨_, oc, vs, t, same, hoc, hd, hv⟩ := rec
    cases same
    have nC := I.hok.fresh new
    have J : Inv X pins σ (grow H P ps pos c1 (X.env.qual ++ "<lambda>")) { s with heap := g, toks := tk } := inv_table I hP (fun b o hb e => but b o hb e) row new ⟨oc, vs, t, hoc, hd, hv⟩
    exact ends ctv J (grow_kept hP nC) (fun _ => grow_none) (grow_tabs hT hP well only nC) upd_same
  · obtain ⟨c1, rfl, code⟩ := rows pos cv known
    exact PySem.W.kla_makeFunctionHit clo I.ok.glob (I.mod.glob.keeps I.bk) hcode (TB.code.keeps I.bk) inP well known (TB.bm.keeps I.bk) fun ctv g tk kept _ =>
      ends ctv (I.kept kept) (ExtN.refl H) (fun _ e => e) hT code
end
/-! ### the lambda called -/
/-- the lambda F at f keeps sp, called at a room of k -/
structure LOk (P : Program) (w : World) (K : PySem.W.Frag) (mg : Str → Option Value) (base : Heap) (CX : CXT) (k : Nat) (f : Addr) (F : NF) (b : Expr) (ps fr : List Str) (sp : List (Option V) → Sp) : Prop where
  len : ∀ ws vs H Q E, sp ws vs H Q E → vs.length = ps.length
  run : ∀ A outer s H us vs ws Q E, Room k A → Env0 P w K mg base A outer s H → H f = some (LamO f F b) ∧ H F.c = some (CodeO F.c F.qual) → CellsAt F.cl fr ws s.heap H → Vals vs us → sp ws vs H Q E → codeAny (model P w) A (.call (.ref f) ⟨us, []⟩) (CR CX outer P w H s Q E) s
theorem lok_of {CX : CXT} {P : Program} {w : World} {K : PySem.W.Frag} {mg : Str → Option Value} {base : Heap} {N ps fr : List Str} {F : NF} {b : Expr} {f : Addr} {k : Nat} {sp : List (Option V) → Sp}
    (S : NScope N ps fr F.scope) (binds : ∀ (pm ctv : Value) (us : List Value), us.length = ps.length → bindArgs (PySem.W.kla_fn "<lambda>" F.qual F.params b F.scope F.cl pm (.ref F.c) ctv) ⟨us, []⟩ = pure (ps.zip us)) (len : ∀ ws vs H Q E, sp ws vs H Q E → vs.length = ps.length)
    (body : ∀ A outer s H vs ws Q E, Room k (A.deeper (envF F f s.heap.objs.size)) → H f = some (LamO f F b) → H F.c = some (CodeO F.c F.qual) → ws.length = fr.length → sp ws vs H Q E → ∃ t, PE (ncx CX P w K mg base N F f A outer s H E) b t ∧ t (startF N vs ws) H Q) :
    LOk P w K mg base CX (k + 1) f F b ps fr sp := by
  refine ⟨len, ?_⟩
  rintro A outer s H us vs ws Q E room e0 ⟨lam, code⟩ cells rel pre
  have n := len _ _ _ _ _ pre
  obtain ⟨od, sl, pm, ctv, at_⟩ := lam_is e0.hok lam
  have noLimit := e0.mod.nolimit.keeps fun b o e => (e0.bs b o e).1
  apply PySem.W.kla_callFunE room.depth at_ rfl S.co S.gen rfl (codeO_at e0.hok code)
  rw [binds pm ctv us (rel.length ▸ n)]
  refine wpAny_pure (wpAny_newFunctionEnv S.nocell (fun y hy => S.par y.1 (List.of_mem_zip hy).1) (fun g frame but => ⟨noLimit.fresh _ but, ?_⟩) S.kind)
  obtain ⟨t, reads, goal⟩ := body A outer s H vs ws Q E (room.deeper _) lam code cells.len pre
  have start := inv_startN (CX := CX) (E := E) (f := f) (tk := s.toks + (ps.zip us).length) S room.hd e0 n rel cells frame fun b o e => but.extBut b o (Nat.ne_of_lt (Heap.lt_size e)) (Heap.get?_push_of_some _ e)
  exact PySem.W.kla_codeExpr (wpAny_mono (reads.run [] _ _ H Q start goal) (fun v s' out => out.elim fun w' z => z.elim fun H' ⟨J, rv, q⟩ => ⟨w', H', J.os, J.bare, J.base, J.hok, rv, q⟩) fun _ _ z => z)
/-- the captured cells, as they were when the running def began: it has no way to them but this lambda -/
theorem cells_later {X : Cx} {pins : List (Addr × Obj)} {σ : L2.St} {H : Hp} {s : Shared} {cl : List (Str × Addr)} {fr : List Str} {ws : List (Option V)} (C : CellsAt cl fr ws X.s_0.heap X.H_0) (none_ : X.ex = []) (I : Inv X pins σ H s) : CellsAt cl fr ws s.heap H := by
  have out : ∀ c : Addr, c ∉ X.ex := by simp [none_]
  have stays : ∀ {y c}, cl.lookup y = some c → ∀ {v}, X.s_0.heap.IsCell c v → s.heap.IsCell c v := by
    rintro y c e v ⟨o, at_, d⟩
    exact (I.base.any at_ (C.all y c e).1 (out c)).elim fun sl z => ⟨_, z, d⟩
  constructor
  · exact C.len
  · intro y c e
    have ⟨un, v, cell⟩ := C.all y c e
    exact ⟨cell.elim fun o z => I.base.free c o z.1 un (out c), v, stays e cell⟩
  · exact C.inj
  · intro i y e
    have ⟨c, at_, holds⟩ := C.has i y e
    exact ⟨c, at_, fun v ev => (holds v ev).imp fun u z => ⟨z.1, stays at_ z.2⟩⟩
/-- a call's end, read by its caller -/
theorem call_ends {X : Cx} {CX : CXT} {pins : List (Addr × Obj)} {σ : L2.St} {H : Hp} {s : Shared} {Q : VK} {E : XK} {v : Value} {us : List Value} (hx : Passes CX X E) (I : Inv X pins σ H s) (h : codeAny (model X.prog X.w) X.A (.call v ⟨us, []⟩) (CR CX X.stack X.prog X.w H s Q E) s) :
    wpAny (model X.prog X.w) X.A (call v us) (EP X pins σ Q) X.xe s := by
  refine wpAny_call (codeAny_mono h ?_)
  rintro (e | fl) s' z
  · exact hx pins σ H s e s' I z
  · match fl, z with
    | .ret u, z => exact I.after z
/-- g(..), g the name i of the running def that was handed the lambda F; ws: what its cells hold -/
def tCallF (f : Addr) (F : NF) (b : Expr) (i : Nat) (ws : List (Option V)) (sp : List (Option V) → Sp) (E : XK) (t : TA) : TE := fun σ H Q => σ[i]? = some (some (.ref f)) ∧ H f = some (LamO f F b) ∧
  t σ H fun vs H1 => (H1 f = some (LamO f F b) ∧ H1 F.c = some (CodeO F.c F.qual)) ∧ sp ws vs H1 Q E
theorem pe_callF {X : Cx} {CX : CXT} {f : Addr} {F : NF} {b : Expr} {ps fr : List Str} {ws : List (Option V)} {i j k : Nat} {x : Str} {sp : List (Option V) → Sp} {E : XK} {t : TA} {e : Expr} {es : List Expr} {p pos : Pos}
    (Fn : LOk X.prog X.w X.K X.mg X.base CX k f F b ps fr sp) (C : CellsAt F.cl fr ws X.s_0.heap X.H_0) (hex : X.ex = []) (hr : Room j X.A) (hk : k ≤ j) (hx : Passes CX X E) (hN : X.N[i]? = some x) (hv : Vis X.env.scope x) (ha : PA X (e :: es) t)
    (hd : (x == ("__debug__" : Str)) = false := by decide) (hcd : (x == ("__classdict__" : Str)) = false := by decide)
    (he : starEach (e :: es) X.env = (false, eval e X.env) :: starEach es X.env := by rfl) (hpl : (backTo pos (starEach es X.env)).any (·.1) = false := by rfl) :
    PE X (.Call (.Name x p) (e :: es) [] pos) (tCallF f F b i ws sp E t) := by
  constructor
  rintro pins s σ H Q I ⟨var, lam, args⟩
  have fn : ∀ {σ H s}, Inv X pins σ H s → H f = some (LamO f F b) → PySem.W.FnAt f s.heap := fun I e => (lam_is I.hok e).elim fun od z => z.elim fun sl z => z.elim fun _ z => z.elim fun _ z => ⟨_, od, _, sl, z⟩
  have name := (pe_var (pos := p) hN hv hd hcd).run pins s σ H (fun v H1 => v = .ref f ∧ H1 = H) I ⟨.ref f, var, rfl, rfl⟩
  refine wpAny_Call_Name_kw (thn name ?_)
  rintro u s1 ⟨_, _, I1, ru, rfl, rfl⟩
  cases ru
  refine PySem.W.callWith_F (first := []) (fn I1 lam) (thn (ha.run pos pins s1 σ _ _ I1 args) ?_) he hpl
  rintro us s2 ⟨vs, H2, I2, r, both, pre⟩
  exact ⟨fn I2 both.1, call_ends hx I2 (Fn.run X.A X.stack s2 H2 us vs ws Q E (hr.mono hk) I2.env0 both (cells_later C hex I2) r pre)⟩
/-! ### a def that is handed a lambda -/
/-- a def of the top, called while the cells cl stand -/
structure FnOkC (P : Program) (w : World) (K : PySem.W.Frag) (mg : Str → Option Value) (base : Heap) (CX : CXT) (k : Nat) (f : Addr) (fd : FuncData) (ps : List Str) (cl : List (Str × Addr)) (fr : List Str) (ws : List (Option V)) (sp : Sp) : Prop where
  len : ∀ vs H Q E, sp vs H Q E → vs.length = ps.length
  run : ∀ A outer s H args us vs Q E, Room k A → Env0 P w K mg base A outer s H → CellsAt cl fr ws s.heap H → BindsTo s fd args (ps.zip us) → Vals vs us → sp vs H Q E → codeAny (model P w) A (.call (.ref f) args) (CR CX outer P w H s Q E) s
theorem okC {P : Program} {w : World} {K : PySem.W.Frag} {mg : Str → Option Value} {base : Heap} {x qual : Str} {st : Stmt} {f : Addr} {fd : FuncData} {N ps : List Str} {k : Nat} {cl : List (Str × Addr)} {fr : List Str} {ws : List (Option V)} {sp : Sp}
    (F : Fun K x qual st f fd) (S : FnScope N ps (defScope st)) (len : ∀ vs H Q E, sp vs H Q E → vs.length = ps.length)
    (body : ∀ (cdv : Value) (A : Around) (outer : List Env) (s : Shared) (H : Hp) (vs : List V) (Q : VK) (E : XK), Room k (A.deeper (envOfC qual (defScope st) s.heap.objs.size f cdv)) → CellsAt cl fr ws s.heap H → sp vs H Q E →
      ∃ t, PSs (cxOf CX0 P w K mg base N qual (defScope st) f cdv A outer s H E).nox (defBody st) t ∧ t { nx := fun _ H' => Q .non H', rt := Q } (L2.start N vs) H) : FnOkC P w K mg base CX0 (k + 1) f fd ps cl fr ws sp := by
  have ⟨_, _, _, _, _, _, cdv, _, _, is, look, code⟩ := F.ex
  subst is
  refine ⟨len, fun A outer s H args us vs Q E room e0 cells bound rel pre => run_ofS look code S room e0 bound rel (len _ _ _ _ pre) fun deeper => ?_⟩
  exact (body cdv A outer s H vs Q E deeper cells pre).imp fun t z => ⟨z.1.nox, z.2⟩
def tCallC (js : List Nat) (sp : List (Option V) → Sp) (E : XK) (t : TA) : TE := fun σ H Q => t σ H fun vs H1 => sp (js.map (slotAt σ)) vs H1 Q E
theorem pe_callC {X : Cx} {CX : CXT} {g : Addr} {fd : FuncData} {cl : List (Str × Addr)} {ps fr : List Str} {js : List Nat} {k : Nat} {x : Str} {sp : List (Option V) → Sp} {E : XK} {t : TA} {e : Expr} {es : List Expr} {p pos : Pos}
    (G : ∀ ws, FnOkC X.prog X.w X.K X.mg X.base CX k g fd ps cl fr ws (sp ws)) (cp : X.Ok → Caps X cl fr js) (hr : Room k X.A) (hg : Gl X x) (hm : X.mg x = some (.ref g)) (hk : PySem.W.keepIn X.K (.ref g) = true) (hb : L2.Binds X.K fd ps []) (hx : Passes CX X E) (ha : PA X (e :: es) t)
    (hdb : (x == ("__debug__" : Str)) = false := by decide)
    (he : starEach (e :: es) X.env = (false, eval e X.env) :: starEach es X.env := by rfl) (hpl : (backTo pos (starEach es X.env)).any (·.1) = false := by rfl) :
    PE X (.Call (.Name x p) (e :: es) [] pos) (tCallC js sp E t) := by
  constructor
  intro pins s σ H Q I pre
  refine wpAny_Call_Name_kw (ld_glob I hg hm (PySem.W.callWith_K I.ok.mod.kin hk (thn (ha.run pos pins s σ H _ I pre) ?_) he hpl) hdb)
  rintro us s1 ⟨vs, H1, I1, r, goal⟩
  refine ⟨I1.kIn, call_ends hx I1 ((G _).run X.A X.stack s1 H1 _ us vs Q E hr I1.env0 (cells_of I1 (cp I1.ok)) ?_ r goal)⟩
  have n : us.length = ps.length := r.length ▸ (G _).len _ _ _ _ goal
  simpa using hb s1 us I1.kIn (by simpa using n)
end LamP
end

-- EnumT
section
set_option Elab.async false
set_option linter.all false
set_option maxRecDepth 100000
set_option maxHeartbeats 4000000
/-! EnumT: for i, x in enumerate(t), t a tuple (enumerate with one argument, over whatever begins). -/
namespace EnT
open PySem PySem.Spec PyProof.Rows
open Sem (wp)
/-- the two objects of enumerate(v) in a heap of n places: v's iterator o at n, the enumerate object at n + 1 -/
def two (h : Heap) (o : Obj) : Heap := (h.push o).push { cls := .type "enumerate", data := .fields #[.none, .bool false, .ref h.objs.size, rawInt 0, .none, .none] }
theorem new1 {v : Value} {o : Obj} {H : Heap → Prop} (B : Begins v o H) :
    Meets (Builtin.«enumerate.__new__» ⟨[.type "enumerate", v], []⟩) (fun _ R s => H s.heap ∧ R (.ok (.ret (.ref (s.heap.push o).objs.size))) { s with heap := two s.heap o }) := by
  refine .of_wp fun prog w A R s h => ?_
  rcases s with ⟨hp, g, d, tk, os⟩
  rcases h with ⟨ready, h⟩
  have start : ∀ {A' : Around} {E : Value → Shared → Prop} {Q : Value → Shared → Prop}, Q (.ref hp.objs.size) ⟨hp.push o, g, d, tk, os⟩ → wpAny (model prog w) A' (pyIter v) Q E ⟨hp, g, d, tk, os⟩ := fun q => B.iter _ _ _ _ _ _ ready q
  have sub := sub_enumerate
  wp_walk using start
  refine wpAny_stack_any fun _ => wpAny_pure ?_
  split
  · rename_i c _ _ _ _ _
    cases (c == Value.type "enumerate") <;> (wp_walk using start; exact ⟨_, rfl, h⟩)
  · wp_walk using start
    exact ⟨_, rfl, h⟩
/-- what is known of them -/
structure Two (h h' : Heap) (o : Obj) : Prop where
  en : IsEnum h' (h.objs.size + 1) h.objs.size 0 .none
  it : h'.get? h.objs.size = some o
  old : ∀ b ob, h.get? b = some ob → h'.get? b = some ob
theorem two_is {h : Heap} {o : Obj} (free : o.isFreed = false) : Two h (two h o) o := by
  have n : (h.push o).objs.size = h.objs.size + 1 := Heap.size_push ..
  have top := Heap.get?_push_size (h.push o) (o := { cls := .type "enumerate", data := .fields #[.none, .bool false, .ref h.objs.size, rawInt 0, .none, .none] }) rfl
  exact ⟨n ▸ top, Heap.get?_push_of_some _ (Heap.get?_push_size _ free), fun b ob q => Heap.get?_push_of_some _ (Heap.get?_push_of_some _ q)⟩
theorem begin1 {prog : Program} {w : World} {A : Around} {E : Value → Shared → Prop} {s : Shared} {v : Value} {o : Obj} {H : Heap → Prop} {Q : Value → Shared → Prop} (B : Begins v o H) (ready : H s.heap)
    (h : Two s.heap (two s.heap o) o → Q (.ref (s.heap.objs.size + 1)) { s with heap := two s.heap o }) : wpAny (model prog w) A (call (.type "enumerate") [v]) Q E s := by
  have T := two_is (h := s.heap) B.free
  have n : (s.heap.push o).objs.size = s.heap.objs.size + 1 := Heap.size_push ..
  refine callType_new F.called_enumerate (by decide) (F.typeCall_enumerate_1 _) (F.newCall_enumerate_1 _) (fun obj => F.args_object_init_2 obj _) F.entry_enumerate_new (new1 B) ⟨ready, ?_⟩
  show _ ∧ _
  rw [n]
  exact ⟨⟨_, T.en, rfl⟩, h T⟩
end EnT
namespace L2
open PySem PySem.Spec PyProof.Rows
/-- the tuple at a, each of its items in a new pair behind its place -/
def IteT (K : PySem.W.Frag) (a : Addr) : It where
  go i H := ∃ (xs : List V) (x : V), SqT K H a xs ∧ xs[i]? = some x
  yld i H v H' := ∃ q x, v = .ref q ∧ H q = none ∧ H' = upd H q (.tup [.int (i : Nat), x]) ∧ ∀ xs, SqT K H a xs → xs[i]? = some x
  stop i H := ∃ xs : List V, SqT K H a xs ∧ i = xs.length
/-- e enumerates by the iterator it of the tuple at a, of which i items are drawn -/
structure EnSt (a e it : Addr) (i : Nat) (h : Heap) : Prop where
  en : ∃ old, IsEnum h e it (i : Int) old
  it_ : h.IsTupleIter it a i
  ne : e ≠ it
  nai : a ≠ it
  nae : a ≠ e
theorem EnSt.lt_e {a e it : Addr} {i : Nat} {h : Heap} (S : EnSt a e it i h) : e < h.objs.size := S.en.elim fun _ q => Heap.lt_size q
theorem EnSt.lt_it {a e it : Addr} {i : Nat} {h : Heap} (S : EnSt a e it i h) : it < h.objs.size := S.it_.elim fun _ q => Heap.lt_size q.1
theorem EnSt.lt {a e it : Addr} {i : Nat} {h : Heap} (S : EnSt a e it i h) : ∀ b ∈ [e, it], b < h.objs.size := by
  simpa using And.intro S.lt_e S.lt_it
theorem two_mem {e it b : Addr} (h : b ∉ [e, it]) : b ≠ e ∧ b ≠ it := by simpa using h
section
variable {X : Cx} {pins : List (Addr × Obj)} {σ : L2.St} {H : Hp} {s : Shared}
/-- the new pair of an index and an item -/
theorem pair_ok {P : Program} {w : World} {q : Addr} {i : Nat} {t : Tok} {x : V} {u : Value} {g : Heap} (r : RelV x u) (at_ : g.get? q = some { cls := .type "tuple", data := .seq #[.int i t, u] }) : ObjOk P w (upd H q (.tup [.int (i : Nat), x])) g q (.tup [.int (i : Nat), x]) :=
  ⟨by show 2 ≤ sizeLine; decide, [.int i t, u], .cons ⟨t, rfl⟩ (.cons r .nil), _, at_, rfl, 0, rfl⟩
end
theorem turn_enumT {P : Program} {w : World} {K : PySem.W.Frag} {elts : List Expr} {kk : Nat} {tpos : Pos} (a e it : Addr) : Turn P w K (.Tuple elts kk tpos) (IteT K a) [e, it] e (EnSt a e it) where
  mem := List.mem_cons_self
  obj i h S b m := by
    rcases List.mem_cons.mp m with z | z
    · rw [z]
      exact S.en.elim fun _ q => ⟨_, q, fun _ y => nomatch y⟩
    · obtain ⟨o, q, _, d⟩ := S.it_
      exact ⟨o, List.mem_singleton.mp z ▸ q, fun _ y => by rw [d] at y; cases y⟩
  keep i h h' S k := ⟨S.en.imp fun _ q => k e (List.mem_cons_self ..) _ q, S.it_.at fun o q => k it (by simp) o q, S.ne, S.nai, S.nae⟩
  self A i s Q E S h := S.en.elim fun _ q => wpAny_pyIter_enum q h
  item := by
    intro X hP hw hK hc i pins s σ H E I own S go
    subst hP hw hK
    obtain ⟨old, en⟩ := S.en
    obtain ⟨xs, x, seq, hx⟩ := go
    obtain ⟨items, rel, tup, small⟩ := I.tuple seq
    obtain ⟨u, hu, ru⟩ := rel.get hx
    have lo := S.lt
    have draws := Draws.tuple (prog := X.prog) (w := X.w) (A := X.A.in1) (I.ok.hd hc) it a S.nai items.toArray
    refine wpAny_pyNext_enum_itemD draws en ⟨S.it_, tup⟩ (by simpa using (List.getElem?_eq_some_iff.mp hu).1) S.ne (by simp [S.ne, Ne.symm S.nae]) fun y g tk drawn out next at_ _ kept => ?_
    obtain rfl : u = y := Option.some.inj (hu.symm.trans (by simpa using drawn))
    refine ⟨_, rfl, wpAny_letOwnedTupleGo_enum (s := { s with heap := g, toks := tk + 1 }) out fun g2 en2 same => ?_⟩
    have here := (same.2 _ (Nat.ne_of_gt S.lt_e)).trans at_
    have all : ∀ b ob, b ∉ [e, it] → s.heap.get? b = some ob → g2.get? b = some ob := fun b ob nb q => (same.2 b (two_mem nb).1).trans (kept b ob (two_mem nb).1 (two_mem nb).2 q)
    refine ⟨.ref s.heap.objs.size, _, I.turnedNew (t' := tk + 1) all own (Nat.le_refl _) (pair_ok ru here), rfl, ⟨_, x, rfl, I.hok.fresh (Nat.le_refl _), rfl, fun ys q => I.tuple_inj q seq ▸ hx⟩, ⟨⟨u, ?_⟩, next.1.at fun o q => (same.2 it S.ne.symm).trans q, S.ne, S.nai, S.nae⟩, fun b m => ?_⟩
    · rw [show ((i + 1 : Nat) : Int) = (i : Int) + 1 by omega]
      exact en2
    · exact (upd_ne (Nat.ne_of_lt (lo b m))).trans (own b m).1
  done := by
    intro X hP hw hK hc i pins s σ H E I own S stop
    subst hP hw hK
    obtain ⟨old, en⟩ := S.en
    obtain ⟨xs, seq, rfl⟩ := stop
    obtain ⟨items, rel, tup, small⟩ := I.tuple seq
    have ⟨_, f1, _, f3, f4, f5⟩ := own it (by simp)
    have draws := Draws.tuple (prog := X.prog) (w := X.w) (A := X.A.in1) (I.ok.hd hc) it a S.nai items.toArray
    have len : xs.length = items.toArray.size := by rw [List.size_toArray]; exact rel.length
    refine wpAny_pyNext_enum_endD draws en ⟨len ▸ S.it_, tup⟩ fun g kept => ?_
    exact ⟨rfl, I.turned (t' := s.toks) (fun b o nb q => kept b o nb q) (own it (by simp)).1 f1 f3 f4 f5⟩
def iEnumT (K : PySem.W.Frag) (ta : TA) : TI := fun σ H R => ta σ H fun vs H1 => ∃ a xs, vs = [.ref a] ∧ SqT K H1 a xs ∧ R (IteT K a) H1
theorem pi_enumT {X : Cx} {e : Expr} {ta : TA} {p pos tpos : Pos} {elts : List Expr} {kk : Nat} (hg : Gl X "enumerate") (hm : X.mg "enumerate" = none) (ha : PA X [e] ta) (hs : starEach [e] X.env = [(false, eval e X.env)] := by rfl) :
    PI X (.Tuple elts kk tpos) (.Call (.Name "enumerate" p) [e] [] pos) (iEnumT X.K ta) := by
  refine ⟨fun pins s σ H R I h => ?_⟩
  refine Call_ (ld_blt I hg hm boot_enumerate (callWith_type1 (thn (ha.run pos pins s σ H _ I h) fun us s1 done => ?_) hs rfl))
  obtain ⟨vs, H1, I1, r1, q⟩ := done
  obtain ⟨a, xs, ev, seq, q⟩ := q
  subst ev
  match us, r1 with
  | [_], .cons rfl .nil =>
    obtain ⟨items, _, tup, _⟩ := I1.tuple seq
    have la : a < s1.heap.objs.size := tup.elim fun _ q => Heap.lt_size q.1
    refine EnT.begin1 (begins_tuple a items.toArray) tup fun T => wpAny_pyIter_enum T.en ?_
    refine ⟨_, [_, _], _, _, H1, rfl, I1.kept (t' := s1.toks) T.old, turn_enumT a _ _, ⟨⟨_, T.en⟩, ⟨_, T.it, rfl, rfl⟩, Nat.succ_ne_self _, Nat.ne_of_lt la, Nat.ne_of_lt (Nat.lt_succ_of_lt la)⟩, fun b m => ?_, q⟩
    have big : s1.heap.objs.size ≤ b := by
      rcases List.mem_cons.mp m with z | z
      · exact z ▸ Nat.le_succ _
      · exact Nat.le_of_eq (List.mem_singleton.mp z).symm
    exact I1.fpOk big (I1.hok.fresh big)
theorem walk_enumT {K : PySem.W.Frag} {a : Addr} {xs : List V} : Walk (IteT K a) xs.length (fun H => SqT K H a xs) (YPair (fun i => some (.int (i : Nat))) (fun i => xs[i]?)) where
  goes i _ lt q := ⟨xs, xs[i], q, List.getElem?_eq_getElem lt⟩
  stops _ q := ⟨xs, q, rfl⟩
  yields i H v H' _ q y := y.elim fun T z => z.elim fun x ⟨h1, h2, h3, h4⟩ => ⟨T, _, x, h1, h2, h3, rfl, h4 xs q⟩
end L2
end

-- Rel
section
set_option Elab.async false
set_option linter.all false
set_option maxRecDepth 100000
set_option maxHeartbeats 4000000
/-! Rel: what a def leaves of the heap; data of tuples; the drawn source. -/
namespace R
open PySem PySem.Spec PyProof.Rows L2 LamX NdefX
/-! ### data that stands in tuples -/
mutual
inductive Tp (H : Hp) : V → PyData → Prop
  | non : Tp H .non .none
  | bl (b : Bool) : Tp H (.bl b) (.bool b)
  | int (i : Int) : Tp H (.int i) (.int i)
  | str (x : Str) : Tp H (.str x) (.str x)
  | tup {a : Addr} {xs : List V} {ds : List PyData} : H a = some (.tup xs) → Tps H xs ds → Tp H (.ref a) (.tuple ds)
inductive Tps (H : Hp) : List V → List PyData → Prop
  | nil : Tps H [] []
  | cons {v : V} {vs : List V} {d : PyData} {ds : List PyData} : Tp H v d → Tps H vs ds → Tps H (v :: vs) (d :: ds)
end
def TK (H H' : Hp) : Prop := ∀ a xs, H a = some (.tup xs) → H' a = some (.tup xs)
theorem TK.refl (H : Hp) : TK H H := fun _ _ h => h
theorem TK.trans {H H1 H2 : Hp} (a : TK H H1) (b : TK H1 H2) : TK H H2 := fun c xs h => b c xs (a c xs h)
theorem TK.new {H : Hp} {p : Addr} {o : HO} (h : H p = none) : TK H (upd H p o) := fun a xs e => by
  rw [upd_ne (ne_of_none e h)]
  exact e
theorem TK.lst {H : Hp} {p : Addr} {xs : List V} {o : HO} (h : H p = some (.lst xs)) : TK H (upd H p o) := fun a ys e => by
  rw [upd_ne (ne_of e h (by intro z; cases z))]
  exact e
mutual
theorem Tp.mono {H H' : Hp} (k : TK H H') : ∀ {v : V} {d : PyData}, Tp H v d → Tp H' v d
  | _, _, .non => .non
  | _, _, .bl b => .bl b
  | _, _, .int i => .int i
  | _, _, .str x => .str x
  | _, _, .tup h t => .tup (k _ _ h) (Tps.mono k t)
theorem Tps.mono {H H' : Hp} (k : TK H H') : ∀ {vs : List V} {ds : List PyData}, Tps H vs ds → Tps H' vs ds
  | _, _, .nil => .nil
  | _, _, .cons h t => .cons (Tp.mono k h) (Tps.mono k t)
end
mutual
theorem Tp.dp {K : PySem.W.Frag} {H : Hp} : ∀ {v : V} {d : PyData}, Tp H v d → Dp K H v d
  | _, _, .non => .non
  | _, _, .bl b => .bl b
  | _, _, .int i => .int i
  | _, _, .str x => .str x
  | _, _, .tup h t => .tup (SqT.of h) (Tps.dp t)
theorem Tps.dp {K : PySem.W.Frag} {H : Hp} : ∀ {vs : List V} {ds : List PyData}, Tps H vs ds → DpAll K H vs ds
  | _, _, .nil => .nil
  | _, _, .cons h t => .cons (Tp.dp h) (Tps.dp t)
end
theorem Tps.length {H : Hp} : ∀ {vs : List V} {ds : List PyData}, Tps H vs ds → vs.length = ds.length
  | _, _, .nil => rfl
  | _, _, .cons _ t => by
    rw [List.length_cons, List.length_cons, Tps.length t]
theorem Tps.get {H : Hp} : ∀ {vs : List V} {ds : List PyData} {i : Nat} {v : V}, Tps H vs ds → vs[i]? = some v → ∃ d, ds[i]? = some d ∧ Tp H v d
  | _, _, _, _, .nil, e => by simp at e
  | _, _, 0, _, .cons h _, e => by simp at e; subst e; exact ⟨_, rfl, h⟩
  | _, _, i + 1, v, .cons _ t, e => by
    obtain ⟨d, h1, h2⟩ := Tps.get (i := i) (v := v) t (by simpa using e)
    exact ⟨d, by simpa using h1, h2⟩
theorem Tps.getD {H : Hp} : ∀ {vs : List V} {ds : List PyData} {i : Nat} {d : PyData}, Tps H vs ds → ds[i]? = some d → ∃ v, vs[i]? = some v ∧ Tp H v d
  | _, _, _, _, .nil, e => by simp at e
  | _, _, 0, _, .cons h _, e => by simp at e; subst e; exact ⟨_, rfl, h⟩
  | _, _, i + 1, v, .cons _ t, e => by
    obtain ⟨d, h1, h2⟩ := Tps.getD (i := i) (d := v) t (by simpa using e)
    exact ⟨d, by simpa using h1, h2⟩
theorem Tps.append {H : Hp} : ∀ {vs ws : List V} {ds es : List PyData}, Tps H vs ds → Tps H ws es → Tps H (vs ++ ws) (ds ++ es)
  | _, _, _, _, .nil, t => t
  | _, _, _, _, .cons h t, u => .cons h (Tps.append t u)
theorem Tps.erase {H : Hp} : ∀ {vs : List V} {ds : List PyData} (i : Nat), Tps H vs ds → Tps H (vs.eraseIdx i) (ds.eraseIdx i)
  | _, _, _, .nil => .nil
  | _, _, 0, .cons _ t => t
  | _, _, i + 1, .cons h t => .cons h (Tps.erase i t)
theorem Tps.ints {H : Hp} : ∀ (ns : List Int), Tps H (ns.map V.int) (ns.map PyData.int)
  | [] => .nil
  | n :: r => .cons (.int n) (Tps.ints r)
theorem Tps.ints_of {H : Hp} : ∀ {vs : List V} {ns : List Int}, Tps H vs (ns.map PyData.int) → vs = ns.map V.int
  | _, [], h => by cases h; rfl
  | _, n :: r, h => by
    cases h with
    | cons h1 h2 =>
      cases h1
      rw [Tps.ints_of h2] <;> rfl
/-! ### pairs of numbers -/
def prD (p : Int × Int) : PyData := .tuple [.int p.1, .int p.2]
def lkD (ps : List (Int × Int)) : List PyData := ps.map prD
theorem tp_pr {H : Hp} {v : V} {p : Int × Int} (h : Tp H v (prD p)) : ∃ a, v = .ref a ∧ H a = some (.tup [.int p.1, .int p.2]) := by
  cases h with
  | tup h t => exact ⟨_, rfl, by rw [Tps.ints_of (ns := [p.1, p.2]) t] at h; exact h⟩
theorem pr_tp {H : Hp} {a : Addr} {i j : Int} (h : H a = some (.tup [.int i, .int j])) : Tp H (.ref a) (prD (i, j)) := .tup h (.cons (.int i) (.cons (.int j) .nil))
/-! ### the drawn source: a list of two numbers -/
def BIG : Nat := 1048600
def Src (H : Hp) (a : Addr) : Prop := ∃ x y : Int, H a = some (.lst [.int x, .int y]) ∧ 0 ≤ x ∧ x.natAbs < 2 ^ BIG ∧ 0 ≤ y ∧ y < 2147483647
/-! ### what is left as it was -/
structure Ext (T : List NTab) (so : Option Addr) (H H' : Hp) : Prop where
  kp : ∀ b o, some b ≠ so → (∀ ps, o ≠ .tbl ps) → H b = some o → H' b = some o
  tb : TabsN T H → TabsN T H'
  sr : ∀ a, so = some a → Src H a → Src H' a
  fr : ∀ b, H' b = none → H b = none
section
variable {T : List NTab} {so : Option Addr} {H H1 H2 : Hp} {a : Addr}
theorem Ext.refl (T : List NTab) (so : Option Addr) (H : Hp) : Ext T so H H := ⟨fun _ _ _ _ h => h, fun h => h, fun _ _ h => h, fun _ h => h⟩
theorem Ext.trans (x : Ext T so H H1) (y : Ext T so H1 H2) : Ext T so H H2 := ⟨fun b o n t h => y.kp b o n t (x.kp b o n t h), fun h => y.tb (x.tb h), fun b e h => y.sr b e (x.sr b e h), fun b h => x.fr b (y.fr b h)⟩
theorem upd_none' {H : Hp} {a b : Addr} {o : HO} (e : upd H a o b = none) : H b = none := by
  unfold upd at e
  split at e
  · cases e
  · exact e
theorem tabs_new {H : Hp} {p : Addr} {o : HO} (n : H p = none) (h : TabsN T H) : TabsN T (upd H p o) := h.ext fun b u e => by
  rw [upd_ne (ne_of_none e n)]
  exact e
/-- a new object -/
theorem Ext.new {p : Addr} {o : HO} (n : H p = none) : Ext T so H (upd H p o) :=
  ⟨fun b u _ _ e => by rw [upd_ne (ne_of_none e n)]; exact e, tabs_new n, fun b e ⟨x, y, h, r⟩ => ⟨x, y, by rw [upd_ne (ne_of_none h n)]; exact h, r⟩, fun b e => upd_none' e⟩
/-- an object that the beginning does not know is changed -/
theorem Ext.mut {p : Addr} {o u : HO} (x : Ext T so H H1) (n : H p = none) (h1 : H1 p = some u) (nt : ∀ ps, u ≠ .tbl ps) (nc : ∀ c q, u ≠ CodeO c q) (ns : so ≠ some p) : Ext T so H (upd H1 p o) :=
  ⟨fun b w a b' e => by rw [upd_ne (ne_of_none e n)]; exact x.kp b w a b' e, fun h => by
    have q := x.tb h
    intro t ht
    obtain ⟨ps, a1, a2, a3⟩ := q t ht
    refine ⟨ps, by rw [upd_ne (ne_of a1 h1 (Ne.symm (nt ps)))]; exact a1, a2, fun pos cv hc => ?_⟩
    obtain ⟨c, e1, e2⟩ := a3 pos cv hc
    exact ⟨c, e1, by rw [upd_ne (ne_of e2 h1 (Ne.symm (nc c _)))]; exact e2⟩,
   fun b e q => by
    obtain ⟨x', y', h', r⟩ := x.sr b e q
    exact ⟨x', y', by rw [upd_ne (fun z => ns (by rw [e, z]))]; exact h', r⟩, fun b e => x.fr b (upd_none' e)⟩
theorem lst_nt {xs : List V} (ps : Array Value) : (HO.lst xs) ≠ .tbl ps := fun z => by cases z
theorem lst_nc {xs : List V} (c : Addr) (q : Str) : (HO.lst xs) ≠ CodeO c q := fun z => by
  unfold CodeO at z
  cases z
theorem tup_nt {xs : List V} (ps : Array Value) : (HO.tup xs) ≠ .tbl ps := fun z => by cases z
theorem ins_nt {C d : Addr} {fs : List (Str × V)} (ps : Array Value) : (HO.ins C d fs) ≠ .tbl ps := fun z => by cases z
theorem ins_nc {C d : Addr} {fs : List (Str × V)} (c : Addr) (q : Str) : (HO.ins C d fs) ≠ CodeO c q := fun z => by
  unfold CodeO at z
  cases z
theorem own_nt {x : Addr} (ps : Array Value) : (HO.own x) ≠ .tbl ps := fun z => by cases z
theorem frz_nt {o : Obj} {u : HO} (ps : Array Value) : (HO.frz o u) ≠ .tbl ps := fun z => by cases z
theorem Ext.mutL {p : Addr} {o : HO} {xs : List V} (x : Ext T so H H1) (n : H p = none) (h1 : H1 p = some (.lst xs)) (ns : so ≠ some p) : Ext T so H (upd H1 p o) := x.mut n h1 lst_nt lst_nc ns
/-- nothing but new objects: so the source is left too -/
theorem Ext.toS (x : Ext T none H H1) : Ext T so H H1 := ⟨fun b o _ t h => x.kp b o (fun z => nomatch z) t h, x.tb, fun b _ ⟨i, j, h, r⟩ => ⟨i, j, x.kp b _ (fun z => nomatch z) lst_nt h, r⟩, x.fr⟩
theorem Ext.tup {xs : List V} (x : Ext T none H H1) (h : H a = some (.tup xs)) : H1 a = some (.tup xs) := x.kp a _ (fun z => nomatch z) tup_nt h
theorem Ext.lst {xs : List V} (x : Ext T none H H1) (h : H a = some (.lst xs)) : H1 a = some (.lst xs) := x.kp a _ (fun z => nomatch z) lst_nt h
theorem Ext.ins {C d : Addr} {fs : List (Str × V)} (x : Ext T none H H1) (h : H a = some (.ins C d fs)) : H1 a = some (.ins C d fs) := x.kp a _ (fun z => nomatch z) ins_nt h
theorem Ext.tk (x : Ext T none H H1) : TK H H1 := fun _ _ h => x.tup h
/-- with the source: it is a list -/
theorem Ext.tkS {s : Addr} (x : Ext T (some s) H H1) (q : Src H s) : TK H H1 := fun a xs h => x.kp a _ (fun z => by
  obtain ⟨i, j, e, _⟩ := q
  rw [Option.some.inj z, e] at h
  cases h) tup_nt h
theorem Ext.insS {s C d : Addr} {fs : List (Str × V)} (x : Ext T (some s) H H1) (q : Src H s) (h : H a = some (.ins C d fs)) : H1 a = some (.ins C d fs) := x.kp a _ (fun z => by
  obtain ⟨i, j, e, _⟩ := q
  rw [Option.some.inj z, e] at h
  cases h) ins_nt h
theorem Ext.lstS {s : Addr} {xs : List V} (x : Ext T (some s) H H1) (n : a ≠ s) (h : H a = some (.lst xs)) : H1 a = some (.lst xs) := x.kp a _ (fun z => n (Option.some.inj z)) lst_nt h
theorem Ext.src {s : Addr} (x : Ext T (some s) H H1) (q : Src H s) : Src H1 s := x.sr s rfl q
theorem Ext.same (x : Same H H1) (fr : ∀ b, H1 b = none → H b = none) : Ext T so H H1 := ⟨fun b o _ _ h => x b o h, fun h => h.ext x, fun b _ ⟨i, j, h, r⟩ => ⟨i, j, x b _ h, r⟩, fr⟩
theorem new_ne {b : Addr} (n : H b = none) {o : HO} (h : H a = some o) : a ≠ b := ne_of_none h n
end
/-! ### three comparisons in a row -/
def tChain3 (r r' r'' : R2) (ta tb tc td : TE) : TE := fun σ H Q => ta σ H fun x H1 => tb σ H1 fun y H2 => r x y H2 fun z H3 => ∃ k, z = .bl k ∧
  (if k = true then tc σ H3 fun w H4 => r' y w H4 fun z' H5 => ∃ k', z' = .bl k' ∧ (if k' = true then td σ H5 fun u H6 => r'' w u H6 Q else Q (.bl false) H5) else Q (.bl false) H3)
theorem pe_chain3 {X : Cx} {a b c d : Expr} {ta tb tc td : TE} {pos : Pos} {op op' op'' : CmpOp} {r r' r'' : R2} (ho : OpR X (compareOp op) r) (ho' : OpR X (compareOp op') r') (ho'' : OpR X (compareOp op'') r'') (ha : PE X a ta) (hb : PE X b tb) (hc : PE X c tc) (hd : PE X d td)
    (hm : lastMarks [op, op', op''] [b, c, d] = false := by with_unfolding_all rfl) : PE X (.Compare a [op, op', op''] [b, c, d] pos) (tChain3 r r' r'' ta tb tc td) := by
  refine ⟨fun pins s σ H Q I h => ?_⟩
  refine Compare_chain (thn (ha.run pins s σ H _ I h) fun v s1 ⟨x, H1, I1, r1, q1⟩ => chain_link (thn (hb.run pins s1 σ H1 _ I1 q1) fun u s2 ⟨y, H2, I2, r2, q2⟩ =>
    thn (ho pins s2 σ H2 x y v u _ I2 r1 r2 q2) fun d s3 ⟨z, H3, I3, r3, k, e, q3⟩ => ?_)) hm
  subst e
  cases r3
  refine wpAny_truthy_bool ?_
  cases k with
  | false => exact ite_ff ⟨.bl false, H3, I3, rfl, q3⟩
  | true =>
    refine ite_tt (chain_link (thn (hc.run pins s3 σ H3 _ I3 q3) fun w' s4 ⟨z', H4, I4, r4, q4⟩ => thn (ho' pins s4 σ H4 y z' u w' _ I4 r2 r4 q4) fun d2 s5 ⟨z2, H5, I5, r5, k2, e2, q5⟩ => ?_))
    subst e2
    cases r5
    refine wpAny_truthy_bool ?_
    cases k2 with
    | false => exact ite_ff ⟨.bl false, H5, I5, rfl, q5⟩
    | true => exact ite_tt (chain_last (thn (hd.run pins s5 σ H5 _ I5 q5) fun w2 s6 ⟨z3, H6, I6, r6, q6⟩ => ho'' pins s6 σ H6 z' z3 w' w2 Q I6 r4 r6 q6))
/-! ### where a def of the text stands -/
structure DefAt (K : PySem.W.Frag) (mg : Str → Option Value) (x qual : Str) (st : Stmt) (ps : List Str) (f : Addr) (fd : FuncData) : Prop where
  fn : Fun K x qual st f fd
  bd : L2.Binds K fd ps []
theorem iteB {c : Bool} {A B : Prop} (h1 : c = true → A) (h2 : c = false → B) : if c = true then A else B := by
  cases c with
  | true => exact iteT (h1 rfl)
  | false => exact iteF (h2 rfl)
end R
end

-- Text
section
set_option Elab.async false
set_option linter.all false
set_option maxRecDepth 100000
set_option maxHeartbeats 4000000
/-! Text: the program's text by places, what its top leaves. -/
namespace R
open PySem PySem.Spec PyProof.Rows L2 LamX NdefX LamP
/-! ### the text by places -/
def top (i : Nat) : Stmt := PySem.Challenge.pw_pairfloors_k52_floors_of_one_odd_set.main.body.getD i (.Pass ⟨0, 0, 0, 0⟩)
abbrev s_Refused_init : Stmt := inClass (top 1) 0
abbrev s_check_count : Stmt := top 5
abbrev s_check_coats : Stmt := top 10
abbrev s_odd_lot : Stmt := top 12
abbrev s_Lpool : Stmt := top 14
abbrev s_Ltake : Stmt := top 15
abbrev s_Lone : Stmt := top 16
abbrev s_Lbeyond : Stmt := top 17
abbrev s_Lbits : Stmt := top 18
abbrev s_Ltable : Stmt := top 19
abbrev s_Lmembers : Stmt := top 20
abbrev s_Lrefused : Stmt := top 21
abbrev s_law : Stmt := top 22
abbrev N_Refused_init : List Str := ["self", "what"]
theorem sc_Refused_init : FnScope N_Refused_init ["self", "what"] (defScope s_Refused_init) := ⟨rfl, rfl, rfl, by decide +kernel, rfl, by decide +kernel, by decide +kernel⟩
abbrev N_check_count : List Str := ["number", "least", "most"]
theorem sc_check_count : FnScope N_check_count ["number", "least", "most"] (defScope s_check_count) := ⟨rfl, rfl, rfl, by decide +kernel, rfl, by decide +kernel, by decide +kernel⟩
abbrev N_check_coats : List Str := ["coats"]
theorem sc_check_coats : FnScope N_check_coats ["coats"] (defScope s_check_coats) := ⟨rfl, rfl, rfl, by decide +kernel, rfl, by decide +kernel, by decide +kernel⟩
abbrev N_odd_lot : List Str := ["n", "coats", "many", "row", "_", "wide", "r"]
theorem sc_odd_lot : FnScope N_odd_lot ["n", "coats", "many"] (defScope s_odd_lot) := ⟨rfl, rfl, rfl, by decide +kernel, rfl, by decide +kernel, by decide +kernel⟩
abbrev N_Lpool : List Str := ["_law_script", "_law_k", "_law_cell", "_law_big", "_law_mixed"]
theorem sc_Lpool : FnScope N_Lpool ["_law_script", "_law_k"] (defScope s_Lpool) := ⟨rfl, rfl, rfl, by decide +kernel, rfl, by decide +kernel, by decide +kernel⟩
abbrev N_Ltake : List Str := ["_law_source", "_law_top", "_law_drawn"]
theorem sc_Ltake : FnScope N_Ltake ["_law_source", "_law_top"] (defScope s_Ltake) := ⟨rfl, rfl, rfl, by decide +kernel, rfl, by decide +kernel, by decide +kernel⟩
abbrev N_Lone : List Str := ["_law_source", "_law_things"]
theorem sc_Lone : FnScope N_Lone ["_law_source", "_law_things"] (defScope s_Lone) := ⟨rfl, rfl, rfl, by decide +kernel, rfl, by decide +kernel, by decide +kernel⟩
abbrev N_Lbeyond : List Str := ["_law_source", "_law_least", "_law_most", "_law_far"]
theorem sc_Lbeyond : FnScope N_Lbeyond ["_law_source", "_law_least", "_law_most"] (defScope s_Lbeyond) := ⟨rfl, rfl, rfl, by decide +kernel, rfl, by decide +kernel, by decide +kernel⟩
abbrev N_Lbits : List Str := ["_law_shades", "_law_bits_here", "_law_turn"]
theorem sc_Lbits : FnScope N_Lbits ["_law_shades"] (defScope s_Lbits) := ⟨rfl, rfl, rfl, by decide +kernel, rfl, by decide +kernel, by decide +kernel⟩
abbrev N_Ltable : List Str := ["_law_cells", "_law_bits_here", "_law_table_here", "_law_turn", "_law_mark", "_law_bit"]
theorem sc_Ltable : FnScope N_Ltable ["_law_cells", "_law_bits_here"] (defScope s_Ltable) := ⟨rfl, rfl, rfl, by decide +kernel, rfl, by decide +kernel, by decide +kernel⟩
abbrev N_Lmembers : List Str := ["_law_mark", "_law_bits_here", "_law_bit"]
theorem sc_Lmembers : FnScope N_Lmembers ["_law_mark", "_law_bits_here"] (defScope s_Lmembers) := ⟨rfl, rfl, rfl, by decide +kernel, rfl, by decide +kernel, by decide +kernel⟩
abbrev N_Lrefused : List Str := ["_law_cells", "_law_shades", "_law_members_here", "e"]
theorem sc_Lrefused : FnScope N_Lrefused ["_law_cells", "_law_shades", "_law_members_here"] (defScope s_Lrefused) := ⟨rfl, rfl, rfl, by decide +kernel, rfl, by decide +kernel, by decide +kernel⟩
abbrev N_law : List Str := ["_law_script", "_law_source", "_law_shades", "_law_cells", "_law_bits_here", "_law_table_here", "_law_told", "_law_number", "_law_mark", "_law_whole", "_law_turn", "_law_bad", "_law_shade", "_law_odd", "_law_members_here"]
theorem sc_law : FnScope N_law ["_law_script"] (defScope s_law) := ⟨rfl, rfl, rfl, by decide +kernel, rfl, by decide +kernel, by decide +kernel⟩
/-! ### what the top leaves -/
structure FunC (K : PySem.W.Frag) (x qual : Str) (st : Stmt) (f : Addr) (fd : FuncData) (c : Addr) : Prop where
  ex : ∃ (oc : Value) (od : Option Addr) (kV doc pm : Value) (an : Option Addr) (ct : Value) (osl : Array (Option Value)), fd = PySem.W.fnOf x qual (defArgs st) (defBody st) (defScope st) .none kV doc pm an (.ref c) ct ∧ K.lookup f = some ⟨oc, od, .func fd, osl⟩ ∧ PySem.W.codeIn K (.ref c) qual = true
structure ErrC (K : PySem.W.Frag) (mg : Str → Option Value) (x : Str) (fI C : Addr) : Prop where
  gC : mg x = some (.ref C)
  ox : OexC K C
  xf : XfC K C
  iC : PySem.W.findIn K (.ref C) "__init__" = some (some (.ref fI))
  nw : PySem.W.findIn K (.ref C) "what" = some none
structure Txt (K : PySem.W.Frag) (mg : Str → Option Value) : Type where
  a_Refused_init : Addr
  d_Refused_init : FuncData
  F_Refused_init : Fun K "__init__" "Refused.__init__" s_Refused_init a_Refused_init d_Refused_init
  b_Refused_init : L2.Binds K d_Refused_init ["self", "what"] []
  a_check_count : Addr
  d_check_count : FuncData
  F_check_count : Fun K "check_count" "check_count" s_check_count a_check_count d_check_count
  b_check_count : L2.Binds K d_check_count ["number", "least", "most"] []
  g_check_count : mg "check_count" = some (.ref a_check_count)
  a_check_coats : Addr
  d_check_coats : FuncData
  F_check_coats : Fun K "check_coats" "check_coats" s_check_coats a_check_coats d_check_coats
  b_check_coats : L2.Binds K d_check_coats ["coats"] []
  g_check_coats : mg "check_coats" = some (.ref a_check_coats)
  a_odd_lot : Addr
  d_odd_lot : FuncData
  F_odd_lot : Fun K "odd_lot" "odd_lot" s_odd_lot a_odd_lot d_odd_lot
  b_odd_lot : L2.Binds K d_odd_lot ["n", "coats", "many"] []
  g_odd_lot : mg "odd_lot" = some (.ref a_odd_lot)
  a_Lpool : Addr
  d_Lpool : FuncData
  F_Lpool : Fun K "_law_pool" "_law_pool" s_Lpool a_Lpool d_Lpool
  b_Lpool : L2.Binds K d_Lpool ["_law_script", "_law_k"] []
  g_Lpool : mg "_law_pool" = some (.ref a_Lpool)
  a_Ltake : Addr
  d_Ltake : FuncData
  F_Ltake : Fun K "_law_take" "_law_take" s_Ltake a_Ltake d_Ltake
  b_Ltake : L2.Binds K d_Ltake ["_law_source", "_law_top"] []
  g_Ltake : mg "_law_take" = some (.ref a_Ltake)
  a_Lone : Addr
  d_Lone : FuncData
  F_Lone : Fun K "_law_one" "_law_one" s_Lone a_Lone d_Lone
  b_Lone : L2.Binds K d_Lone ["_law_source", "_law_things"] []
  g_Lone : mg "_law_one" = some (.ref a_Lone)
  a_Lbeyond : Addr
  d_Lbeyond : FuncData
  F_Lbeyond : Fun K "_law_beyond" "_law_beyond" s_Lbeyond a_Lbeyond d_Lbeyond
  b_Lbeyond : L2.Binds K d_Lbeyond ["_law_source", "_law_least", "_law_most"] []
  g_Lbeyond : mg "_law_beyond" = some (.ref a_Lbeyond)
  a_Lbits : Addr
  d_Lbits : FuncData
  F_Lbits : Fun K "_law_bits" "_law_bits" s_Lbits a_Lbits d_Lbits
  b_Lbits : L2.Binds K d_Lbits ["_law_shades"] []
  g_Lbits : mg "_law_bits" = some (.ref a_Lbits)
  a_Ltable : Addr
  d_Ltable : FuncData
  F_Ltable : Fun K "_law_table" "_law_table" s_Ltable a_Ltable d_Ltable
  b_Ltable : L2.Binds K d_Ltable ["_law_cells", "_law_bits_here"] []
  g_Ltable : mg "_law_table" = some (.ref a_Ltable)
  a_Lmembers : Addr
  d_Lmembers : FuncData
  F_Lmembers : Fun K "_law_members" "_law_members" s_Lmembers a_Lmembers d_Lmembers
  b_Lmembers : L2.Binds K d_Lmembers ["_law_mark", "_law_bits_here"] []
  g_Lmembers : mg "_law_members" = some (.ref a_Lmembers)
  a_Lrefused : Addr
  d_Lrefused : FuncData
  F_Lrefused : Fun K "_law_refused" "_law_refused" s_Lrefused a_Lrefused d_Lrefused
  b_Lrefused : L2.Binds K d_Lrefused ["_law_cells", "_law_shades", "_law_members_here"] []
  g_Lrefused : mg "_law_refused" = some (.ref a_Lrefused)
  a_law : Addr
  d_law : FuncData
  F_law : Fun K "law" "law" s_law a_law d_law
  b_law : L2.Binds K d_law ["_law_script"] []
  g_law : mg "law" = some (.ref a_law)
  C_Refused : Addr
  e_Refused : ErrC K mg "Refused" a_Refused_init C_Refused
  C_BadCount : Addr
  e_BadCount : ErrC K mg "BadCount" a_Refused_init C_BadCount
  C_BadAnswer : Addr
  e_BadAnswer : ErrC K mg "BadAnswer" a_Refused_init C_BadAnswer
  tI : PySem.W.typeIn K (.ref a_Refused_init) = some (.type "function")
  x_Refused_Refused : PySem.W.exmOne K (.ref C_Refused) (.ref C_Refused) = some true
  x_Refused_BadCount : PySem.W.exmOne K (.ref C_Refused) (.ref C_BadCount) = some false
  x_Refused_BadAnswer : PySem.W.exmOne K (.ref C_Refused) (.ref C_BadAnswer) = some false
  x_BadCount_Refused : PySem.W.exmOne K (.ref C_BadCount) (.ref C_Refused) = some true
  x_BadCount_BadCount : PySem.W.exmOne K (.ref C_BadCount) (.ref C_BadCount) = some true
  x_BadCount_BadAnswer : PySem.W.exmOne K (.ref C_BadCount) (.ref C_BadAnswer) = some false
  x_BadAnswer_Refused : PySem.W.exmOne K (.ref C_BadAnswer) (.ref C_Refused) = some true
  x_BadAnswer_BadCount : PySem.W.exmOne K (.ref C_BadAnswer) (.ref C_BadCount) = some false
  x_BadAnswer_BadAnswer : PySem.W.exmOne K (.ref C_BadAnswer) (.ref C_BadAnswer) = some true
  t_MOST_CELLS : Tok
  c_MOST_CELLS : mg "MOST_CELLS" = some (.int 40 t_MOST_CELLS)
  t_LEAST_COATS : Tok
  c_LEAST_COATS : mg "LEAST_COATS" = some (.int 2 t_LEAST_COATS)
  t_MOST_COATS : Tok
  c_MOST_COATS : mg "MOST_COATS" = some (.int 6 t_MOST_COATS)
  n_bool : mg "bool" = none
  n_int : mg "int" = none
  n_isinstance : mg "isinstance" = none
  n_len : mg "len" = none
  n_max : mg "max" = none
  n_range : mg "range" = none
  n_sum : mg "sum" = none
end R
end

-- Draw
section
set_option Elab.async false
set_option linter.all false
set_option maxRecDepth 100000
set_option maxHeartbeats 4000000
set_option exponentiation.threshold 100
/-! Draw: the laws' own draws over any text that has them. -/
namespace R
open PySem PySem.Spec PyProof.Rows L2 LamX NdefX LamP
def Ret (T : List NTab) (H : Hp) (Q : VK) (P : V → Hp → Prop) : Prop := ∀ v H', Ext T none H H' → P v H' → Q v H'
def RetV (T : List NTab) (H : Hp) (Q : VK) (v : V) : Prop := ∀ H', Ext T none H H' → Q v H'
theorem seq_cut {t R : TS} {D : Ends} {σ : L2.St} {H : Hp} (J : L2.St → Hp → Prop) (h1 : ∀ R' : L2.St → Hp → Prop, (∀ σ' H', J σ' H' → R' σ' H') → t { D with nx := R' } σ H) (h2 : ∀ σ' H', J σ' H' → R D σ' H') : tSeq t R D σ H := h1 (R D) h2
theorem iteF' {c : Bool} {A B : Prop} (h : c = false) (k : B) : if c = true then A else B := by rw [h]; exact iteF k
theorem iteT' {c : Bool} {A B : Prop} (h : c = true) (k : A) : if c = true then A else B := by rw [h]; exact iteT k
theorem bits_lt {z : Int} (h : Builtin.Int.intBits z ≤ 1048576) : z.natAbs < 2 ^ 1048576 := by
  unfold Builtin.Int.intBits at h
  by_cases e : z = 0
  · subst e
    exact Nat.two_pow_pos _
  · rw [if_neg (by simpa using e)] at h
    exact Nat.lt_of_lt_of_le Nat.lt_log2_self (Nat.pow_le_pow_right (by decide) h)
theorem big_lt {c : Int} {v : Nat} (h : c.natAbs < 2 ^ 1048576) (hv : v ≤ c.natAbs) : v < 2 ^ BIG :=
  Nat.lt_of_le_of_lt hv (Nat.lt_of_lt_of_le h (Nat.pow_le_pow_right (by decide) (by unfold BIG; decide)))
section
variable {P : Program} {w : World} {K : PySem.W.Frag} {mg : Str → Option Value} {base : Heap}
theorem room65 {k : Nat} {A : Around} (r : Room k A) : A.units + 65 < cLine := by have := r.un; omega
/-- what a def that draws gives back: the source has moved on, nothing else has changed -/
def RetS (TT : List NTab) (so : Addr) (H : Hp) (Q : VK) (good : V → Hp → Prop) : Prop := ∀ v H', Ext TT (some so) H H' → Src H' so → good v H' → Q v H'
theorem Ext.srcSet {TT : List NTab} {so : Addr} {H H1 : Hp} {x y : Int} (x1 : Ext TT (some so) H H1) (s1 : Src H1 so) (hx : 0 ≤ x ∧ x.natAbs < 2 ^ BIG) (hy : 0 ≤ y ∧ y < 2147483647) :
    Ext TT (some so) H (upd H1 so (.lst [.int x, .int y])) ∧ Src (upd H1 so (.lst [.int x, .int y])) so := by
  obtain ⟨a, b, h, _⟩ := s1
  have me : Src (upd H1 so (.lst [.int x, .int y])) so := ⟨x, y, upd_same, hx.1, hx.2, hy.1, hy.2⟩
  refine ⟨⟨fun c o ne nt e => ?_, fun t => ?_, fun c e _ => ?_, fun c e => x1.fr c (upd_none' e)⟩, me⟩
  · rw [upd_ne (fun z => ne (by rw [z]))]
    exact x1.kp c o ne nt e
  · have q := x1.tb t
    intro p hp
    obtain ⟨ps, a1, a2, a3⟩ := q p hp
    refine ⟨ps, (upd_ne (ne_of a1 h (Ne.symm (lst_nt ps)))).trans a1, a2, fun pos cv hc => ?_⟩
    obtain ⟨d, e1, e2⟩ := a3 pos cv hc
    exact ⟨d, e1, (upd_ne (ne_of e2 h (Ne.symm (lst_nc d _)))).trans e2⟩
  · cases e
    exact me
/-- a source that the beginning does not know is forgotten -/
theorem Ext.dropS {TT : List NTab} {so : Addr} {H H1 H2 : Hp} (x : Ext TT none H H1) (n : H so = none) (y : Ext TT (some so) H1 H2) : Ext TT none H H2 :=
  ⟨fun b o _ nt e => y.kp b o (fun z => by cases z; rw [n] at e; cases e) nt (x.kp b o (fun z => nomatch z) nt e), fun t => y.tb (x.tb t), fun _ e => (nomatch e), fun b e => x.fr b (y.fr b e)⟩
theorem SqL.ext {TT : List NTab} {H H1 : Hp} {a : Addr} {xs : List V} (h : SqL K H a xs) (x : Ext TT none H H1) : SqL K H1 a xs := by
  rcases h with (h | ⟨o, h⟩) | h
  · exact .inl (.inl (x.lst h))
  · exact .inl (.inr ⟨o, x.kp a _ (fun z => nomatch z) frz_nt h⟩)
  · exact .inr h
/-- a new object: what is kept, and where it stands -/
theorem newX {TT : List NTab} {H H1 : Hp} {p : Addr} {o : HO} {so : Option Addr} (x : Ext TT so H H1) (n : H1 p = none) : Ext TT so H (upd H1 p o) ∧ upd H1 p o p = some o := ⟨x.trans (Ext.new n), upd_same⟩
def spTake (TT : List NTab) : Sp := fun vs H Q _ => ∃ (so : Addr) (n : Int), vs = [.ref so, .int n] ∧ Src H so ∧ 0 < n ∧ n < 2 ^ 62 ∧ RetS TT so H Q fun v _ => ∃ m : Int, v = .int m ∧ 0 ≤ m ∧ m < n
theorem ok_take (T : Txt K mg) (TT : List NTab) : FnOk P w K mg base CX0 1 T.a_Ltake T.d_Ltake ["_law_source", "_law_top"] (spTake TT) := by
  refine T.F_Ltake.ok sc_Ltake (fun vs H Q E h => ?_) (fun cdv A outer s H vs Q E hr h => ?_)
  · obtain ⟨so, n, rfl, _⟩ := h
    rfl
  · obtain ⟨so, n, rfl, hs, hn, hn2, k⟩ := h
    have nd := sc_Ltake.nd
    refine ⟨_, pss_cons (ps_if (pt_cmpR op_gt (pe_ix ix_list (pv 0) pe_int (fun _ _ => rfl)) pe_int (nomark _))
        (pss_cons (ps_set (i := 2) nd rfl (Or.inl rfl) (pe_op op_mod (pe_callTy call_int1 (by rfl) T.n_int (by decide +kernel) (pa_cons (pe_ix ix_list (pv 0) pe_int (fun _ _ => rfl)) pa_nil)) (pv 1)))
        (pss_cons (ps_asg (pe_op op_fdivW (pe_ix ix_list (pv 0) pe_int (fun _ _ => rfl)) (pv 1)) (pg_sub (pv 0) pe_int set_list))
        (pss_one (ps_ret (pv 2))))) pss_nil)
      (pss_cons (ps_asg (pe_op op_mod (pe_callTy call_int1 (by rfl) T.n_int (by decide +kernel) (pa_cons (pe_op op_add (pe_op op_mul (pe_ix ix_list (pv 0) pe_int (fun _ _ => rfl)) pe_int) pe_int) pa_nil)) pe_int) (pg_sub (pv 0) pe_int set_list))
      (pss_one (ps_ret (pe_op op_mod (pe_callTy call_int1 (by rfl) T.n_int (by decide +kernel) (pa_cons (pe_op op_fdiv (pe_op op_mod (pe_callTy call_int1 (by rfl) T.n_int (by decide +kernel) (pa_cons (pe_op op_mulW (pe_ix ix_list (pv 0) pe_int (fun _ _ => rfl)) (pe_ix ix_list (pv 0) pe_int (fun _ _ => rfl))) pa_nil)) pe_int) pe_int) pa_nil)) (pv 1))))), ?_⟩
    have hs0 := hs
    obtain ⟨x, y, h, hx0, hxB, hy0, hyB⟩ := hs
    have n30 : n.natAbs < 2 ^ 62 := by omega
    refine ⟨_, rfl, so, _, 0, _, rfl, rfl, SqL.of h, rfl, _, _, rfl, rfl, _, rfl, ?_⟩
    refine iteB (fun h0 => ?_) (fun h0 => ?_)
    · have hx : 0 < x := of_decide_eq_true h0
      refine ⟨_, rfl, so, _, 0, _, rfl, rfl, SqL.of h, rfl, .inl ⟨_, rfl, _, rfl, _, _, rfl, rfl, hn, ?_⟩⟩
      refine ⟨_, rfl, so, _, 0, _, rfl, rfl, SqL.of h, rfl, _, rfl, _, _, rfl, rfl, wide_div hn n30 (by omega) (by omega), ?_⟩
      refine ⟨_, rfl, so, _, 0, 0, rfl, rfl, h, rfl, ?_⟩
      have d0 : 0 ≤ x / n := Int.ediv_nonneg hx0 (by omega)
      have d1 : x / n ≤ x := Int.ediv_le_self n hx0
      obtain ⟨e1, e2⟩ := (Ext.refl TT (some so) H).srcSet (x := x / n) (y := y) hs0 ⟨d0, wide_le d0 d1 hxB⟩ ⟨hy0, hyB⟩
      exact ⟨_, rfl, k _ _ e1 e2 ⟨_, rfl, Int.emod_nonneg _ (by omega), Int.emod_lt_of_pos _ hn⟩⟩
    · refine ⟨_, rfl, so, _, 1, _, rfl, rfl, SqL.of h, rfl, _, _, rfl, rfl, .inr (by omega), _, _, rfl, rfl, .inl ⟨_, rfl, _, _, rfl, rfl, by omega, ?_⟩⟩
      refine ⟨_, rfl, so, _, 1, 1, rfl, rfl, h, rfl, ?_⟩
      have m0 : 0 ≤ (y * 39373 + 7) % 2147483647 := Int.emod_nonneg _ (by omega)
      have m1 : (y * 39373 + 7) % 2147483647 < 2147483647 := Int.emod_lt_of_pos _ (by omega)
      obtain ⟨e1, e2⟩ := (Ext.refl TT (some so) H).srcSet (x := x) (y := (y * 39373 + 7) % 2147483647) hs0 ⟨hx0, hxB⟩ ⟨m0, m1⟩
      dsimp only [List.set]
      generalize (y * 39373 + 7) % 2147483647 = z at m0 m1 e1 e2 ⊢
      have zb : z.natAbs < 2 ^ 31 := by omega
      refine ⟨_, rfl, so, _, 1, _, rfl, rfl, SqL.of upd_same, rfl, _, rfl, so, _, 1, _, rfl, rfl, SqL.of upd_same, rfl, _, _, rfl, rfl, wide_mul (a := 31) (b := 31) zb zb (by decide) (by decide) (by decide), .inl ⟨_, rfl, _, _, rfl, rfl, by omega, ?_⟩⟩
      have q0 : 0 ≤ z * z % 2147483629 := Int.emod_nonneg _ (by omega)
      have q1 : z * z % 2147483629 < 2147483629 := Int.emod_lt_of_pos _ (by omega)
      refine ⟨_, _, rfl, rfl, ⟨by decide, by decide⟩, .inl ⟨_, rfl, _, rfl, _, _, rfl, rfl, hn, ?_⟩⟩
      exact k _ _ e1 e2 ⟨_, rfl, Int.emod_nonneg _ (by omega), Int.emod_lt_of_pos _ hn⟩
def spOne (TT : List NTab) : Sp := fun vs H Q _ => ∃ (so l : Addr) (xs : List V), vs = [.ref so, .ref l] ∧ Src H so ∧ H l = some (.lst xs) ∧ l ≠ so ∧ 0 < xs.length ∧ xs.length < 1000 ∧ RetS TT so H Q fun v _ => v ∈ xs
theorem atI_in {α : Type} {xs : List α} {m : Int} (h0 : 0 ≤ m) (h : m < xs.length) : ∃ v, atI xs m = some v ∧ v ∈ xs := by
  obtain ⟨k, rfl⟩ : ∃ k : Nat, m = (k : Int) := ⟨m.toNat, by omega⟩
  have hk : k < xs.length := by omega
  exact ⟨xs[k], atI_nat (List.getElem?_eq_getElem hk), List.getElem_mem hk⟩
theorem ok_one (T : Txt K mg) (TT : List NTab) : FnOk P w K mg base CX0 2 T.a_Lone T.d_Lone ["_law_source", "_law_things"] (spOne TT) := by
  refine T.F_Lone.ok sc_Lone (fun vs H Q E h => ?_) (fun cdv A outer s H vs Q E hr h => ?_)
  · obtain ⟨so, l, xs, rfl, _⟩ := h
    rfl
  · obtain ⟨so, l, xs, rfl, hs, hl, ne, h0, h1, k⟩ := h
    refine ⟨_, pss_one (ps_ret (pe_ix ix_list (pv 1) (pe_call (ok_take T TT) (hr.mono (by decide)) rfl T.g_Ltake T.F_Ltake.kp T.b_Ltake .nil pass0 (pa_cons (pv 0) (pa_cons (pe_callB call_len_seq (by rfl) T.n_len PySem.boot_len (pa_cons (pv 1) pa_nil)) pa_nil))) (fun _ _ => rfl))), ?_⟩
    refine ⟨_, rfl, _, rfl, _, rfl, l, _, rfl, .inl (SqL.of hl), so, _, rfl, hs, by omega, by omega, fun v H1 x1 s1 hv => ?_⟩
    obtain ⟨m, rfl, m0, m1⟩ := hv
    obtain ⟨v, hv, hm⟩ := atI_in m0 m1
    exact ⟨l, _, m, v, rfl, rfl, SqL.of (x1.lstS ne hl), hv, k _ _ x1 s1 hm⟩
theorem src_ne {H : Hp} {so l : Addr} (q : Src H so) (n : H l = none) : l ≠ so := fun z => by
  obtain ⟨_, _, e, _⟩ := q
  rw [← z, n] at e
  cases e
def spPool (K : PySem.W.Frag) (TT : List NTab) : Sp := fun vs H Q _ => ∃ (l : Addr) (ns : List Int) (k : Int), vs = [.ref l, .int k] ∧ 0 ≤ k ∧ k < 1000 ∧ SqL K H l (ns.map V.int) ∧ (∀ z ∈ ns, Builtin.Int.intBits z ≤ 1048576) ∧ Ret TT H Q fun v H' => ∃ so, v = .ref so ∧ Src H' so ∧ H so = none
theorem ok_pool (T : Txt K mg) (TT : List NTab) : FnOk P w K mg base CX0 1 T.a_Lpool T.d_Lpool ["_law_script", "_law_k"] (spPool K TT) := by
  refine T.F_Lpool.ok sc_Lpool (fun vs H Q E h => ?_) (fun cdv A outer s H vs Q E hr h => ?_)
  · obtain ⟨l, ns, k, rfl, _⟩ := h
    rfl
  · obtain ⟨l, ns, k, rfl, k0, k1, hl, hb, q⟩ := h
    have nd := sc_Lpool.nd
    refine ⟨_, pss_cons (ps_set (i := 2) nd rfl (Or.inl rfl) pe_int)
      (pss_cons (ps_if (pt_cmpR op_lt (pv 1) (pe_callB call_len_seq (by rfl) T.n_len PySem.boot_len (pa_cons (pv 0) pa_nil)) (nomark _)) (pss_one (ps_set (i := 2) nd rfl (Or.inl rfl) (pe_ix ix_list (pv 0) (pv 1) (fun _ _ => rfl))))
        (pss_one (ps_if (pt_truth (pv 0) (by intro _; rfl)) (pss_one (ps_set (i := 2) nd rfl (Or.inl rfl) (pe_ix ix_list (pv 0) pe_int (fun _ _ => rfl)))) pss_nil)))
      (pss_cons (ps_set (i := 3) nd rfl (Or.inl rfl) (pe_callB (call_max2 rfl) (by rfl) T.n_max (by decide +kernel) (pa_cons (pe_callTy call_int1 (by rfl) T.n_int (by decide +kernel) (pa_cons (pv 2) pa_nil)) (pa_cons (pe_callTy call_int1 (by rfl) T.n_int (by decide +kernel) (pa_cons (pe_op op_sub (pe_un un_neg pe_int) (pv 2)) pa_nil)) pa_nil))))
      (pss_cons (ps_set (i := 4) nd rfl (Or.inl rfl) (pe_op op_mod (pe_callTy call_int1 (by rfl) T.n_int (by decide +kernel) (pa_cons (pe_op op_mul (pe_op op_add (pe_op op_add (pe_op op_add (pe_op op_mod (pe_callTy call_int1 (by rfl) T.n_int (by decide +kernel) (pa_cons (pv 3) pa_nil)) pe_int)
          (pe_op op_mul (pe_op op_mul pe_int (pv 1)) (pv 1))) (pe_op op_mul pe_int (pv 1))) pe_int) pe_int) pa_nil)) pe_int))
      (pss_one (ps_ret (pe_lst (pa_cons (pe_op op_mul (pv 3) (pe_callTy call_int1 (by rfl) T.n_int (by decide +kernel) (pa_cons (pe_cmpR op_ge (pv 3) (pe_op op_pow pe_int pe_int) (nomark _)) pa_nil))) (pa_cons (pv 4) pa_nil)))))))), ?_⟩
    dsimp only
    refine seq_cut (fun σ H' => H = H' ∧ σ = [some (.ref l), some (.int k), some (.int 0), none, none]) (fun R join => join _ _ ⟨rfl, rfl⟩) ?_
    rintro σ _ ⟨rfl, rfl⟩
    refine seq_cut (fun σ H' => H = H' ∧ ∃ c : Int, c.natAbs < 2 ^ 1048576 ∧ σ = [some (.ref l), some (.int k), some (.int c), none, none]) (fun R join => ?_) ?_
    · refine ⟨_, rfl, _, rfl, l, _, rfl, .inl hl, _, _, rfl, rfl, _, rfl, ?_⟩
      refine iteB (fun h => ?_) (fun h => ?_)
      · have h0 : k < ((ns.map V.int).length : Nat) := of_decide_eq_true h
        rw [List.length_map] at h0
        obtain ⟨j, rfl⟩ : ∃ j : Nat, k = (j : Int) := ⟨k.toNat, by omega⟩
        have hj : j < ns.length := by omega
        refine ⟨_, rfl, _, rfl, l, _, _, .int ns[j], rfl, rfl, hl, atI_nat (by rw [List.getElem?_map, List.getElem?_eq_getElem hj]; rfl), ?_⟩
        exact join _ _ ⟨rfl, _, bits_lt (hb _ (List.getElem_mem hj)), rfl⟩
      · refine ⟨_, rfl, _, .inl ⟨_, hl, rfl⟩, ?_⟩
        cases ns with
        | nil => exact iteF' rfl (join _ _ ⟨rfl, 0, Nat.two_pow_pos _, rfl⟩)
        | cons c r =>
          refine iteT' rfl ⟨_, rfl, l, _, 0, .int c, rfl, rfl, hl, atI_nat (j := 0) rfl, ?_⟩
          exact join _ _ ⟨rfl, _, bits_lt (hb _ List.mem_cons_self), rfl⟩
    · rintro σ _ ⟨rfl, c, hcb, rfl⟩
      obtain ⟨B, hB⟩ : ∃ B : Int, B = (if (-1 - c) > c then (-1 - c) else c) := ⟨_, rfl⟩
      have B0 : 0 ≤ B := by rw [hB]; split <;> omega
      have B1 : B.natAbs ≤ (c).natAbs := by rw [hB]; split <;> omega
      have BB := big_lt hcb B1
      have kk : 0 ≤ 7919 * k ∧ 7919 * k < 2 ^ 62 := by omega
      refine ⟨_, rfl, .inl ⟨_, rfl, _, rfl, _, rfl, _, _, rfl, rfl, .inl ⟨_, rfl, c, -1 - c, rfl, ?_⟩⟩⟩
      rw [← hB]
      refine ⟨_, rfl, .inl ⟨_, rfl, _, _, rfl, rfl, (by show (0 : Int) < 2147483629; decide), _, rfl, _, _, rfl, rfl, .inl ⟨by decide, by decide⟩, _, rfl, _, _, rfl, rfl, .inl ⟨by omega, by omega⟩, _, _, rfl, rfl, _, rfl, _, _, rfl, rfl, .inl ⟨by decide, by decide⟩, _, _, rfl, rfl, _, _, rfl, rfl, _, _, rfl, rfl, .inr ⟨by decide, by decide⟩, .inl ⟨_, rfl, _, _, rfl, rfl, (by show (0 : Int) < 2147483647; decide), ?_⟩⟩⟩
      refine ⟨_, rfl, _, rfl, _, _, rfl, rfl, ⟨by decide, by decide, by decide⟩, _, _, rfl, rfl, .inr ⟨_, rfl, _, _, rfl, rfl, .inr ?_, _, rfl, (by show 2 ≤ sizeLine; decide), fun so nso => ?_⟩⟩
      · split <;> exact ⟨by decide, by decide⟩
      · refine q _ _ (Ext.new nso) ⟨so, rfl, ⟨_, _, upd_same, ?_, ?_, Int.emod_nonneg _ (by decide), Int.emod_lt_of_pos _ (by decide)⟩, nso⟩
        · split
          · rw [Int.mul_one]; exact B0
          · rw [Int.mul_zero]; exact Int.le_refl _
        · split
          · rw [Int.mul_one]; exact BB
          · rw [Int.mul_zero]; exact Nat.two_pow_pos _
end
end R
end

-- Err
section
set_option Elab.async false
set_option linter.all false
set_option maxRecDepth 100000
set_option maxHeartbeats 4000000
namespace R
open PySem PySem.Spec PyProof.Rows L2 LamX NdefX LamP
/-! ### errors -/
def spErrInit (K : PySem.W.Frag) : Sp := fun vs H Q _ => ∃ (a C : Addr) (v : V), vs = [.ref a, v] ∧ OexC K C ∧ PySem.W.findIn K (.ref C) "what" = some none ∧ H a = some (exo a C none) ∧
  ∀ dx, H dx = none → dx ≠ a → Q .non (upd (upd H dx (exd dx [("what", v)])) a (exo a C (some dx)))
/-- an error of the class at C is wished, its what as P tells -/
def Rz (TT : List NTab) (E : XK) (H : Hp) (C : Addr) (P : V → Hp → Prop) : Prop := ∀ v d H', Ext TT none H H' → H' d = some (.xd [("what", v)]) → P v H' → E (.ref C) (some d) H'
theorem Rz.step {TT : List NTab} {E : XK} {H H1 : Hp} {C : Addr} {P : V → Hp → Prop} (h : Rz TT E H C P) (x : Ext TT none H H1) : Rz TT E H1 C P := fun v d H' y => h v d H' (x.trans y)
def tErr (C : Addr) (ta : TA) : L2.St → Hp → XK → Prop := fun σ H Q => ta σ H fun vs H1 => ∃ v, vs = [v] ∧ ∀ d, H1 d = none → Q (.ref C) (some d) (upd H1 d (.xd [("what", v)]))
section
variable {P : Program} {w : World} {K : PySem.W.Frag} {mg : Str → Option Value} {base : Heap}
theorem ok_err_init (T : Txt K mg) : FnOk P w K mg base CX0 1 T.a_Refused_init T.d_Refused_init ["self", "what"] (spErrInit K) := by
  refine T.F_Refused_init.ok sc_Refused_init (fun vs H Q E h => ?_) (fun cdv A outer s H vs Q E hr h => ?_)
  · obtain ⟨a, C, v, rfl, _⟩ := h
    rfl
  · obtain ⟨a, C, v, rfl, hC, hw, ha, k⟩ := h
    refine ⟨_, pss_one (ps_ost (pv 0) (pv 1)), ?_⟩
    exact ⟨_, rfl, _, rfl, a, C, rfl, hC, hw, .inl ⟨ha, k⟩⟩
theorem pa_mono {X : Cx} {es : List Expr} {ta : TA} (ha : PA X es ta) : PA X es (fun σ H Q2 => ∃ Q1 : List V → Hp → Prop, ta σ H Q1 ∧ ∀ vs H1, Q1 vs H1 → Q2 vs H1) := by
  refine ⟨fun pos pins s σ H Q I h => ?_⟩
  obtain ⟨Q1, h1, m⟩ := h
  exact wpAny_mono (ha.run pos pins s σ H Q1 I h1) (fun us s' ⟨vs, H', I', r, q⟩ => ⟨vs, H', I', r, m _ _ q⟩) fun _ _ x => x
theorem pmk_err {X : Cx} {x : Str} {C : Addr} {e : Expr} {ta : TA} {p pos : Pos} (T : Txt X.K X.mg) (hE : ErrC X.K X.mg x T.a_Refused_init C) (hr : Room 2 X.A) (hg : Gl X x) (ha : PA X [e] ta)
    (hdb : (x == ("__debug__" : Str)) = false := by decide) (he : starEach (e :: []) X.env = (false, eval e X.env) :: starEach [] X.env := by rfl) (hpl : (backTo pos (starEach [] X.env)).any (·.1) = false := by rfl) :
    PMk X (.Call (.Name x p) [e] [] pos) (tErr C ta) := by
  have q := pmk_oex (pos := pos) (p := p) hE.ox hE.iC T.tI (ok_err_init (P := X.prog) (w := X.w) (base := X.base) T) hr T.b_Refused_init .nil pass0 hg hE.gC (pa_mono ha) hdb he hpl
  intro pins s σ H Q I h
  refine q pins s σ H Q I ?_
  refine ⟨_, h, fun vs H1 hv => ?_⟩
  obtain ⟨v, rfl, k⟩ := hv
  refine ⟨(by show 1 ≤ 1000; decide), fun a na => ?_⟩
  refine ⟨a, C, v, rfl, hE.ox, hE.nw, upd_same, fun dx nd ne => ?_⟩
  have nd1 : H1 dx = none := by
    rw [upd_ne ne] at nd
    exact nd
  refine ⟨rfl, dx, [("what", v)], upd_same, by rw [upd_ne ne]; exact upd_same, nd1, ?_⟩
  have e1 : upd (del (upd (upd (upd H1 a (exo a C none)) dx (exd dx [("what", v)])) a (exo a C (some dx))) a) dx (.xd [("what", v)]) = upd H1 dx (.xd [("what", v)]) := by
    funext b
    by_cases hb : b = dx
    · rw [hb, upd_same, upd_same]
    · rw [upd_ne hb, upd_ne hb]
      by_cases hba : b = a
      · rw [hba, del_same, na]
      · rw [del_ne hba, upd_ne hba, upd_ne hb, upd_ne hba]
  rw [e1]
  exact k dx nd1
/-- a number is refused unless it lies within lo to hi -/
def spCheckCount (T : Txt K mg) (TT : List NTab) : Sp := fun vs H Q E => ∃ n lo hi : Int, vs = [.int n, .int lo, .int hi] ∧ ((lo ≤ n ∧ n ≤ hi) → Q .non H) ∧ (¬ (lo ≤ n ∧ n ≤ hi) → Rz TT E H T.C_BadCount fun v _ => v = .int n)
theorem ok_check_count (T : Txt K mg) (TT : List NTab) : FnOk P w K mg base (L2.CX P w) 3 T.a_check_count T.d_check_count ["number", "least", "most"] (spCheckCount T TT) := by
  refine T.F_check_count.okX sc_check_count (fun vs H Q E h => ?_) (fun cdv A outer s H vs Q E hr h => ?_)
  · obtain ⟨n, lo, hi, rfl, _⟩ := h
    rfl
  · obtain ⟨n, lo, hi, rfl, k1, k2⟩ := h
    refine ⟨_, pss_one (ps_if (pt_not (pt_chain op_le op_le (pv 1) (pv 0) (pv 2)))
      (pss_one (ps_raise rfl (takes_of rfl rfl rfl rfl) (pmk_err (C := T.C_BadCount) T T.e_BadCount hr rfl (pa_cons (pv 0) pa_nil)))) pss_nil), ?_⟩
    refine ⟨_, rfl, _, rfl, _, _, rfl, rfl, _, rfl, ?_⟩
    refine iteB (fun h => ?_) (fun h => ?_)
    · refine ⟨_, rfl, _, _, rfl, rfl, _, rfl, ?_⟩
      refine iteB (fun h2 => ?_) (fun h2 => ?_)
      · have h' : ¬ (lo ≤ n ∧ n ≤ hi) := fun z => by simp at h2; omega
        exact ⟨_, rfl, _, rfl, fun d nd => k2 h' _ _ _ (Ext.new nd) upd_same rfl⟩
      · have h' : lo ≤ n ∧ n ≤ hi := ⟨by simpa using h, by simpa using h2⟩
        exact k1 h'
    · refine ⟨_, rfl, ?_⟩
      refine iteT' rfl ?_
      have h' : ¬ (lo ≤ n ∧ n ≤ hi) := fun z => by simp at h; omega
      exact ⟨_, rfl, _, rfl, fun d nd => k2 h' _ _ _ (Ext.new nd) upd_same rfl⟩
def spCheckCoats (T : Txt K mg) (TT : List NTab) : Sp := fun vs H Q E => ∃ n : Int, vs = [.int n] ∧ ((2 ≤ n ∧ n ≤ 6) → Q .non H) ∧ (¬ (2 ≤ n ∧ n ≤ 6) → Rz TT E H T.C_BadCount fun v _ => v = .int n)
theorem ok_check_coats (T : Txt K mg) (TT : List NTab) : FnOk P w K mg base (L2.CX P w) 4 T.a_check_coats T.d_check_coats ["coats"] (spCheckCoats T TT) := by
  refine T.F_check_coats.okX sc_check_coats (fun vs H Q E h => ?_) (fun cdv A outer s H vs Q E hr h => ?_)
  · obtain ⟨n, rfl, _⟩ := h
    rfl
  · obtain ⟨n, rfl, k1, k2⟩ := h
    have px : Passes (L2.CX P w) (cxOf (L2.CX P w) P w K mg base N_check_coats "check_coats" (defScope s_check_coats) T.a_check_coats cdv A outer s H E) E := passes_call (takes_of rfl rfl rfl rfl) (fun _ _ _ _ h => h)
    refine ⟨_, pss_one (ps_expr (pe_call (ok_check_count T TT) hr rfl T.g_check_count T.F_check_count.kp T.b_check_count .nil px (pa_cons (pv 0) (pa_cons (pe_glob (v := .int 2) rfl T.c_LEAST_COATS ⟨_, rfl⟩) (pa_cons (pe_glob (v := .int 6) rfl T.c_MOST_COATS ⟨_, rfl⟩) pa_nil))))), ?_⟩
    exact ⟨_, rfl, n, 2, 6, rfl, k1, k2⟩
end
end R
end

-- Blk
section
set_option Elab.async false
set_option linter.all false
set_option maxRecDepth 100000
set_option maxHeartbeats 4000000
/-! Blk: rules that speak of the written part, with that part named: for the insides of comprehensions. -/
namespace BlkX
open PySem PySem.Spec PyProof.Rows L2
variable {X : Cx} (K : PySem.W.Frag)
theorem ixl (h : X.K = K := by rfl) : IxR X (rIxL K) := h ▸ ix_list
theorem ixt (h : X.K = K := by rfl) : IxR X (rIxT K) := h ▸ ix_tup
theorem csum (hc : X.calm = true := by rfl) (h : X.K = K := by rfl) : CallR X (.builtin "sum") (rSum K) := h ▸ cr_sum hc
theorem call (hc : X.calm = true := by rfl) (h : X.K = K := by rfl) : CallR X (.builtin "all") (rAll K) := h ▸ cr_all hc
theorem cany (hc : X.calm = true := by rfl) (h : X.K = K := by rfl) : CallR X (.builtin "any") (rAny K) := h ▸ cr_any hc
def rLen : List V → Hp → VK → Prop := fun xs H Q => ∃ p ys, xs = [.ref p] ∧ (SqL K H p ys ∨ SqT K H p ys) ∧ Q (.int ys.length) H
theorem clen (h : X.K = K := by rfl) : CallR X (.builtin "len") (rLen K) := by
  subst h
  exact call_len_seq
def rTupO : List V → Hp → VK → Prop := fun xs H Q => ∃ p ys, xs = [.ref p] ∧ ((SqL K H p ys ∧ ∀ l, H l = none → Q (.ref l) (upd H l (.tup ys))) ∨ (SqT K H p ys ∧ Q (.ref p) H))
theorem ctup (h : X.K = K := by rfl) : CallR X (.type "tuple") (rTupO K) := by
  subst h
  exact call_tuple_of
theorem pil {tg l : Expr} {tl : TE} (hl : PE X l tl) (h : X.K = K := by rfl) : PI X tg l (iList K tl) := h ▸ pi_list hl
theorem pit {tg l : Expr} {tl : TE} (hl : PE X l tl) (h : X.K = K := by rfl) : PI X tg l (iTup K tl) := h ▸ pi_tup hl
theorem sll (h : X.K = K := by rfl) : SlR X (rSlL K) := h ▸ sl_list
theorem slt (h : X.K = K := by rfl) : SlR X (rSlA K) := h ▸ sl_tupA
theorem catT (h : X.K = K := by rfl) : OpR X (binaryOp .Add) (rCatT K) := h ▸ op_catT
def tTru (ta : TE) : TT := fun σ H Q => ta σ H fun x H' => ∃ k, TruV K x H' k ∧ Q k H'
theorem ptru {a : Expr} {ta : TE} (ha : PE X a ta) (he : ∀ whole, isTrue a X.env whole = (do let v ← whole; standAt a.pos; holding [v] (truthy v)) := by intro _; rfl) (h : X.K = K := by rfl) : PT X a (tTru K ta) := h ▸ pt_truth ha he
end BlkX
end

-- OddLot
section
set_option Elab.async false
set_option linter.all false
set_option maxRecDepth 100000
set_option maxHeartbeats 4000000
namespace R
open PySem PySem.Spec PyProof.Rows L2 LamX NdefX LamP BlkX
/-! ### odd_lot, as the program makes it: a row of counts, one for each number of odd coats -/
def wideN (row : List Nat) : List Nat := 0 :: row ++ [0]
def olStep (c : Nat) (row : List Nat) : List Nat := (List.range (c + 1)).map fun r => r * (wideN row).getD r 0 + (c - r) * (wideN row).getD (r + 2) 0
def olRow (c : Nat) : Nat → List Nat
  | 0 => 1 :: List.replicate c 0
  | k + 1 => olStep c (olRow c k)
theorem olRow_len (c : Nat) : ∀ k, (olRow c k).length = c + 1
  | 0 => by simp [olRow]
  | k + 1 => by simp [olRow, olStep]
theorem wide_len (row : List Nat) : (wideN row).length = row.length + 2 := by simp [wideN]
def nV (n : Nat) : V := .int (n : Int)
theorem getD_at {α : Type} {xs : List α} {i : Nat} (d : α) (h : i < xs.length) : xs[i]? = some (xs.getD i d) := by
  rw [List.getElem?_eq_getElem h, List.getD_eq_getElem?_getD, List.getElem?_eq_getElem h] <;> rfl
theorem at_nV {xs : List Nat} {i : Nat} (h : i < xs.length) : atI (xs.map nV) (i : Int) = some (nV (xs.getD i 0)) := atI_nat (by rw [List.getElem?_map, getD_at 0 h] <;> rfl)
theorem rep_flat (c : Nat) : (List.replicate c [V.int 0]).flatten = List.replicate c (V.int 0) := by
  induction c with
  | zero => rfl
  | succ c ih => rw [List.replicate_succ, List.flatten_cons, ih, List.replicate_succ] <;> rfl
theorem row0 (c : Nat) : (olRow c 0).map nV = [V.int 1] ++ List.replicate c (V.int 0) := by
  show (1 :: List.replicate c 0).map nV = _
  rw [List.map_cons, List.map_replicate] <;> rfl
theorem wide_map (row : List Nat) : (wideN row).map nV = ([V.int 0] ++ row.map nV) ++ [V.int 0] := by
  show (0 :: row ++ [0]).map nV = _
  rw [List.map_append, List.map_cons] <;> rfl
theorem take_succ {α : Type} {xs : List α} {i : Nat} {x : α} (h : xs[i]? = some x) : xs.take i ++ [x] = xs.take (i + 1) := by
  rw [List.take_succ, h] <;> rfl
def Cells (n : Int) : Prop := 0 ≤ n ∧ n ≤ 40
def Cts (n : Int) : Prop := 2 ≤ n ∧ n ≤ 6
def Odds (c m : Int) : Prop := 0 ≤ m ∧ m ≤ c
/-- what odd_lot comes to -/
def olot (n c m : Int) : Int := ((olRow c.toNat n.toNat).getD m.toNat 0 : Nat)
section
variable {P : Program} {w : World} {K : PySem.W.Frag} {mg : Str → Option Value} {base : Heap}
def spOddLot (T : Txt K mg) (TT : List NTab) : Sp := fun vs H Q E => ∃ n c m : Int, vs = [.int n, .int c, .int m] ∧ (¬ Cells n → Rz TT E H T.C_BadCount fun v _ => v = .int n) ∧ (Cells n → ¬ Cts c → Rz TT E H T.C_BadCount fun v _ => v = .int c) ∧
  (Cells n → Cts c → ¬ Odds c m → Rz TT E H T.C_BadAnswer fun v _ => v = .int m) ∧ (Cells n → Cts c → Odds c m → RetV TT H Q (.int (olot n c m)))
theorem ok_odd_lot (T : Txt K mg) (TT : List NTab) : FnOk P w K mg base (L2.CX P w) 5 T.a_odd_lot T.d_odd_lot ["n", "coats", "many"] (spOddLot T TT) := by
  refine T.F_odd_lot.okX sc_odd_lot (fun vs H Q E h => ?_) (fun cdv A outer s H vs Q E hr h => ?_)
  · obtain ⟨n, c, m, rfl, _⟩ := h
    rfl
  · obtain ⟨n, c, m, rfl, k1, k2, k3, k4⟩ := h
    have nd := sc_odd_lot.nd
    have px : Passes (L2.CX P w) (cxOf (L2.CX P w) P w K mg base N_odd_lot "odd_lot" (defScope s_odd_lot) T.a_odd_lot cdv A outer s H E) E := passes_call (takes_of rfl rfl rfl rfl) (fun _ _ _ _ h => h)
    refine ⟨_, pss_cons (ps_expr (pe_call (ok_check_count T TT) (hr.mono (by decide)) rfl T.g_check_count T.F_check_count.kp T.b_check_count .nil px (pa_cons (pv 0) (pa_cons pe_int (pa_cons (pe_glob (v := .int 40) rfl T.c_MOST_CELLS ⟨_, rfl⟩) pa_nil)))))
      (pss_cons (ps_expr (pe_call (ok_check_coats T TT) hr rfl T.g_check_coats T.F_check_coats.kp T.b_check_coats .nil px (pa_cons (pv 1) pa_nil)))
      (pss_cons (ps_if (pt_not (pt_chain op_le op_le pe_int (pv 2) (pv 1))) (pss_one (ps_raise rfl (takes_of rfl rfl rfl rfl) (pmk_err (C := T.C_BadAnswer) T T.e_BadAnswer (hr.mono (by decide)) rfl (pa_cons (pv 2) pa_nil)))) pss_nil)
      (pss_cons (ps_set (i := 3) nd rfl (Or.inl rfl) (pe_op op_cat (pe_lst (pa_cons pe_int pa_nil)) (pe_op op_rep (pe_lst (pa_cons pe_int pa_nil)) (pv 1))))
      (pss_cons (ps_for (passes_of rfl) rfl (pi_range1 (by rfl) T.n_range (pa_cons (pv 0) pa_nil)) (pg_name (i := 4) nd rfl (Or.inl rfl))
        (pss_cons (ps_set (i := 5) nd rfl (Or.inr rfl) (pe_op op_cat (pe_op op_cat (pe_lst (pa_cons pe_int pa_nil)) (pv 3)) (pe_lst (pa_cons pe_int pa_nil))))
        (pss_one (ps_setLc (i := 3) (own := [("r", 6)]) (g := gName 6) (tt := tYes) rfl nd rfl rfl (sw_true rfl rfl rfl (by decide +kernel)) (pi_range1 (by rfl) T.n_range (pa_cons (pe_op op_add (pv 1) pe_int) pa_nil)) (blkOk_by (own := [("r", 6)]) (N := N_odd_lot) (sc := defScope s_odd_lot) (by decide +kernel))
          (fun _ _ _ _ _ => pg_name (i := 6) nd rfl (Or.inl rfl)) (fun _ _ _ _ _ => pts_nil)
          (fun _ _ _ _ _ => pe_op op_add (pe_op op_mul (pv 6) (pe_ix (ixl K) (pv 5) (pv 6) (fun _ _ => rfl))) (pe_op op_mul (pe_op op_sub (pv 1) (pv 6)) (pe_ix (ixl K) (pv 5) (pe_op op_add (pv 6) pe_int) (fun _ _ => rfl))))))))
      (pss_one (ps_ret (pe_ix ix_list (pv 3) (pv 2) (fun _ _ => rfl)))))))), ?_⟩
    refine ⟨_, rfl, n, 0, 40, rfl, fun h1 => ?_, fun h1 => k1 h1⟩
    refine ⟨_, rfl, c, rfl, fun h2 => ?_, fun h2 => k2 h1 h2⟩
    have b1 : 0 ≤ n ∧ n ≤ 40 := h1
    have b2 : 2 ≤ c ∧ c ≤ 6 := h2
    dsimp only
    refine seq_cut (fun σ H' => σ = [some (.int n), some (.int c), some (.int m), none, none, none, none] ∧ H = H' ∧ Odds c m) (fun R join => ?_) ?_
    · refine ⟨_, rfl, _, _, rfl, rfl, _, rfl, ?_⟩
      refine iteB (fun h => ?_) (fun h => ?_)
      · refine ⟨_, rfl, _, _, rfl, rfl, _, rfl, ?_⟩
        refine iteB (fun h3 => ?_) (fun h3 => ?_)
        · have h' : ¬ Odds c m := fun z => by unfold Odds at z; simp at h3; omega
          exact ⟨_, rfl, _, rfl, fun d nd => k3 h1 h2 h' _ _ _ (Ext.new nd) upd_same rfl⟩
        · exact join _ _ ⟨rfl, rfl, by simpa using h, by simpa using h3⟩
      · refine ⟨_, rfl, ?_⟩
        refine iteT' rfl ?_
        have h' : ¬ Odds c m := fun z => by unfold Odds at z; simp at h; omega
        exact ⟨_, rfl, _, rfl, fun d nd => k3 h1 h2 h' _ _ _ (Ext.new nd) upd_same rfl⟩
    · rintro σ _ ⟨rfl, rfl, h3⟩
      have k := k4 h1 h2 h3
      have b3 : 0 ≤ m ∧ m ≤ c := h3
      have rl : ∀ j, (olRow c.toNat j).length ≤ 7 := fun j => by rw [olRow_len]; omega
      have one1 : 1 ≤ sizeLine := by decide
      refine ⟨one1, fun l1 n1 => ⟨one1, fun l2 n2 => ⟨_, rfl, l2, c, _, rfl, rfl, upd_same, by omega, by omega, (by show 1 * c.toNat ≤ sizeLine; exact Nat.le_of_lt (small1000 (by omega))), fun l3 n3 => ?_⟩⟩⟩
      have y1 : Ext TT none H (upd H l1 (.lst [.int 1])) := Ext.new n1
      have y12 : Ext TT none (upd H l1 (.lst [.int 1])) _ := (Ext.new (o := .lst [.int 0]) n2).trans (Ext.new (o := .lst (List.replicate c.toNat [V.int 0]).flatten) n3)
      refine ⟨l1, l3, _, _, rfl, rfl, y12.lst upd_same, upd_same, ?_, fun l4 n4 => ?_⟩
      · rw [rep_flat]
        simp only [List.length_cons, List.length_nil, List.length_replicate]
        exact Nat.le_of_lt (small1000 (by omega))
      · refine ⟨_, rfl, n, rfl, by omega, by omega, for_range (lo := 0) (n := n.toNat) (fun i σ H' => ∃ (l : Addr) (u4 u5 : Option V), σ = [some (.int n), some (.int c), some (.int m), some (.ref l), u4, u5, none] ∧ Ext TT none H H' ∧ H' l = some (.lst ((olRow c.toNat i).map nV))) ⟨l4, none, none, rfl, (y1.trans y12).trans (Ext.new n4), by rw [upd_same, rep_flat]; exact congrArg (fun z => some (HO.lst z)) (row0 c.toNat).symm⟩ ?_ ?_⟩
        · rintro i σ H1 hi ⟨l, u4, u5, rfl, x1, hl⟩
          have ri := rl i
          refine ⟨one1, fun l5 n5 => ?_⟩
          have z5 : Ext TT none H1 (upd H1 l5 (.lst [.int 0])) := Ext.new n5
          refine ⟨_, rfl, l5, l, _, _, rfl, rfl, upd_same, z5.lst hl, ?_, fun l6 n6 => ⟨one1, fun l7 n7 => ?_⟩⟩
          · simp only [List.length_cons, List.length_nil, List.length_map]
            exact Nat.le_of_lt (small1000 (by omega))
          have z6 := z5.trans (Ext.new (o := .lst ([V.int 0] ++ (olRow c.toNat i).map nV)) n6)
          have z67 : Ext TT none (upd (upd H1 l5 (.lst [.int 0])) l6 (.lst ([V.int 0] ++ (olRow c.toNat i).map nV))) _ := Ext.new (o := .lst [.int 0]) n7
          refine ⟨l6, l7, _, _, rfl, rfl, z67.lst upd_same, upd_same, ?_, fun l8 n8 => ?_⟩
          · simp only [List.length_cons, List.length_nil, List.length_map, List.length_append]
            exact Nat.le_of_lt (small1000 (by omega))
          obtain ⟨z8, h8⟩ := newX (o := .lst (([V.int 0] ++ (olRow c.toNat i).map nV) ++ [V.int 0])) (z6.trans z67) n8
          refine ⟨_, rfl, _, _, rfl, rfl, c + 1, rfl, by omega, by omega, fun D hD => ?_⟩
          revert hD
          generalize upd (upd (upd (upd H1 l5 _) l6 _) l7 _) l8 _ = H8 at z8 h8 ⊢
          intro hD
          rw [← wide_map] at h8
          refine lc_it walk_range (fun j H' => H' = upd H8 D (.lst (((olRow c.toNat (i + 1)).take j).map nV))) rfl (fun _ _ _ _ => trivial) (fun j x H2 H3 hj e y => ?_) (fun H' e => ?_)
          · obtain ⟨rfl, rfl⟩ := y
            subst e
            refine ⟨rfl, ?_⟩
            dsimp only [tYes]
            refine iteT ?_
            have hj7 : j < c.toNat + 1 := by omega
            have w8 : (upd H8 D (.lst (((olRow c.toNat (i + 1)).take j).map nV))) l8 = some (.lst ((wideN (olRow c.toNat i)).map nV)) := by rw [upd_ne (ne_of_none h8 hD)]; exact h8
            have ej : (0 : Int) + (j : Int) = ((j : Nat) : Int) := by omega
            have wl : (wideN (olRow c.toNat i)).length = c.toNat + 3 := by rw [wide_len, olRow_len]
            have a1 : atI ((wideN (olRow c.toNat i)).map nV) (0 + (j : Int)) = some (nV ((wideN (olRow c.toNat i)).getD j 0)) := by rw [ej]; exact at_nV (by omega)
            have a2 : atI ((wideN (olRow c.toNat i)).map nV) (0 + (j : Int) + 2) = some (nV ((wideN (olRow c.toNat i)).getD (j + 2) 0)) := by
              rw [show (0 : Int) + (j : Int) + 2 = ((j + 2 : Nat) : Int) by omega]
              exact at_nV (by omega)
            refine ⟨_, rfl, _, rfl, _, rfl, l8, _, _, _, rfl, rfl, SqL.of w8, a1, _, _, rfl, rfl, .inl ⟨by omega, by omega⟩, ?_⟩
            refine ⟨_, rfl, _, rfl, _, _, rfl, rfl, _, rfl, _, rfl, _, _, rfl, rfl, l8, _, _, _, rfl, rfl, SqL.of w8, a2, _, _, rfl, rfl, .inl ⟨by omega, by omega⟩, _, _, rfl, rfl, _, upd_same, ?_, ?_⟩
            · rw [List.length_map, List.length_take, olRow_len]
              exact small1000 (by omega)
            · have el : (olRow c.toNat (i + 1))[j]? = some (j * (wideN (olRow c.toNat i)).getD j 0 + (c.toNat - j) * (wideN (olRow c.toNat i)).getD (j + 2) 0) := by
                show (olStep c.toNat (olRow c.toNat i))[j]? = _
                unfold olStep
                rw [List.getElem?_map, List.getElem?_range hj7] <;> rfl
              rw [upd_upd, ← take_succ el, List.map_append]
              refine congrArg (fun z => upd H8 D (HO.lst (_ ++ [z]))) ?_
              unfold nV
              rw [Int.natCast_add, Int.natCast_mul, Int.natCast_mul, Int.ofNat_sub (by omega)]
              rw [show ((c.toNat : Nat) : Int) = c by omega, ej]
          · subst e
            refine ⟨D, _, _, rfl, (x1.trans z8).trans (Ext.new hD), ?_⟩
            rw [upd_same, List.take_of_length_le (by rw [olRow_len]; omega)]
        · rintro σ H1 ⟨l, u4, u5, rfl, x1, hl⟩
          refine ⟨_, rfl, _, rfl, l, _, _, nV ((olRow c.toNat n.toNat).getD m.toNat 0), rfl, rfl, SqL.of hl, ?_, k _ x1⟩
          have e := at_nV (xs := olRow c.toNat n.toNat) (i := m.toNat) (by rw [olRow_len]; omega)
          rw [show ((m.toNat : Nat) : Int) = m by omega] at e
          exact e
end
end R
end

-- BitsT
section
set_option Elab.async false
set_option linter.all false
set_option maxRecDepth 100000
set_option maxHeartbeats 4000000
namespace R
open PySem PySem.Spec PyProof.Rows L2 LamX NdefX LamP BlkX
/-! ### the law's own table: for each set of coats, by its bits, how many rows have just its coats odd -/
def bitsN (c : Nat) : List Nat := (List.range c).map fun i => 2 ^ i
def tbStep (c : Nat) (t : List Nat) : List Nat := (List.range t.length).map fun m => ((bitsN c).map fun b => t.getD (m ^^^ b) 0).sum
def tbT (c : Nat) : Nat → List Nat
  | 0 => 1 :: List.replicate (2 ^ c - 1) 0
  | k + 1 => tbStep c (tbT c k)
def memN (c m : Nat) : Nat := ((bitsN c).filter fun b => m &&& b != 0).length
theorem bits_len (c : Nat) : (bitsN c).length = c := by simp [bitsN]
theorem bits_lt2 {c b : Nat} (h : b ∈ bitsN c) : b < 2 ^ c := by
  unfold bitsN at h
  rw [List.mem_map] at h
  obtain ⟨i, hi, rfl⟩ := h
  exact Nat.pow_lt_pow_right (by decide) (List.mem_range.mp hi)
theorem tb_len (c : Nat) : ∀ k, (tbT c k).length = 2 ^ c
  | 0 => by
    show (1 :: List.replicate (2 ^ c - 1) 0).length = _
    have := Nat.two_pow_pos c
    simp only [List.length_cons, List.length_replicate]
    omega
  | k + 1 => by
    show (tbStep c (tbT c k)).length = _
    unfold tbStep
    rw [List.length_map, List.length_range, tb_len c k]
theorem two64 {c : Nat} (h : c ≤ 6) : 2 ^ c ≤ 64 := Nat.pow_le_pow_right (n := 2) (by decide) h
theorem sum_nV (L : List Nat) : ∃ ns : List Int, L.map nV = ns.map V.int ∧ ns.sum = ((L.sum : Nat) : Int) := by
  refine ⟨L.map Int.ofNat, by rw [List.map_map] <;> rfl, ?_⟩
  induction L with
  | nil => rfl
  | cons a r ih => rw [List.map_cons, List.sum_cons, ih, List.sum_cons, Int.natCast_add] <;> rfl
section
variable {P : Program} {w : World} {K : PySem.W.Frag} {mg : Str → Option Value} {base : Heap}
/-- a new list of these numbers -/
def RetL (TT : List NTab) (H : Hp) (Q : VK) (L : List Nat) : Prop := ∀ l H', Ext TT none H H' → H l = none → H' l = some (.lst (L.map nV)) → Q (.ref l) H'
def spBits (TT : List NTab) : Sp := fun vs H Q _ => ∃ c : Int, vs = [.int c] ∧ Cts c ∧ RetL TT H Q (bitsN c.toNat)
theorem bits_snoc (i : Nat) : bitsN (i + 1) = bitsN i ++ [2 ^ i] := by
  unfold bitsN
  rw [List.range_succ, List.map_append] <;> rfl
theorem ok_bits (T : Txt K mg) (TT : List NTab) : FnOk P w K mg base CX0 1 T.a_Lbits T.d_Lbits ["_law_shades"] (spBits TT) := by
  refine T.F_Lbits.ok sc_Lbits (fun vs H Q E h => ?_) (fun cdv A outer s H vs Q E hr h => ?_)
  · obtain ⟨c, rfl, _⟩ := h
    rfl
  · obtain ⟨c, rfl, hc, k⟩ := h
    have nd := sc_Lbits.nd
    refine ⟨_, pss_cons (ps_set (i := 1) nd rfl (Or.inl rfl) (pe_lst (pa_cons pe_int pa_nil)))
      (pss_cons (ps_for PassesOwn.never rfl (pi_range1 (by rfl) T.n_range (pa_cons (pe_op op_sub (pv 0) pe_int) pa_nil)) (pg_name (i := 2) nd rfl (Or.inl rfl))
        (pss_one (ps_expr (pe_bm PySem.F.plainAttrs_list PySem.F.slot_list_append PySem.F.type_list_append mt_append (pv 1) (pa_cons (pe_op op_mul pe_int (pe_ix ix_list (pv 1) (pv 2) (fun _ _ => rfl))) pa_nil)))))
      (pss_one (ps_ret (pv 1)))), ?_⟩
    have b2 : 2 ≤ c ∧ c ≤ 6 := hc
    refine ⟨(by show 1 ≤ sizeLine; decide), fun l nl => ?_⟩
    refine ⟨_, rfl, _, _, rfl, rfl, c - 1, rfl, by omega, by omega, for_range (lo := 0) (n := (c - 1).toNat) (fun i σ H' => ∃ u, σ = [some (.int c), some (.ref l), u] ∧ Ext TT none H H' ∧ H' l = some (.lst ((bitsN (i + 1)).map nV))) ⟨none, rfl, Ext.new nl, upd_same⟩ ?_ ?_⟩
    · rintro i σ H1 hi ⟨u, rfl, x1, hl⟩
      have bl := bits_len (i + 1)
      have e0 : (0 : Int) + (i : Int) = (i : Int) := Int.zero_add _
      have a1 : atI ((bitsN (i + 1)).map nV) (0 + (i : Int)) = some (nV (2 ^ i)) := by
        rw [e0]
        refine atI_nat ?_
        rw [List.getElem?_map, bits_snoc, List.getElem?_append_right (by rw [bits_len]; exact Nat.le_refl _), bits_len, Nat.sub_self] <;> rfl
      refine ⟨_, rfl, Or.inl ⟨rfl, _, SqL.of hl⟩, _, rfl, _, rfl, l, _, _, _, rfl, rfl, SqL.of hl, a1, _, _, rfl, rfl, .inl ⟨by decide, by decide⟩, ?_⟩
      refine ⟨l, _, _, rfl, rfl, hl, small1000 (by rw [List.length_map, bl]; omega), _, rfl, x1.mutL nl hl (fun z => nomatch z), ?_⟩
      rw [upd_same, bits_snoc (i + 1), List.map_append]
      refine congrArg (fun z => some (HO.lst (_ ++ [V.int z]))) ?_
      show (2 : Int) * (((2 ^ i : Nat)) : Int) = ((2 ^ (i + 1) : Nat) : Int)
      rw [Nat.pow_succ, Int.natCast_mul]
      omega
    · rintro σ H1 ⟨u, rfl, x1, hl⟩
      refine ⟨_, rfl, k l H1 x1 nl ?_⟩
      rw [hl, show (c - 1).toNat + 1 = c.toNat by omega]
def spMembers (TT : List NTab) : Sp := fun vs H Q _ => ∃ (m c : Nat) (l : Addr), vs = [nV m, .ref l] ∧ c ≤ 6 ∧ H l = some (.lst ((bitsN c).map nV)) ∧ RetV TT H Q (nV (memN c m))
theorem ok_members (T : Txt K mg) (TT : List NTab) : FnOk P w K mg base CX0 1 T.a_Lmembers T.d_Lmembers ["_law_mark", "_law_bits_here"] (spMembers TT) := by
  refine T.F_Lmembers.ok sc_Lmembers (fun vs H Q E h => ?_) (fun cdv A outer s H vs Q E hr h => ?_)
  · obtain ⟨m, c, l, rfl, _⟩ := h
    rfl
  · obtain ⟨m, c, l, rfl, hc, hl, k⟩ := h
    have nd := sc_Lmembers.nd
    refine ⟨_, pss_one (ps_ret (pe_callB call_len_seq (by rfl) T.n_len PySem.boot_len (pa_cons (pe_lc (own := [("_law_bit", 2)]) (g := gName 2) rfl nd (pi_list (pv 1)) (blkOk_by (own := [("_law_bit", 2)]) (N := N_Lmembers) (sc := defScope s_Lmembers) (by decide +kernel))
          (fun _ _ _ _ _ => pg_name (i := 2) nd rfl (Or.inl rfl)) (fun _ _ _ _ _ => pts_one (ptru K (pe_op op_and (pv 0) (pv 2)))) (fun _ _ _ _ _ => pv 2)) pa_nil))), ?_⟩
    refine ⟨_, rfl, l, rfl, ⟨_, SqL.of hl⟩, fun D hD => lc_it (walk_list (xs := (bitsN c).map nV)) (fun j H' => H' = upd H D (.lst ((((bitsN c).take j).filter fun b => m &&& b != 0).map nV))) rfl (fun j H' _ e => ?_) (fun j x H2 H3 hj e y => ?_) (fun H2 e => ?_)⟩
    · subst e
      exact SqL.of (by rw [upd_ne (ne_of_none hl hD)]; exact hl)
    · obtain ⟨rfl, y⟩ := y
      subst e
      rw [List.getElem?_map] at y
      rw [List.length_map, bits_len] at hj
      cases ez : (bitsN c)[j]? with
      | none => rw [ez] at y; cases y
      | some b =>
        rw [ez] at y
        cases y
        have fe : ((bitsN c).take (j + 1)).filter (fun b => m &&& b != 0) = ((bitsN c).take j).filter (fun b => m &&& b != 0) ++ (if (m &&& b != 0) = true then [b] else []) := by
          rw [← take_succ ez, List.filter_append, List.filter_cons, List.filter_nil]
        have fl : (((bitsN c).take j).filter fun b => m &&& b != 0).length ≤ 6 := Nat.le_trans (List.length_filter_le _ _) (by rw [List.length_take]; omega)
        have eb : Builtin.bitAnd (m : Int) (b : Int) = ((m &&& b : Nat) : Int) := by
          rw [bitAnd_pp (by omega) (by omega)] <;> rfl
        refine ⟨rfl, ?_⟩
        refine ⟨_, rfl, _, rfl, _, _, rfl, rfl, (m &&& b != 0), ?_, ?_⟩
        · show (m &&& b != 0) = (Builtin.bitAnd (m : Int) (b : Int) != 0)
          rw [eb]
          by_cases z : m &&& b = 0
          · rw [z] <;> rfl
          · have z2 : ((m &&& b : Nat) : Int) ≠ 0 := by omega
            rw [bne_iff_ne.mpr z, bne_iff_ne.mpr z2]
        · refine iteB (fun g => ?_) (fun g => ?_)
          · refine ⟨_, rfl, _, upd_same, by rw [List.length_map]; exact small1000 (by omega), ?_⟩
            rw [upd_upd, fe, if_pos g, List.map_append] <;> rfl
          · show _ = _
            rw [fe, if_neg (by rw [g]; decide), List.append_nil]
    · subst e
      refine ⟨D, _, rfl, .inl (SqL.of upd_same), ?_⟩
      have e1 : (((((bitsN c).take ((bitsN c).map nV).length).filter fun b => m &&& b != 0).map nV).length : Int) = (memN c m : Int) := by
        rw [List.length_map, List.length_map, List.take_length] <;> rfl
      rw [e1]
      exact k _ (Ext.new hD)
end
end R
end

-- Table
section
set_option Elab.async false
set_option linter.all false
set_option maxRecDepth 100000
set_option maxHeartbeats 4000000
namespace R
open PySem PySem.Spec PyProof.Rows L2 LamX NdefX LamP BlkX
section
variable {P : Program} {w : World} {K : PySem.W.Frag} {mg : Str → Option Value} {base : Heap}
def spTable (TT : List NTab) : Sp := fun vs H Q _ => ∃ (n : Int) (c : Nat) (l : Addr), vs = [.int n, .ref l] ∧ Cells n ∧ 1 ≤ c ∧ c ≤ 6 ∧ H l = some (.lst ((bitsN c).map nV)) ∧ RetL TT H Q (tbT c n.toNat)
theorem tb0 (c : Nat) : (tbT c 0).map nV = [V.int 1] ++ List.replicate (2 ^ c - 1) (V.int 0) := by
  show (1 :: List.replicate (2 ^ c - 1) 0).map nV = _
  rw [List.map_cons, List.map_replicate] <;> rfl
theorem ok_table (T : Txt K mg) (TT : List NTab) : FnOk P w K mg base CX0 1 T.a_Ltable T.d_Ltable ["_law_cells", "_law_bits_here"] (spTable TT) := by
  refine T.F_Ltable.ok sc_Ltable (fun vs H Q E h => ?_) (fun cdv A outer s H vs Q E hr h => ?_)
  · obtain ⟨n, c, l, rfl, _⟩ := h
    rfl
  · obtain ⟨n, c, l, rfl, hn, hc0, hc, hl, k⟩ := h
    have nd := sc_Ltable.nd
    refine ⟨_, pss_cons (ps_set (i := 2) nd rfl (Or.inr rfl) (pe_op op_cat (pe_lst (pa_cons pe_int pa_nil)) (pe_lc (own := [("_law_mark", 4)]) (g := gName 4) (tt := tYes) rfl nd (pi_range1 (by rfl) T.n_range (pa_cons (pe_op op_sub (pe_op op_mul pe_int (pe_ix ix_list (pv 1) (pe_un un_neg pe_int) (fun _ _ => rfl))) pe_int) pa_nil)) (blkOk_by (own := [("_law_mark", 4)]) (N := N_Ltable) (sc := defScope s_Ltable) (by decide +kernel))
          (fun _ _ _ _ _ => pg_name (i := 4) nd rfl (Or.inl rfl)) (fun _ _ _ _ _ => pts_nil) (fun _ _ _ _ _ => pe_int))))
      (pss_cons (ps_for PassesOwn.never rfl (pi_range1 (by rfl) T.n_range (pa_cons (pv 0) pa_nil)) (pg_name (i := 3) nd rfl (Or.inl rfl))
        (pss_one (ps_set (i := 2) nd rfl (Or.inr rfl) (pe_lc (own := [("_law_mark", 4)]) (g := gName 4) (tt := tYes) rfl nd (pi_range1 (by rfl) T.n_range (pa_cons (pe_callB call_len_seq (by rfl) T.n_len PySem.boot_len (pa_cons (pv 2) pa_nil)) pa_nil)) (blkOk_by (own := [("_law_mark", 4)]) (N := N_Ltable) (sc := defScope s_Ltable) (by decide +kernel))
          (fun _ _ _ _ _ => pg_name (i := 4) nd rfl (Or.inr rfl)) (fun _ _ _ _ _ => pts_nil)
          (fun _ _ _ _ _ => pe_callB (csum K) (by rfl) T.n_sum (by decide +kernel) (pa_cons (pe_lc (own := [("_law_bit", 5)]) (g := gName 5) (tt := tYes) rfl nd (pil K (pv 1)) (blkOk_by (own := [("_law_bit", 5)]) (by rfl))
            (fun _ _ _ _ _ => pg_name (i := 5) nd rfl (Or.inl rfl)) (fun _ _ _ _ _ => pts_nil) (fun _ _ _ _ _ => pe_ix (ixl K) (pv 2) (pe_op op_xor (pv 4) (pv 5)) (fun _ _ => rfl))) pa_nil))))))
      (pss_one (ps_ret (pv 2)))), ?_⟩
    have hn2 : 0 ≤ n ∧ n ≤ 40 := hn
    have p1 := Nat.two_pow_pos c
    have p2 := two64 hc
    have lastB : atI ((bitsN c).map nV) (-1) = some (nV (2 ^ (c - 1))) := by
      obtain ⟨d, rfl⟩ : ∃ d, c = d + 1 := ⟨c - 1, by omega⟩
      rw [bits_snoc, List.map_append]
      exact atI_last _ _
    have e2 : (2 : Int) * ((2 ^ (c - 1) : Nat) : Int) - 1 = ((2 ^ c - 1 : Nat) : Int) := by
      obtain ⟨d, rfl⟩ : ∃ d, c = d + 1 := ⟨c - 1, by omega⟩
      rw [Nat.add_sub_cancel, Int.ofNat_sub p1, Nat.pow_succ, Int.natCast_mul]
      omega
    refine ⟨(by show 1 ≤ sizeLine; decide), fun l1 n1 => ?_⟩
    obtain ⟨y1, h1⟩ := newX (o := .lst [V.int 1]) (Ext.refl TT none H) n1
    have hl1 := y1.lst hl
    have nl1 : ∀ b, upd H l1 (HO.lst [V.int 1]) b = none → H b = none := fun b e => upd_none' e
    generalize upd H l1 (HO.lst [V.int 1]) = H1 at y1 h1 hl1 nl1 ⊢
    refine ⟨_, rfl, _, rfl, l, _, _, _, rfl, rfl, SqL.of hl1, lastB, _, _, rfl, rfl, .inl ⟨by decide, by decide⟩, _, _, rfl, rfl, ?_⟩
    show ∃ m : Int, _ ∧ _
    refine ⟨((2 ^ c - 1 : Nat) : Int), ?_, by omega, by omega, fun D hD => ?_⟩
    · exact congrArg (fun z => [V.int z]) e2
    rw [Int.toNat_natCast]
    refine lc_it walk_range (fun j H' => H' = upd H1 D (.lst (List.replicate j (V.int 0)))) rfl (fun _ _ _ _ => trivial) (fun j x H2 H3 hj e y => ?_) (fun H2 e => ?_)
    · obtain ⟨rfl, rfl⟩ := y
      subst e
      refine ⟨rfl, ?_⟩
      dsimp only [tYes]
      refine iteT ?_
      refine ⟨_, upd_same, by rw [List.length_replicate]; exact small1000 (by omega), ?_⟩
      rw [upd_upd, List.replicate_succ']
    · subst e
      have hD1 : upd H1 D (.lst (List.replicate (2 ^ c - 1) (V.int 0))) l1 = some (.lst [V.int 1]) := (upd_ne (ne_of_none h1 hD)).trans h1
      refine ⟨l1, D, _, _, rfl, rfl, hD1, upd_same, ?_, fun l2 n2 => ?_⟩
      · simp only [List.length_cons, List.length_nil, List.length_replicate]
        exact Nat.le_of_lt (small1000 (by omega))
      obtain ⟨y2, h2⟩ := newX (o := .lst ([V.int 1] ++ List.replicate (2 ^ c - 1) (V.int 0))) (y1.trans (Ext.new hD)) n2
      have nH : H l2 = none := y1.fr l2 (upd_none' n2)
      refine ⟨_, rfl, n, rfl, by omega, by omega, for_range (lo := 0) (n := n.toNat) (fun i σ H' => ∃ (t : Addr) (u3 : Option V), σ = [some (.int n), some (.ref l), some (.ref t), u3, none, none] ∧ Ext TT none H H' ∧ H t = none ∧ H' t = some (.lst ((tbT c i).map nV))) ⟨l2, none, rfl, y2, nH, by rw [upd_same]; exact congrArg (fun z => some (HO.lst z)) (tb0 c).symm⟩ ?_ ?_⟩
      · rintro i σ H3 hi ⟨t, u3, rfl, x3, nt, ht⟩
        have ti := tb_len c i
        have hl3 := x3.lst hl
        refine ⟨_, rfl, t, _, rfl, .inl (SqL.of ht), ?_⟩
        refine ⟨_, rfl, by omega, by rw [List.length_map]; omega, fun D2 hD2 => ?_⟩
        rw [Int.toNat_natCast]
        refine lc_it walk_range (fun j H' => Ext TT none H3 H' ∧ H' D2 = some (.lst (((tbT c (i + 1)).take j).map nV))) ⟨Ext.new hD2, upd_same⟩ (fun _ _ _ _ => trivial) (fun j x H5 H4 hj e y => ?_) (fun H4 e => ?_)
        · obtain ⟨rfl, rfl⟩ := y
          obtain ⟨x4, hD4⟩ := e
          rw [List.length_map] at hj
          refine ⟨rfl, ?_⟩
          dsimp only [tYes]
          refine iteT ?_
          have hl4 := x4.lst hl3
          have ht4 := x4.lst ht
          refine ⟨_, rfl, l, rfl, ⟨_, SqL.of hl4⟩, fun D5 hD5 => lc_it (walk_list (xs := (bitsN c).map nV)) (fun q H' => H' = upd H4 D5 (.lst (((bitsN c).take q).map fun b => nV ((tbT c i).getD (j ^^^ b) 0)))) rfl (fun q H' _ e => ?_) (fun q x H6 H7 hq e y => ?_) (fun H6 e => ?_)⟩
          · subst e
            exact SqL.of (by rw [upd_ne (ne_of_none hl4 hD5)]; exact hl4)
          · obtain ⟨rfl, y⟩ := y
            subst e
            rw [List.getElem?_map] at y
            rw [List.length_map, bits_len] at hq
            cases ez : (bitsN c)[q]? with
            | none => rw [ez] at y; cases y
            | some b =>
              rw [ez] at y
              cases y
              have hb : b < 2 ^ c := bits_lt2 (List.mem_of_getElem? ez)
              have hx : j ^^^ b < 2 ^ c := Nat.xor_lt_two_pow (by omega) hb
              have ex : Builtin.bitXor (0 + (j : Int)) (b : Int) = ((j ^^^ b : Nat) : Int) := by
                rw [Int.zero_add, Bits.bitXor_pp (by omega) (by omega)] <;> rfl
              have a1 : atI ((tbT c i).map nV) (Builtin.bitXor (0 + (j : Int)) (b : Int)) = some (nV ((tbT c i).getD (j ^^^ b) 0)) := by rw [ex]; exact at_nV (by omega)
              refine ⟨rfl, ?_⟩
              dsimp only [tYes]
              refine iteT ?_
              refine ⟨_, rfl, _, rfl, _, rfl, _, _, rfl, rfl, t, _, _, _, rfl, rfl, SqL.of (by rw [upd_ne (ne_of_none ht4 hD5)]; exact ht4), a1, _, upd_same, by rw [List.length_map, List.length_take]; exact small1000 (by omega), ?_⟩
              rw [upd_upd, ← take_succ ez, List.map_append] <;> rfl
          · subst e
            rw [List.length_map, List.take_length]
            obtain ⟨ns, e1, e2⟩ := sum_nV ((bitsN c).map fun b => (tbT c i).getD (j ^^^ b) 0)
            rw [List.map_map] at e1
            refine ⟨D5, ns, rfl, SqL.of (by rw [upd_same, ← e1] <;> rfl), ?_⟩
            rw [e2]
            have hD6 : upd H4 D5 (.lst ((bitsN c).map fun b => nV ((tbT c i).getD (j ^^^ b) 0))) D2 = some (.lst (((tbT c (i + 1)).take j).map nV)) := (upd_ne (ne_of_none hD4 hD5)).trans hD4
            refine ⟨_, hD6, by rw [List.length_map, List.length_take, tb_len]; exact small1000 (by omega), (x4.trans (Ext.new hD5)).mutL hD2 hD6 (fun z => nomatch z), ?_⟩
            have el : (tbT c (i + 1))[j]? = some ((bitsN c).map fun b => (tbT c i).getD (j ^^^ b) 0).sum := by
              show (tbStep c (tbT c i))[j]? = _
              unfold tbStep
              rw [List.getElem?_map, List.getElem?_range (by omega)] <;> rfl
            rw [upd_same, ← take_succ el, List.map_append] <;> rfl
        · obtain ⟨x4, hD4⟩ := e
          rw [List.length_map, ti, ← tb_len c (i + 1), List.take_length] at hD4
          exact ⟨D2, _, rfl, x3.trans x4, x3.fr D2 hD2, hD4⟩
      · rintro σ H3 ⟨t, u3, rfl, x3, nt, ht⟩
        exact ⟨_, rfl, k t H3 x3 nt ht⟩
end
end R
end

-- Mth
section
set_option Elab.async false
set_option linter.all false
set_option maxRecDepth 100000
set_option maxHeartbeats 4000000
namespace R
/-! ### both tables agree, and all lots add up: checked step by step -/
def good (c : Nat) (row tab : List Nat) (pw : Nat) : Bool :=
  ((List.range (2 ^ c)).all fun m => tab.getD m 0 == row.getD (memN c m) 0) && (((List.range (2 ^ c)).map fun m => row.getD (memN c m) 0).sum == pw)
def chk (c : Nat) : Nat → List Nat → List Nat → Nat → Bool
  | 0, row, tab, pw => good c row tab pw
  | f + 1, row, tab, pw => good c row tab pw && chk c f (olStep c row) (tbStep c tab) (pw * c)
theorem chk_good {c : Nat} : ∀ (f k : Nat), chk c f (olRow c k) (tbT c k) (c ^ k) = true → ∀ j, j ≤ f → good c (olRow c (k + j)) (tbT c (k + j)) (c ^ (k + j)) = true
  | 0, k, h, j, hj => by
    have : j = 0 := by omega
    subst this
    exact h
  | f + 1, k, h, j, hj => by
    have h : (good c (olRow c k) (tbT c k) (c ^ k) && chk c f (olStep c (olRow c k)) (tbStep c (tbT c k)) (c ^ k * c)) = true := h
    rw [Bool.and_eq_true] at h
    cases j with
    | zero => exact h.1
    | succ j =>
      rw [show k + (j + 1) = (k + 1) + j by omega]
      exact chk_good f (k + 1) (by rw [Nat.pow_succ]; exact h.2) j (by omega)
theorem chk2 : chk 2 40 (olRow 2 0) (tbT 2 0) 1 = true := by decide +kernel
theorem chk3 : chk 3 40 (olRow 3 0) (tbT 3 0) 1 = true := by decide +kernel
theorem chk4 : chk 4 40 (olRow 4 0) (tbT 4 0) 1 = true := by decide +kernel
theorem chk5 : chk 5 40 (olRow 5 0) (tbT 5 0) 1 = true := by decide +kernel
theorem chk6 : chk 6 40 (olRow 6 0) (tbT 6 0) 1 = true := by decide +kernel
theorem all_good {c k : Nat} (h : 2 ≤ c ∧ c ≤ 6) (hk : k ≤ 40) : good c (olRow c k) (tbT c k) (c ^ k) = true := by
  have q : chk c 40 (olRow c 0) (tbT c 0) (c ^ 0) = true := by
    have : c = 2 ∨ c = 3 ∨ c = 4 ∨ c = 5 ∨ c = 6 := by omega
    rcases this with e | e | e | e | e <;> subst e
    · exact chk2
    · exact chk3
    · exact chk4
    · exact chk5
    · exact chk6
  have := chk_good 40 0 q k hk
  rw [Nat.zero_add] at this
  exact this
theorem tb_ol {c k m : Nat} (h : 2 ≤ c ∧ c ≤ 6) (hk : k ≤ 40) (hm : m < 2 ^ c) : (tbT c k).getD m 0 = (olRow c k).getD (memN c m) 0 := by
  have q := all_good h hk
  unfold good at q
  rw [Bool.and_eq_true, List.all_eq_true] at q
  exact eq_of_beq (q.1 m (List.mem_range.mpr hm))
theorem ol_sum {c k : Nat} (h : 2 ≤ c ∧ c ≤ 6) (hk : k ≤ 40) : ((List.range (2 ^ c)).map fun m => (olRow c k).getD (memN c m) 0).sum = c ^ k := by
  have q := all_good h hk
  unfold good at q
  rw [Bool.and_eq_true] at q
  exact eq_of_beq q.2
theorem mem_le (c m : Nat) : memN c m ≤ c := by
  unfold memN
  exact Nat.le_trans (List.length_filter_le _ _) (by rw [bits_len]; exact Nat.le_refl _)
end R
end

-- TryB
section
set_option Elab.async false
set_option linter.all false
set_option maxRecDepth 100000
set_option maxHeartbeats 4000000
/-! TryB: try with several clauses, `except C as n` (one name n for all of them, place i) or `except C`. -/
namespace TryB
open PySem PySem.Spec PyProof.Rows L2
abbrev Suite := Addr → Value → Option Addr → TS
theorem iteT_of {A B : Prop} (h : if (true = true) then A else B) : A := by simpa using h
theorem iteF_of {A B : Prop} (h : if (false = true) then A else B) : B := by simpa using h
/-- behind a clause the name is gone -/
def gone (i : Nat) (D : Ends) : Ends := ⟨fun σ H => D.nx (σ.set i none) H, D.rt, fun σ H => D.bk (σ.set i none) H, fun σ H => D.ct (σ.set i none) H⟩
def wClauses (K : PySem.W.Frag) (i : Nat) (Wout : WX) (D : Ends) : List (Value × Bool × Suite) → WX
  | [] => Wout
  | k :: r => fun cls d σ H => ∃ b, PySem.W.exmOne K cls k.1 = some b ∧ (b = true → ∀ a, H a = none → if k.2.1 = true then k.2.2 a cls d (gone i D) (σ.set i (some (.ref a))) H else k.2.2 a cls d D σ H) ∧ (b = false → wClauses K i Wout D r cls d σ H)
inductive Clauses (X : Cx) (n : Str) : List ExceptHandler → List (Value × Bool × Suite) → Prop
  | none : Clauses X n [] []
  | one {x : Str} {c : Value} {ts : Suite} {b₀ : Stmt} {suite : List Stmt} {np hp : Pos} {hds : List ExceptHandler} {l : List (Value × Bool × Suite)} (names : Names X x c)
      (reads : ∀ a oe cls d pn, Zc cls d oe → (∃ vs, oe.data = .fields vs) → PSs (X.suite a ((a, oe) :: pn)) (b₀ :: suite) (ts a cls d)) (rest : Clauses X n hds l) : Clauses X n (.ExceptHandler (some (.Name x np)) (some n) (b₀ :: suite) hp :: hds) ((c, true, ts) :: l)
  | bare {x : Str} {c : Value} {ts : Suite} {b₀ : Stmt} {suite : List Stmt} {np hp : Pos} {hds : List ExceptHandler} {l : List (Value × Bool × Suite)} (names : Names X x c)
      (reads : ∀ a oe cls d pn, Zc cls d oe → (∃ vs, oe.data = .fields vs) → PSs (X.suite a ((a, oe) :: pn)) (b₀ :: suite) (ts a cls d)) (rest : Clauses X n hds l) : Clauses X n (.ExceptHandler (some (.Name x np)) none (b₀ :: suite) hp :: hds) ((c, false, ts) :: l)
section
variable {X : Cx} {i : Nat} {n : Str} {Wout : WX} {pins : List (Addr × Obj)} {σ : L2.St} {H : Hp} {S : Shared} {D : Ends} {a : Addr} {cls : Value} {d : Option Addr}
/-- the clauses, one after the other, in the state S in which the exception at a is caught -/
theorem clauses_run (ok : X.Ok) (hN : X.N.Nodup) (hi : X.N[i]? = some n) (hln : X.env.kindOf n = some .local) (isNew : H a = none)
    (look : ∀ {c b}, PySem.W.exmOne X.K cls c = some b → PySem.W.Looks (model X.prog X.w) S.heap (excMatches (.ref a) c) b)
    (name : ∀ {x c np}, Names X x c → ∀ {Q : Value → Shared → Prop} {E : Value → Shared → Prop}, Q c S → wpAny (model X.prog X.w) (X.A.mark (some (.ref a))) (eval (.Name x np) X.env) Q E S)
    (enter : ∀ {A : Around} {E : Value → Shared → Prop} {Q : Unit → Shared → Prop}, (∀ oe s4, Zc cls d oe → (∃ vs, oe.data = .fields vs) → Inv (X.suite a ((a, oe) :: (X.pn ++ pins))) [] σ H s4 → Q () s4) → wpAny (model X.prog X.w) A (setFlight (.ref a) none) Q E S)
    (out : Wout cls d σ H → wpAny (model X.prog X.w) X.A (handleBy (.ref a) X.env []) (SP X pins D) X.xe S) :
    ∀ {hds l}, Clauses X n hds l → wClauses X.K i Wout D l cls d σ H → wpAny (model X.prog X.w) X.A (handleBy (.ref a) X.env hds) (SP X pins D) X.xe S := by
  intro hds l cs
  induction cs with
  | none => exact out
  | one names reads _ next =>
    rintro ⟨b, is, yes, no⟩
    refine wpAny_handleBy_cons (codeAny_handlers_test (name names ((look is).here ?_))) (fun z => nomatch z)
    cases b
    · exact next (no rfl)
    · refine codeAny_handlers_suite_as (enter fun oe s4 hz hf I4 => ?_)
      refine store_ok (X := X.suite a ((a, oe) :: (X.pn ++ pins))) (v := .ref a) I4 hN hi (.inl hln) rfl (fun s5 I5 => ?_) (.inr hln)
      refine wpAny_mono ((reads a oe cls d (X.pn ++ pins) hz hf).run [] s5 _ H _ I5 (iteT_of (yes rfl a isNew))) (fun f s6 left => ?_) fun _ _ z => z.elim
      cases f
      case ret =>
        obtain ⟨v, σ6, H6, I6, r, q⟩ := left
        exact gone_ok (I6.unsuite ok) hN hi hln fun s7 I7 => ⟨v, _, H6, I7, r, q⟩
      all_goals
        obtain ⟨σ6, H6, I6, q⟩ := left
        exact gone_ok (I6.unsuite ok) hN hi hln fun s7 I7 => ⟨_, H6, I7, q⟩
  | bare names reads _ next =>
    rintro ⟨b, is, yes, no⟩
    refine wpAny_handleBy_cons (codeAny_handlers_test (name names ((look is).here ?_))) (fun z => nomatch z)
    cases b
    · exact next (no rfl)
    · refine codeAny_handlers_suite (enter fun oe s4 hz hf I4 => ?_)
      refine wpAny_mono ((reads a oe cls d (X.pn ++ pins) hz hf).run [] s4 _ H _ I4 (iteF_of (yes rfl a isNew))) (fun f s6 left => ?_) fun _ _ z => z.elim
      cases f
      case ret =>
        obtain ⟨v, σ6, H6, I6, r, q⟩ := left
        exact ⟨v, _, _, I6.unsuite ok, r, q⟩
      all_goals
        obtain ⟨σ6, H6, I6, q⟩ := left
        exact ⟨_, _, I6.unsuite ok, q⟩
theorem ps_try_clauses {body : List Stmt} {h₀ : ExceptHandler} {hds : List ExceptHandler} {l : List (Value × Bool × Suite)} {pos : Pos} {tb : WX → TS} (hs : X.stack = X.env :: X.outer) (hf : X.env.frame = some X.env.locals) (hN : X.N.Nodup) (hi : X.N[i]? = some n) (hln : X.env.kindOf n = some .local)
    (tk : Takes X Wout) (hb : ∀ (W : WX) (pn : List (Addr × Obj)) (xe : Value → Shared → Prop), Takes (X.tr pn xe) W → PassesOwn (model X.prog X.w) X.A X.env xe → PSs (X.tr pn xe) body (tb W)) (cs : Clauses X n (h₀ :: hds) l) :
    PS X (.Try body (h₀ :: hds) [] [] pos) (fun D σ H => tb (wClauses X.K i Wout D l) D σ H) := by
  constructor
  intro pins s σ H D I h
  have ok := I.ok
  have frames : X.A.frames = some (X.env :: X.outer) := ok.frames.trans (congrArg some hs)
  let caught : Value → Shared → Prop := fun e s₁ => wpAny (model X.prog X.w) X.A (noteFrame e X.env) (fun _ s₂ => wpAny (model X.prog X.w) X.A (setFlight e none) (fun _ s₃ => wpAny (model X.prog X.w) X.A (handleBy e X.env (h₀ :: hds)) (SP X pins D) X.xe s₃) X.xe s₂) X.xe s₁
  have run := (hb (wClauses X.K i Wout D l) (X.pn ++ pins) caught ?taken PassesOwn.looking).run [] s σ H D (I.toTry _) h
  · refine wpAny_Try_except (wpAny_mono run (fun f s1 left => ?_) fun _ _ z => z)
    cases f
    case ret =>
      obtain ⟨v, σ1, H1, I1, r, q⟩ := left
      exact ⟨v, σ1, H1, I1.ofTry ok, r, q⟩
    case next =>
      obtain ⟨σ1, H1, I1, q⟩ := left
      exact wpAny_execs_nil ⟨σ1, H1, I1.ofTry ok, q⟩
    all_goals
      obtain ⟨σ1, H1, I1, q⟩ := left
      exact ⟨σ1, H1, I1.ofTry ok, q⟩
  case taken =>
    rintro e s' ⟨a, B, sI, pins', σ', H', cls, d, rfl, J', nb, up, sky, isNew, os, bare, wish⟩
    have J : Inv X pins σ' H' sI := J'.ofTry ok
    rw [show (X.tr (X.pn ++ pins) caught).stack = X.env :: X.outer from hs] at sky
    refine Sky.land Zc.steady frames hf sky fun h3 fly up3 => ?_
    have J3 := J.landed (s' := { s' with heap := h3 }) nb fly.1 (up.trans up3) os bare
    obtain ⟨oe, vs, at_, hz, hd⟩ := fly.there
    have apart : a ∉ frs (X.env :: X.outer) := fun m => by
      obtain ⟨_, o, e1, hno⟩ := fly.2.2.1.mem m
      cases at_.symm.trans e1
      exact hno _ hd
    have notL : a ≠ X.env.locals := fun z => apart (List.mem_filterMap.mpr ⟨X.env, List.mem_cons_self, z ▸ hf⟩)
    have notF : a ∉ X.fs := fun m => by
      obtain ⟨e, he, q⟩ := List.mem_filterMap.mp m
      exact apart (List.mem_filterMap.mpr ⟨e, List.mem_cons_of_mem _ he, q⟩)
    have S3 := J3.suite at_ hd isNew notL notF
    refine clauses_run ok hN hi hln isNew (fun is => ?_) (fun names Q E q => ?_) (fun k => ?_) (fun q => ?_) cs wish
    · exact PySem.W.exm_one J3.kIn (fun _ _ _ _ k q => wpAny_typeOf_ref (k _ _ at_) (by rw [hz.1]; exact q)) is
    · rcases names with ⟨g, dbg, m | ⟨m, v, nn⟩⟩
      · exact ld_glob (X := X.suite a ((a, oe) :: (X.pn ++ pins))) S3 g m q dbg
      · exact ld_blt (X := X.suite a ((a, oe) :: (X.pn ++ pins))) S3 g m v q nn dbg
    · refine HandSPX.lands_againZ fly fun h4 fly4 up4 => ?_
      obtain ⟨oe4, vs4, at4, hz4, hd4⟩ := fly4.there
      have J4 : Inv X pins σ' H' { s' with heap := h4 } := J.landed nb fly4.1 ((up.trans up3).trans up4) os bare
      exact k oe4 _ hz4 ⟨_, hd4⟩ (J4.suite at4 hd4 isNew notL notF)
    · obtain ⟨_, _, _, o, fs, T, _, _, at2, _, hd2, first, _⟩ := id fly
      refine wpAny_handleBy_nil ?_
      unfold PySem.passOn
      refine wpAny_bind (wpAny_field at2 hd2 first ?_)
      rw [if_neg (show ¬ ((Value.ref T == Value.none) = true) from by simp)]
      have last : wpAny (model X.prog X.w) X.A (setFlight (.ref a) X.env.frame) (fun _ s4 => wpAny (model X.prog X.w) X.A (throw (.ref a) : Sem Flow) (SP X pins D) X.xe s4) X.xe { s' with heap := h3 } := by
        rw [hf]
        refine HandSPX.setFlight_upZ fly fun h4 h4sky up4 => wpAny_throw (tk _ _ ?_)
        exact ⟨a, B, sI, pins, σ', H', cls, d, rfl, J, nb, (up.trans up3).trans up4, .inr (.inr (hs.symm ▸ h4sky)), isNew, os, bare, q⟩
      first
        | exact wpAny_bind (wpAny_pure (wpAny_bind last))
        | exact wpAny_bind last
end
end TryB
end

-- Ref
section
set_option Elab.async false
set_option linter.all false
set_option maxRecDepth 100000
set_option maxHeartbeats 4000000
namespace R
open PySem PySem.Spec PyProof.Rows L2 LamX NdefX LamP TryB
/-- what the law's own look at a call tells -/
def refD (n c m : Int) : PyData := .tuple (if 0 ≤ n ∧ n ≤ 40 then (if 2 ≤ c ∧ c ≤ 6 then (if 0 ≤ m ∧ m ≤ c then [.str "told", .int (olot n c m)] else [.str "answer", .int m]) else [.str "count", .int c]) else [.str "count", .int n])
theorem refD_n {n c m : Int} (h : ¬ Cells n) : refD n c m = .tuple [.str "count", .int n] := by
  unfold refD
  rw [if_neg (show ¬ (0 ≤ n ∧ n ≤ 40) from h)]
theorem refD_c {n c m : Int} (h : Cells n) (h2 : ¬ Cts c) : refD n c m = .tuple [.str "count", .int c] := by
  unfold refD
  rw [if_pos (show 0 ≤ n ∧ n ≤ 40 from h), if_neg (show ¬ (2 ≤ c ∧ c ≤ 6) from h2)]
theorem refD_m {n c m : Int} (h : Cells n) (h2 : Cts c) (h3 : ¬ Odds c m) : refD n c m = .tuple [.str "answer", .int m] := by
  unfold refD
  rw [if_pos (show 0 ≤ n ∧ n ≤ 40 from h), if_pos (show 2 ≤ c ∧ c ≤ 6 from h2), if_neg (show ¬ (0 ≤ m ∧ m ≤ c) from h3)]
theorem refD_t {n c m : Int} (h : Cells n) (h2 : Cts c) (h3 : Odds c m) : refD n c m = .tuple [.str "told", .int (olot n c m)] := by
  unfold refD
  rw [if_pos (show 0 ≤ n ∧ n ≤ 40 from h), if_pos (show 2 ≤ c ∧ c ≤ 6 from h2), if_pos (show 0 ≤ m ∧ m ≤ c from h3)]
section
variable {P : Program} {w : World} {K : PySem.W.Frag} {mg : Str → Option Value} {base : Heap}
def spRefused (TT : List NTab) : Sp := fun vs H Q _ => ∃ n c m : Int, vs = [.int n, .int c, .int m] ∧ Ret TT H Q fun v H' => Tp H' v (refD n c m)
def tWord (q : Str) (C : Addr) (i : Nat) : Suite := fun a cls d => tRet (tTup (tCons (tC (.str q)) (tCons (tXf a cls d C "what" (tVar i)) tNil)))
def clsRef (T : Txt K mg) : List (Value × Bool × Suite) :=
  [(.ref T.C_BadCount, true, tWord "count" T.C_BadCount 3), (.ref T.C_BadAnswer, true, tWord "answer" T.C_BadAnswer 3),
   (.ref T.C_Refused, false, fun a cls d => tRet (tTup (tCons (tC (.str "another")) (tCons (tC (.int 0)) tNil))))]
theorem ok_refused (T : Txt K mg) (TT : List NTab) : FnOk P w K mg base CX0 6 T.a_Lrefused T.d_Lrefused ["_law_cells", "_law_shades", "_law_members_here"] (spRefused TT) := by
  refine T.F_Lrefused.ok sc_Lrefused (fun vs H Q E h => ?_) (fun cdv A outer s H vs Q E hr h => ?_)
  · obtain ⟨n, c, m, rfl, _⟩ := h
    rfl
  · obtain ⟨n, c, m, rfl, k⟩ := h
    have nd := sc_Lrefused.nd
    have GC : FnOk P w K mg base (L2.CX P w) 5 T.a_odd_lot T.d_odd_lot ["n", "coats", "many"] (spOddLot T TT) := ok_odd_lot T TT
    have hr1 : Room 5 _ := hr
    refine ⟨_, pss_one (ps_try_clauses (i := 3) (n := "e") (l := clsRef T) (tb := fun W => tRet (tTup (tCons (tC (.str "told")) (tCons (tCallS (spOddLot T TT) (WE W) (tCons (tVar 0) (tCons (tVar 1) (tCons (tVar 2) tNil)))) tNil)))) (Wout := fun _ _ _ _ => False) rfl rfl nd rfl rfl takes_none5
          (fun W pn xe tk _ => pss_one (ps_ret (pe_tup (pa_cons pe_str (pa_cons (by exact (pe_callS GC hr1 rfl T.g_odd_lot T.F_odd_lot.kp T.b_odd_lot (fun σ => passAt tk σ) (by exact (pa_cons (pv 0) (pa_cons (pv 1) (pa_cons (pv 2) pa_nil)))))) pa_nil)))))
          (.one ⟨rfl, by decide, Or.inl T.e_BadCount.gC⟩ (fun a oe cls d pn hz hf => pss_one (ps_ret (pe_tup (pa_cons pe_str (pa_cons (pe_xf T.e_BadCount.xf T.e_BadCount.nw hz hf (pv 3)) pa_nil)))))
          (.one ⟨rfl, by decide, Or.inl T.e_BadAnswer.gC⟩ (fun a oe cls d pn hz hf => pss_one (ps_ret (pe_tup (pa_cons pe_str (pa_cons (pe_xf T.e_BadAnswer.xf T.e_BadAnswer.nw hz hf (pv 3)) pa_nil)))))
          (.bare ⟨rfl, by decide, Or.inl T.e_Refused.gC⟩ (fun a oe cls d pn hz hf => pss_one (ps_ret (pe_tup (pa_cons pe_str (pa_cons pe_int pa_nil))))) .none)))), ?_⟩
    have s2 : 2 ≤ sizeLine := by decide
    refine ⟨_, rfl, _, rfl, _, rfl, n, c, m, rfl, fun h1 => ?_, fun h1 h2 => ?_, fun h1 h2 h3 => ?_, fun h1 h2 h3 => ?_⟩
    · rintro v d H1 x1 hd rfl
      refine ⟨true, T.x_BadCount_BadCount, fun _ a0 na => iteT ?_, (fun z => nomatch z)⟩
      refine ⟨_, rfl, rfl, rfl, d, _, _, rfl, hd, rfl, s2, fun p0 np => k _ _ (x1.trans (Ext.new np)) ?_⟩
      rw [refD_n h1]
      exact .tup upd_same (.cons (.str _) (.cons (.int _) .nil))
    · rintro v d H1 x1 hd rfl
      refine ⟨true, T.x_BadCount_BadCount, fun _ a0 na => iteT ?_, (fun z => nomatch z)⟩
      refine ⟨_, rfl, rfl, rfl, d, _, _, rfl, hd, rfl, s2, fun p0 np => k _ _ (x1.trans (Ext.new np)) ?_⟩
      rw [refD_c h1 h2]
      exact .tup upd_same (.cons (.str _) (.cons (.int _) .nil))
    · rintro v d H1 x1 hd rfl
      refine ⟨false, T.x_BadAnswer_BadCount, (fun z => nomatch z), fun _ => ?_⟩
      refine ⟨true, T.x_BadAnswer_BadAnswer, fun _ a0 na => iteT ?_, (fun z => nomatch z)⟩
      refine ⟨_, rfl, rfl, rfl, d, _, _, rfl, hd, rfl, s2, fun p0 np => k _ _ (x1.trans (Ext.new np)) ?_⟩
      rw [refD_m h1 h2 h3]
      exact .tup upd_same (.cons (.str _) (.cons (.int _) .nil))
    · intro H1 x1
      refine ⟨s2, fun p0 np => k _ _ (x1.trans (Ext.new np)) ?_⟩
      rw [refD_t h1 h2 h3]
      exact .tup upd_same (.cons (.str _) (.cons (.int _) .nil))
end
end R
end

-- Beyond
section
set_option Elab.async false
set_option linter.all false
set_option maxRecDepth 100000
set_option maxHeartbeats 4000000
namespace R
open PySem PySem.Spec PyProof.Rows L2 LamX NdefX LamP
section
variable {P : Program} {w : World} {K : PySem.W.Frag} {mg : Str → Option Value} {base : Heap}
/-- a number outside lo to hi -/
def spBeyond (TT : List NTab) : Sp := fun vs H Q _ => ∃ (so : Addr) (lo hi : Int), vs = [.ref so, .int lo, .int hi] ∧ Src H so ∧ lo ≤ hi ∧ RetS TT so H Q fun v _ => ∃ m : Int, v = .int m ∧ (m < lo ∨ hi < m)
theorem ok_beyond (T : Txt K mg) (TT : List NTab) : FnOk P w K mg base CX0 3 T.a_Lbeyond T.d_Lbeyond ["_law_source", "_law_least", "_law_most"] (spBeyond TT) := by
  refine T.F_Lbeyond.ok sc_Lbeyond (fun vs H Q E h => ?_) (fun cdv A outer s H vs Q E hr h => ?_)
  · obtain ⟨so, lo, hi, rfl, _⟩ := h
    rfl
  · obtain ⟨so, lo, hi, rfl, hs, lh, k⟩ := h
    have nd := sc_Lbeyond.nd
    refine ⟨_, pss_cons (ps_set (i := 3) nd rfl (Or.inl rfl) (pe_call (ok_take T TT) (hr.mono (by decide)) rfl T.g_Ltake T.F_Ltake.kp T.b_Ltake .nil pass0 (pa_cons (pv 0) (pa_cons (pe_op op_pow pe_int pe_int) pa_nil))))
      (pss_one (ps_ret (pe_call (ok_one T TT) (hr.mono (by decide)) rfl T.g_Lone T.F_Lone.kp T.b_Lone .nil pass0 (pa_cons (pv 0) (pa_cons (pe_lst (pa_cons (pe_op op_sub (pv 1) pe_int) (pa_cons (pe_op op_add (pv 2) pe_int) (pa_cons (pe_op op_add (pv 2) pe_int)
        (pa_cons (pe_op op_sub (pe_op op_sub (pv 1) pe_int) (pv 3)) (pa_cons (pe_op op_add (pe_op op_add (pv 2) pe_int) (pv 3)) pa_nil)))))) pa_nil))))), ?_⟩
    refine ⟨_, rfl, _, _, rfl, rfl, ⟨by decide, by decide, by decide⟩, so, _, rfl, hs, by decide, by decide, fun v H1 x1 s1 hv => ?_⟩
    obtain ⟨f, rfl, f0, _⟩ := hv
    refine ⟨_, rfl, _, rfl, _, _, rfl, rfl, _, rfl, _, _, rfl, rfl, _, rfl, _, _, rfl, rfl, _, rfl, _, _, rfl, rfl, _, rfl, _, _, rfl, rfl, _, rfl, _, _, rfl, rfl, _, rfl, _, _, rfl, rfl, (by show 5 ≤ sizeLine; decide), fun l nl => ?_⟩
    have ne := src_ne s1 nl
    have x2 := x1.trans (Ext.new (o := .lst [.int (lo - 1), .int (hi + 1), .int (hi + 1), .int (lo - 2 - f), .int (hi + 2 + f)]) nl)
    refine ⟨so, l, _, rfl, x2.src hs, upd_same, ne, by show 0 < 5; decide, by show 5 < 1000; decide, fun v H2 x3 s3 hv => ?_⟩
    refine k _ _ (x2.trans x3) s3 ?_
    simp only [List.mem_cons, List.not_mem_nil, or_false] at hv
    rcases hv with z | z | z | z | z <;> exact ⟨_, z, by omega⟩
end
end R
end

-- Kw
section
set_option Elab.async false
set_option linter.all false
set_option maxRecDepth 100000
set_option maxHeartbeats 4000000
/-! Kw: a def called by keywords alone. -/
namespace KwX
open PySem PySem.Spec PyProof.Rows L2
/-- the keywords' values, put in the parameters' order by g -/
theorem fun_kbn {K : PySem.W.Frag} {x qual : Str} {st : Stmt} {f : Addr} {fd : FuncData} (F : Fun K x qual st f fd) {ps ks : List Str} (g : List Value → List Value) (gV : List V → List V)
    (h : ∀ (kV doc pm : Value) (an : Option Addr) (cdv ct : Value) (ws : List Value), ws.length = ks.length → bindArgs (PySem.W.fnOf x qual (defArgs st) (defBody st) (defScope st) .none kV doc pm an cdv ct) ⟨[], ks.zip ws⟩ = pure (ps.zip (g ws)))
    (hv : ∀ {zs : List V} {ws : List Value}, Vals zs ws → Vals (gV zs) (g ws)) : KBn K fd ps 0 ks (fun _ ws => g ws) (fun _ zs => gV zs) := by
  obtain ⟨oc, od, kV, doc, pm, an, cdv, ct, osl, rfl, _, _⟩ := F.ex
  refine ⟨fun s us ws _ l1 l2 => ?_, fun _ r => hv r⟩
  cases us with
  | nil => exact .of_eq (h kV doc pm an cdv ct ws l2)
  | cons _ _ => cases l1
def tCallKw (m : Nat) (sp : Sp) (gV : List V → List V) (E : XK) (tk : TA) : TE := fun σ H Q => tk σ H fun zs H2 => zs.length = m ∧ sp (gV zs) H2 Q E
section
variable {X : Cx} {CX : CXT} {k : Nat} {f : Addr} {fd : FuncData} {ps ks : List Str} {sp : Sp} {E : XK} {x : Str} {p pos : Pos} {kws : List Keyword} {tk : TA} {g : List Value → List Value} {gV : List V → List V}
theorem pe_callKw (F : FnOk X.prog X.w X.K X.mg X.base CX k f fd ps sp) (hr : Room k X.A) (hg : Gl X x) (hm : X.mg x = some (.ref f)) (hk : PySem.W.keepIn X.K (.ref f) = true) (hb : KBn X.K fd ps 0 ks (fun _ ws => g ws) (fun _ zs => gV zs)) (hx : Passes CX X E)
    (args : PK X kws tk) (all : (backToKw pos (keywordEach kws X.env)).all (·.1.isSome) = true := by rfl) (names : (backToKw pos (keywordEach kws X.env)).filterMap (·.1) = ks := by rfl)
    (dbg : (x == ("__debug__" : Str)) = false := by decide) (plain : ((backTo pos (starEach [] X.env)).any (·.1) || (backToKw pos (keywordEach kws X.env)).any (·.1.isNone)) = false := by rfl) :
    PE X (.Call (.Name x p) [] kws pos) (tCallKw ks.length sp gV E tk) := by
  constructor
  intro pins s σ H Q I h
  refine wpAny_Call_Name_kw (ld_glob I hg hm ?_ dbg)
  refine PySem.W.callWith_KW0 (h₀ := X.base) I.ok.mod.kin hk all ?_ plain
  refine thn (args.run pos pins s σ H _ I h) ?_
  rintro ws s2 ⟨zs, H2, I2, rz, l2, q2⟩
  refine ⟨I2.kIn, ?_⟩
  rw [names]
  exact run_fnN (n := 0) (vs := []) F hr hb hx I2 .nil rz rfl l2 q2
end
end KwX
end

-- LawL
section
set_option Elab.async false
set_option linter.all false
set_option maxRecDepth 100000
set_option maxHeartbeats 4000000
namespace R
open PySem PySem.Spec PyProof.Rows L2 LamX NdefX LamP KwX BlkX
theorem shaped_of {d : PyData} (h1 : d.canLay0 = true) (h2 : d.depth ≤ 64) : SeqAt.shaped d = true := by
  show (d.canLay0 && decide (d.depth ≤ 64)) = true
  rw [Bool.and_eq_true]
  exact ⟨h1, decide_eq_true h2⟩
theorem lay2 (q : Str) (i : Int) (hq : PyData.strOk q = true) : (PyData.tuple [.str q, .int i]).canLay0 = true := by simp [PyData.canLay0, PyData.canLayAll0, hq]
theorem shaped2 (q : Str) (i : Int) (hq : PyData.strOk q = true := by decide +kernel) : SeqAt.shaped (.tuple [.str q, .int i]) = true := shaped_of (lay2 q i hq) (by simp [PyData.depth, PyData.depthAll])
theorem eqv2 (q : Str) (i : Int) (hq : PyData.strOk q = true) : PyData.eqv (.tuple [.str q, .int i]) (.tuple [.str q, .int i]) = true := SeqAt.eqv_refl _ (lay2 q i hq)
/-- many, n, coats -> n, coats, many -/
def rot {α : Type} : List α → List α
  | [a, b, c] => [b, c, a]
  | l => l
theorem vals_rot : ∀ {zs : List V} {ws : List Value}, Vals zs ws → Vals (rot zs) (rot ws)
  | _, _, .nil => .nil
  | _, _, .cons r .nil => .cons r .nil
  | _, _, .cons r (.cons r' .nil) => .cons r (.cons r' .nil)
  | _, _, .cons r (.cons r' (.cons r'' .nil)) => .cons r' (.cons r'' (.cons r .nil))
  | _, _, .cons r (.cons r' (.cons r'' (.cons s t))) => .cons r (.cons r' (.cons r'' (.cons s t)))
section
variable {P : Program} {w : World} {K : PySem.W.Frag} {mg : Str → Option Value} {base : Heap}
theorem kb_odd_lot (T : Txt K mg) : KBn K T.d_odd_lot ["n", "coats", "many"] 0 ["many", "n", "coats"] (fun _ ws => rot ws) (fun _ zs => rot zs) :=
  fun_kbn T.F_odd_lot rot rot (fun _ _ _ _ _ _ ws hl => match ws, hl with | [_, _, _], _ => rfl) vals_rot
def spLaw (K : PySem.W.Frag) (TT : List NTab) : Sp := fun vs H Q _ => ∃ (l : Addr) (ns : List Int), vs = [.ref l] ∧ SqL K H l (ns.map V.int) ∧ (∀ z ∈ ns, Builtin.Int.intBits z ≤ 1048576) ∧ TabsN TT H ∧ ∀ H', Q (.bl true) H'
theorem ok_law (T : Txt K mg) (TT : List NTab) : FnOk P w K mg base CX0 7 T.a_law T.d_law ["_law_script"] (spLaw K TT) := by
  refine T.F_law.ok sc_law (fun vs H Q E h => ?_) (fun cdv A outer s H vs Q E hr h => ?_)
  · obtain ⟨l, ns, rfl, _⟩ := h
    rfl
  · obtain ⟨l0, ns, rfl, hl0, hb, hT, k⟩ := h
    have nd := sc_law.nd
    have px : Passes (L2.CX P w) (cxOf CX0 P w K mg base N_law "law" (defScope s_law) T.a_law cdv A outer s H E).nox (fun _ _ _ => False) := passes_call takes_none5 (fun _ _ _ _ h => h)
    refine ⟨_, (pss_cons (ps_set (i := 1) nd rfl (Or.inl rfl) (pe_call (ok_pool T TT) (hr.mono (by decide)) rfl T.g_Lpool T.F_Lpool.kp T.b_Lpool .nil pass0 (pa_cons (pv 0) (pa_cons pe_int pa_nil))))
        (pss_cons (ps_set (i := 2) nd rfl (Or.inr rfl) (pe_op op_add pe_int (pe_call (ok_take T TT) (hr.mono (by decide)) rfl T.g_Ltake T.F_Ltake.kp T.b_Ltake .nil pass0 (pa_cons (pv 1) (pa_cons pe_int pa_nil)))))
        (pss_cons (ps_set (i := 3) nd rfl (Or.inr rfl) (pe_call (ok_one T TT) (hr.mono (by decide)) rfl T.g_Lone T.F_Lone.kp T.b_Lone .nil pass0 (pa_cons (pv 1) (pa_cons (pe_lst (pa_cons pe_int (pa_cons pe_int (pa_cons pe_int (pa_cons pe_int (pa_cons pe_int (pa_cons pe_int (pa_cons pe_int (pa_cons pe_int (pa_cons pe_int (pa_cons pe_int (pa_cons pe_int (pa_cons (pe_call (ok_take T TT) (hr.mono (by decide)) rfl T.g_Ltake T.F_Ltake.kp T.b_Ltake .nil pass0 (pa_cons (pv 1) (pa_cons pe_int pa_nil))) pa_nil))))))))))))) pa_nil))))
        (pss_cons (ps_set (i := 4) nd rfl (Or.inr rfl) (pe_call (ok_bits T TT) (hr.mono (by decide)) rfl T.g_Lbits T.F_Lbits.kp T.b_Lbits .nil pass0 (pa_cons (pv 2) pa_nil)))
        (pss_cons (ps_set (i := 5) nd rfl (Or.inl rfl) (pe_call (ok_table T TT) (hr.mono (by decide)) rfl T.g_Ltable T.F_Ltable.kp T.b_Ltable .nil pass0 (pa_cons (pv 3) (pa_cons (pv 4) pa_nil))))
        (pss_cons (ps_set (i := 6) nd rfl (Or.inr rfl) (pe_lc (own := [("_law_members_here", 14)]) (g := gName 14) (tt := tYes) rfl nd (pi_range1 (by rfl) T.n_range (pa_cons (pe_op op_add (pv 2) pe_int) pa_nil)) (blkOk_by (own := [("_law_members_here", 14)]) (N := N_law) (sc := defScope s_law) (by decide +kernel)) (fun _ _ _ _ _ => (pg_name (i := 14) nd rfl (Or.inl rfl))) (fun _ _ _ _ _ => pts_nil) (fun _ _ _ _ _ => (pe_call (ok_odd_lot T TT) (hr.mono (by decide)) rfl T.g_odd_lot T.F_odd_lot.kp T.b_odd_lot .nil (passes_call takes_none5 (fun _ _ _ _ h => h)) (pa_cons (pv 3) (pa_cons (pv 2) (pa_cons (pv 14) pa_nil)))))))
        (pss_cons (ps_for PassesOwn.never rfl (pi_list (pv 6)) (pg_name (i := 7) nd rfl (Or.inl rfl))
          (pss_one (ps_if (PW.pt (pw_or (pt_not (pt_val (pe_callB call_isi (by rfl) T.n_isinstance (by decide +kernel) (pa_cons (pv 7) (pa_cons (pe_bltn (v := .ty "int") (u := Value.type "int") (by rfl) T.n_int (by decide +kernel) rfl) pa_nil))))) (pw_or1 (pt_val (pe_callB call_isi (by rfl) T.n_isinstance (by decide +kernel) (pa_cons (pv 7) (pa_cons (pe_bltn (v := .ty "bool") (u := Value.type "bool") (by rfl) T.n_bool (by decide +kernel) rfl) pa_nil))))))) (pss_one (ps_ret pe_bl)) pss_nil)))
        (pss_cons (ps_for PassesOwn.never rfl (pi_list (pe_lst (pa_cons (pe_call (ok_take T TT) (hr.mono (by decide)) rfl T.g_Ltake T.F_Ltake.kp T.b_Ltake .nil pass0 (pa_cons (pv 1) (pa_cons (pe_callB call_len_seq (by rfl) T.n_len PySem.boot_len (pa_cons (pv 5) pa_nil)) pa_nil))) (pa_cons pe_int (pa_cons (pe_op op_sub (pe_callB call_len_seq (by rfl) T.n_len PySem.boot_len (pa_cons (pv 5) pa_nil)) pe_int) (pa_cons (pe_call (ok_take T TT) (hr.mono (by decide)) rfl T.g_Ltake T.F_Ltake.kp T.b_Ltake .nil pass0 (pa_cons (pv 1) (pa_cons (pe_callB call_len_seq (by rfl) T.n_len PySem.boot_len (pa_cons (pv 5) pa_nil)) pa_nil))) pa_nil)))))) (pg_name (i := 8) nd rfl (Or.inl rfl))
          (pss_one (ps_if (pt_cmpR op_ne (pe_ix ix_list (pv 5) (pv 8) (fun _ _ => rfl)) (pe_ix ix_list (pv 6) (pe_call (ok_members T TT) (hr.mono (by decide)) rfl T.g_Lmembers T.F_Lmembers.kp T.b_Lmembers .nil pass0 (pa_cons (pv 8) (pa_cons (pv 4) pa_nil))) (fun _ _ => rfl)) (nomark _)) (pss_one (ps_ret pe_bl)) pss_nil)))
        (pss_cons (ps_set (i := 9) nd rfl (Or.inl rfl) pe_int)
        (pss_cons (ps_for PassesOwn.never rfl (pi_range1 (by rfl) T.n_range (pa_cons (pv 3) pa_nil)) (pg_name (i := 10) nd rfl (Or.inl rfl))
          (pss_one (ps_set (i := 9) nd rfl (Or.inl rfl) (pe_op op_mul (pv 9) (pv 2)))))
        (pss_cons (ps_if (pt_cmpR op_ne (pe_callB (cr_sum rfl) (by rfl) T.n_sum (by decide +kernel) (pa_cons (pe_lc (own := [("_law_mark", 8)]) (g := gName 8) (tt := tYes) rfl nd (pi_range1 (by rfl) T.n_range (pa_cons (pe_callB call_len_seq (by rfl) T.n_len PySem.boot_len (pa_cons (pv 5) pa_nil)) pa_nil)) (blkOk_by (own := [("_law_mark", 8)]) (N := N_law) (sc := defScope s_law) (by decide +kernel)) (fun _ _ _ _ _ => (pg_name (i := 8) nd rfl (Or.inl rfl))) (fun _ _ _ _ _ => pts_nil) (fun _ _ _ _ _ => (pe_ix (ixl K) (pv 6) (pe_call (ok_members T TT) (hr.mono (by decide)) rfl T.g_Lmembers T.F_Lmembers.kp T.b_Lmembers .nil pass0 (pa_cons (pv 8) (pa_cons (pv 4) pa_nil))) (fun _ _ => rfl)))) pa_nil)) (pv 9) (nomark _)) (pss_one (ps_ret pe_bl)) pss_nil)
        (pss_cons (ps_if (pt_cmpR op_ne (KwX.pe_callKw (ok_odd_lot T TT) (hr.mono (by decide)) rfl T.g_odd_lot T.F_odd_lot.kp (kb_odd_lot T) px (pk_cons (pv 2) (pk_cons (pv 3) (pk_cons (pv 2) pk_nil)))) (pe_ix ix_list (pv 6) (pv 2) (fun _ _ => rfl)) (nomark _)) (pss_one (ps_ret pe_bl)) pss_nil)
        (pss_cons (ps_par3 (i := 11) (j := 12) (l := 13) rfl nd rfl rfl rfl (by decide) (by decide) (by decide) rfl rfl rfl (pa_cons (pe_call (ok_beyond T TT) (hr.mono (by decide)) rfl T.g_Lbeyond T.F_Lbeyond.kp T.b_Lbeyond .nil pass0 (pa_cons (pv 1) (pa_cons pe_int (pa_cons pe_int pa_nil)))) (pa_cons (pe_call (ok_beyond T TT) (hr.mono (by decide)) rfl T.g_Lbeyond T.F_Lbeyond.kp T.b_Lbeyond .nil pass0 (pa_cons (pv 1) (pa_cons pe_int (pa_cons pe_int pa_nil)))) (pa_cons (pe_call (ok_beyond T TT) (hr.mono (by decide)) rfl T.g_Lbeyond T.F_Lbeyond.kp T.b_Lbeyond .nil pass0 (pa_cons (pv 1) (pa_cons pe_int (pa_cons (pv 2) pa_nil)))) pa_nil))) (by rfl))
        (pss_cons (ps_if (PW.pt (pw_or (pt_cmpR (op_neD hr.units) (pe_call (ok_refused T TT) (hr.mono (by decide)) rfl T.g_Lrefused T.F_Lrefused.kp T.b_Lrefused .nil pass0 (pa_cons (pv 3) (pa_cons (pv 2) (pa_cons (pv 13) pa_nil)))) (pe_tup (pa_cons pe_str (pa_cons (pv 13) pa_nil))) (nomark _)) (pw_or1 (pt_cmpR (op_neD hr.units) (pe_call (ok_refused T TT) (hr.mono (by decide)) rfl T.g_Lrefused T.F_Lrefused.kp T.b_Lrefused .nil pass0 (pa_cons (pv 3) (pa_cons (pv 12) (pa_cons (pv 13) pa_nil)))) (pe_tup (pa_cons pe_str (pa_cons (pv 12) pa_nil))) (nomark _))))) (pss_one (ps_ret pe_bl)) pss_nil)
        (pss_one (ps_ret (pe_and (pe_cmpR (op_eqD hr.units) (pe_call (ok_refused T TT) (hr.mono (by decide)) rfl T.g_Lrefused T.F_Lrefused.kp T.b_Lrefused .nil pass0 (pa_cons (pv 11) (pa_cons (pv 12) (pa_cons (pv 13) pa_nil)))) (pe_tup (pa_cons pe_str (pa_cons (pv 11) pa_nil))) (nomark _)) (pe_one (pe_cmpR (op_eqD hr.units) (pe_call (ok_refused T TT) (hr.mono (by decide)) rfl T.g_Lrefused T.F_Lrefused.kp T.b_Lrefused .nil pass0 (pa_cons (pv 11) (pa_cons (pv 2) (pa_cons pe_int pa_nil)))) (pe_tup (pa_cons pe_str (pa_cons (pv 11) pa_nil))) (nomark _)))))))))))))))))))), ?_⟩
    have s2 : 2 ≤ sizeLine := by decide
    refine ⟨_, rfl, l0, ns, 0, rfl, by omega, by omega, hl0, hb, fun v H2 x2 hv => ?_⟩
    obtain ⟨so, rfl, q2, nso⟩ := hv
    refine ⟨_, rfl, so, 5, rfl, q2, by decide, by decide, fun v H3 x3 q3 hv => ?_⟩
    obtain ⟨c0, rfl, c1, c2⟩ := hv
    refine ⟨_, _, rfl, rfl, ?_⟩
    refine ⟨_, rfl, _, rfl, so, 41, rfl, q3, by decide, by decide, fun v H4 x4 q4 hv => ?_⟩
    obtain ⟨n0, rfl, n1, n2⟩ := hv
    refine ⟨(by show 12 ≤ sizeLine; decide), fun l nl => ?_⟩
    obtain ⟨x5, h5⟩ := newX (TT := TT) (so := some so) (o := .lst [.int 0, .int 1, .int 2, .int 3, .int 4, .int 5, .int 6, .int 7, .int 8, .int 9, .int 40, .int n0]) (Ext.refl _ _ H4) nl
    refine ⟨so, l, _, rfl, x5.src q4, h5, src_ne q4 nl, by show 0 < 12; decide, by show 12 < 1000; decide, fun v H6 x6 q6 hv => ?_⟩
    have hn : ∃ n : Int, v = .int n ∧ Cells n := by
      simp only [List.mem_cons, List.not_mem_nil, or_false] at hv
      rcases hv with z | z | z | z | z | z | z | z | z | z | z | z <;> exact ⟨_, z, by omega, by omega⟩
    obtain ⟨n, rfl, hn⟩ := hn
    have hn' : 0 ≤ n ∧ n ≤ 40 := hn
    obtain ⟨C, hC⟩ : ∃ C : Nat, (2 + c0) = (C : Int) := ⟨(2 + c0).toNat, by omega⟩
    have hc : Cts (2 + c0) := ⟨by omega, by omega⟩
    have hC2 : 2 ≤ C ∧ C ≤ 6 := by omega
    have eC : (2 + c0).toNat = C := by omega
    obtain ⟨N, hN⟩ : ∃ N : Nat, n = (N : Int) := ⟨n.toNat, by omega⟩
    have eN : n.toNat = N := by omega
    have hN2 : N ≤ 40 := by omega
    have p2 := two64 hC2.2
    have p1 := Nat.two_pow_pos C
    have rl := olRow_len C N
    have tl0 := tb_len C N
    refine ⟨_, rfl, 2 + c0, rfl, hc, fun bl H7 x7 nbl hbl => ?_⟩
    rw [eC] at hbl
    refine ⟨_, rfl, _, rfl, n, C, bl, rfl, hn, by omega, by omega, hbl, fun tl H8 x8 ntl htl => ?_⟩
    rw [eN] at htl
    have q8 := (x7.trans x8).toS.src q6
    have nbl0 : bl ≠ so := src_ne q6 nbl
    have ntl0 : tl ≠ so := src_ne (x7.toS.src q6) ntl
    refine ⟨_, rfl, _, _, rfl, rfl, 2 + c0 + 1, rfl, by omega, by omega, fun D hD => ?_⟩
    have nD0 : D ≠ so := src_ne q8 hD
    refine lc_it walk_range (fun j H' => Ext TT none H8 H' ∧ H' D = some (.lst (((olRow C N).take j).map nV))) ⟨Ext.new hD, upd_same⟩ (fun _ _ _ _ => trivial) (fun j x H10 H9 hj e y => ?_) (fun H9 e => ?_)
    · obtain ⟨rfl, rfl⟩ := y
      obtain ⟨x9, h9⟩ := e
      refine ⟨rfl, ?_⟩
      dsimp only [tYes]
      refine iteT ?_
      have ho : Odds (2 + c0) (0 + (j : Int)) := ⟨by omega, by omega⟩
      refine ⟨_, rfl, _, rfl, _, rfl, n, 2 + c0, 0 + (j : Int), rfl, fun z => absurd hn z, fun _ z => absurd hc z, fun _ _ z => absurd ho z, fun _ _ _ H11 x11 => ?_⟩
      have h11 := x11.lst h9
      refine ⟨_, h11, by rw [List.length_map, List.length_take]; exact small1000 (by omega), (x9.trans x11).mutL hD h11 (fun z => nomatch z), ?_⟩
      have eo : olot n (2 + c0) (0 + (j : Int)) = (((olRow C N).getD j 0 : Nat) : Int) := by
        unfold olot
        rw [eC, eN, show (0 + (j : Int)).toNat = j by omega]
      rw [eo, upd_same, ← take_succ (getD_at 0 (by omega : j < (olRow C N).length)), List.map_append] <;> rfl
    · obtain ⟨x9, h9⟩ := e
      rw [List.take_of_length_le (by omega)] at h9
      have q9 := x9.toS.src q8
      have hb9 := x9.lst (x8.lst hbl)
      have ht9 := x9.lst htl
      refine ⟨_, rfl, D, rfl, ⟨_, SqL.of h9⟩, for_list (xs := (olRow C N).map nV) (fun _ σ H' => ∃ u7, σ = [some (.ref l0), some (.ref so), some (.int (2 + c0)), some (.int n), some (.ref bl), some (.ref tl), some (.ref D), u7, none, none, none, none, none, none, none] ∧ H9 = H') ⟨none, rfl, rfl⟩ ?_ ?_ ?_⟩
      · rintro i σ _ _ ⟨u7, rfl, rfl⟩
        exact SqL.of h9
      · rintro i x σ _ hx ⟨u7, rfl, rfl⟩
        rw [List.getElem?_map] at hx
        cases ez : (olRow C N)[i]? with
        | none => rw [ez] at hx; cases hx
        | some z =>
          rw [ez] at hx
          cases hx
          refine ⟨_, rfl, _, _, .type "int", .type "int", true, rfl, .ty _, .base (.int _), kit_ty (by decide +kernel), _, rfl, ?_⟩
          refine iteF' rfl ?_
          refine ⟨_, rfl, _, _, .type "int", .type "bool", false, rfl, .ty _, .base (.int _), kit_ty (by decide +kernel), _, rfl, ?_⟩
          refine iteF ?_
          exact ⟨_, rfl, rfl⟩
      · rintro σ _ ⟨u7, rfl, rfl⟩
        -- the marks
        have kn : ∀ {A B : Hp}, Ext TT (some so) A B → (Src A so ∧ A bl = some (.lst ((bitsN C).map nV)) ∧ A tl = some (.lst ((tbT C N).map nV)) ∧ A D = some (.lst ((olRow C N).map nV))) → (Src B so ∧ B bl = some (.lst ((bitsN C).map nV)) ∧ B tl = some (.lst ((tbT C N).map nV)) ∧ B D = some (.lst ((olRow C N).map nV))) :=
          fun x z => ⟨x.src z.1, x.lstS nbl0 z.2.1, x.lstS ntl0 z.2.2.1, x.lstS nD0 z.2.2.2⟩
        have k9 : Src H9 so ∧ H9 bl = some (.lst ((bitsN C).map nV)) ∧ H9 tl = some (.lst ((tbT C N).map nV)) ∧ H9 D = some (.lst ((olRow C N).map nV)) := ⟨q9, hb9, ht9, h9⟩
        have tlen : ((tbT C N).map nV).length = 2 ^ C := by rw [List.length_map, tl0]
        refine ⟨_, rfl, _, rfl, tl, _, rfl, .inl (SqL.of ht9), so, _, rfl, q9, by omega, by omega, fun v H10 x10 q10 hv => ?_⟩
        obtain ⟨m1, rfl, m1a, m1b⟩ := hv
        have k10 := kn x10 k9
        refine ⟨_, rfl, tl, _, rfl, .inl (SqL.of k10.2.2.1), _, _, rfl, rfl, ?_⟩
        refine ⟨_, rfl, _, rfl, tl, _, rfl, .inl (SqL.of k10.2.2.1), so, _, rfl, q10, by omega, by omega, fun v H11 x11 q11 hv => ?_⟩
        obtain ⟨m2, rfl, m2a, m2b⟩ := hv
        have k11 := kn x11 k10
        refine ⟨(by show 4 ≤ sizeLine; decide), fun ml nml => ?_⟩
        obtain ⟨x12, h12⟩ := newX (TT := TT) (so := some so) (o := .lst [.int m1, .int 0, .int ((((tbT C N).map nV).length : Int) - 1), .int m2]) (Ext.refl _ _ H11) nml
        have k12 := kn x12 k11
        have nml0 : ml ≠ so := src_ne q11 nml
        generalize upd H11 ml _ = H12 at x12 h12 k12 ⊢
        refine ⟨ml, rfl, ⟨_, SqL.of h12⟩, for_list (xs := [.int m1, .int 0, .int ((((tbT C N).map nV).length : Int) - 1), .int m2]) (fun _ σ H' => ∃ u7 u8, σ = [some (.ref l0), some (.ref so), some (.int (2 + c0)), some (.int n), some (.ref bl), some (.ref tl), some (.ref D), u7, u8, none, none, none, none, none, none] ∧ Ext TT (some so) H12 H') ⟨u7, none, rfl, Ext.refl ..⟩ ?_ ?_ ?_⟩
        · rintro i σ H13 _ ⟨u7, u8, rfl, x13⟩
          exact SqL.of (x13.lstS nml0 h12)
        · rintro i x σ H13 hx ⟨u7, u8, rfl, x13⟩
          have k13 := kn x13 k12
          have hm : ∃ m : Nat, x = nV m ∧ m < 2 ^ C := by
            have z := List.mem_of_getElem? hx
            simp only [List.mem_cons, List.not_mem_nil, or_false] at z
            rw [tlen] at z m1b m2b
            rcases z with z | z | z | z
            · exact ⟨m1.toNat, by rw [z]; exact congrArg V.int (by omega), by omega⟩
            · exact ⟨0, z, by omega⟩
            · exact ⟨2 ^ C - 1, by rw [z]; exact congrArg V.int (by omega), by omega⟩
            · exact ⟨m2.toNat, by rw [z]; exact congrArg V.int (by omega), by omega⟩
          obtain ⟨m, rfl, hm⟩ := hm
          refine ⟨_, rfl, _, rfl, tl, _, _, _, rfl, rfl, SqL.of k13.2.2.1, at_nV (i := m) (by omega), ?_⟩
          refine ⟨_, rfl, _, rfl, _, rfl, m, C, bl, rfl, by omega, k13.2.1, fun H14 x14 => ?_⟩
          have k14 := kn x14.toS k13
          refine ⟨D, _, _, _, rfl, rfl, SqL.of k14.2.2.2, at_nV (i := memN C m) (by have := mem_le C m; omega), ?_⟩
          refine ⟨rfl, _, rfl, ?_⟩
          rw [tb_ol hC2 hN2 hm]
          refine iteF' (by simp) ?_
          exact ⟨_, _, rfl, x13.trans x14.toS⟩
        · rintro σ H13 ⟨u7, u8, rfl, x13⟩
          have k13 := kn x13 k12
          refine ⟨_, rfl, n, rfl, by omega, by omega, for_range (lo := 0) (n := n.toNat) (fun i σ H' => ∃ u10, σ = [some (.ref l0), some (.ref so), some (.int (2 + c0)), some (.int n), some (.ref bl), some (.ref tl), some (.ref D), u7, u8, some (nV (C ^ i)), u10, none, none, none, none] ∧ H13 = H') ⟨none, rfl, rfl⟩ ?_ ?_⟩
          · rintro i σ _ hi ⟨u10, rfl, rfl⟩
            refine ⟨_, rfl, _, rfl, _, _, rfl, rfl, .inr ⟨by omega, by omega⟩, some (.int (0 + (i : Int))), ?_, rfl⟩
            rw [hC]
            show _ = [_, _, _, _, _, _, _, _, _, some (V.int ((C ^ (i + 1) : Nat) : Int)), _, _, _, _, _]
            rw [Nat.pow_succ, Int.natCast_mul] <;> rfl
          · rintro σ _ ⟨u10, rfl, rfl⟩
            refine ⟨_, rfl, tl, _, rfl, .inl (SqL.of k13.2.2.1), _, rfl, by omega, by omega, fun D2 hD2 => ?_⟩
            rw [tlen, Int.toNat_natCast]
            refine lc_it walk_range (fun j H' => Ext TT none H13 H' ∧ H' D2 = some (.lst (((List.range j).map fun m => (olRow C N).getD (memN C m) 0).map nV))) ⟨Ext.new hD2, upd_same⟩ (fun _ _ _ _ => trivial) (fun j x H15 H14 hj e y => ?_) (fun H14 e => ?_)
            · obtain ⟨rfl, rfl⟩ := y
              obtain ⟨x14, h14⟩ := e
              have k14 := kn x14.toS k13
              refine ⟨rfl, ?_⟩
              dsimp only [tYes]
              refine iteT ?_
              refine ⟨_, rfl, _, rfl, _, rfl, j, C, bl, ?_, by omega, k14.2.1, fun H16 x16 => ?_⟩
              · show [V.int (0 + (j : Int)), V.ref bl] = _
                rw [Int.zero_add] <;> rfl
              have k16 := kn x16.toS k14
              have h16 := x16.lst h14
              refine ⟨D, _, _, _, rfl, rfl, SqL.of k16.2.2.2, at_nV (i := memN C j) (by have := mem_le C j; omega), ?_⟩
              refine ⟨_, h16, by rw [List.length_map, List.length_map, List.length_range]; exact small1000 (by omega), (x14.trans x16).mutL hD2 h16 (fun z => nomatch z), ?_⟩
              rw [upd_same, List.range_succ, List.map_append, List.map_append] <;> rfl
            · obtain ⟨x14, h14⟩ := e
              obtain ⟨zs, e1, e2⟩ := sum_nV ((List.range (2 ^ C)).map fun m => (olRow C N).getD (memN C m) 0)
              refine ⟨D2, zs, rfl, SqL.of (by rw [h14, e1]), ?_⟩
              refine ⟨_, rfl, rfl, _, rfl, ?_⟩
              rw [e2, ol_sum hC2 hN2, eN]
              refine iteF' (by simp [nV]) ?_
              have k14 := kn x14.toS k13
              have ho : Odds (2 + c0) (2 + c0) := ⟨by omega, by omega⟩
              refine ⟨_, rfl, _, rfl, _, rfl, rfl, n, 2 + c0, 2 + c0, rfl, fun z => absurd hn z, fun _ z => absurd hc z, fun _ _ z => absurd ho z, fun _ _ _ H15 x15 => ?_⟩
              have k15 := kn x15.toS k14
              refine ⟨_, rfl, _, rfl, D, _, _, nV ((olRow C N).getD C 0), rfl, rfl, SqL.of k15.2.2.2, by rw [hC]; exact at_nV (by omega), ?_⟩
              refine ⟨rfl, _, rfl, ?_⟩
              have eo : olot n (2 + c0) (2 + c0) = (((olRow C N).getD C 0 : Nat) : Int) := by
                unfold olot
                rw [eC, eN]
              rw [eo]
              refine iteF' (by simp [nV]) ?_
              refine ⟨_, rfl, so, 0, 40, rfl, k15.1, by decide, fun v H16 x16 q16 hv => ?_⟩
              obtain ⟨bad, rfl, hbad⟩ := hv
              refine ⟨_, rfl, so, 2, 6, rfl, q16, by decide, fun v H17 x17 q17 hv => ?_⟩
              obtain ⟨sh, rfl, hsh⟩ := hv
              refine ⟨_, rfl, _, rfl, so, 0, 2 + c0, rfl, q17, by omega, fun v H18 x18 q18 hv => ?_⟩
              obtain ⟨odd, rfl, hodd⟩ := hv
              refine ⟨_, _, _, rfl, ?_⟩
              have nbad : ¬ Cells bad := fun z => by unfold Cells at z; omega
              have nsh : ¬ Cts sh := fun z => by unfold Cts at z; omega
              have nodd : ¬ Odds (2 + c0) odd := fun z => by unfold Odds at z; omega
              refine ⟨_, rfl, _, rfl, _, rfl, n, 2 + c0, odd, rfl, fun v H19 x19 hv => ?_⟩
              rw [refD_m hn hc nodd] at hv
              refine ⟨_, rfl, s2, fun t1 nt1 => ?_⟩
              refine ⟨_, _, (hv.mono (TK.new nt1)).dp, (Tp.tup upd_same (.cons (.str _) (.cons (.int _) .nil))).dp, shaped2 _ _, shaped2 _ _, _, rfl, ?_⟩
              rw [eqv2 _ _ (by decide +kernel)]
              refine iteF ?_
              refine ⟨_, rfl, _, rfl, _, rfl, n, sh, odd, rfl, fun v H20 x20 hv => ?_⟩
              rw [refD_c hn nsh] at hv
              refine ⟨_, rfl, s2, fun t2 nt2 => ?_⟩
              refine ⟨_, _, (hv.mono (TK.new nt2)).dp, (Tp.tup upd_same (.cons (.str _) (.cons (.int _) .nil))).dp, shaped2 _ _, shaped2 _ _, _, rfl, ?_⟩
              rw [eqv2 _ _ (by decide +kernel)]
              refine iteF ?_
              refine ⟨_, rfl, _, rfl, _, rfl, bad, sh, odd, rfl, fun v H21 x21 hv => ?_⟩
              rw [refD_n nbad] at hv
              refine ⟨_, rfl, s2, fun t3 nt3 => ?_⟩
              refine ⟨_, _, (hv.mono (TK.new nt3)).dp, (Tp.tup upd_same (.cons (.str _) (.cons (.int _) .nil))).dp, shaped2 _ _, shaped2 _ _, ?_⟩
              rw [eqv2 _ _ (by decide +kernel)]
              refine ⟨_, rfl, iteT ?_⟩
              refine ⟨_, rfl, _, rfl, bad, 2 + c0, 0, rfl, fun v H22 x22 hv => ?_⟩
              rw [refD_n nbad] at hv
              refine ⟨_, rfl, s2, fun t4 nt4 => ?_⟩
              refine ⟨_, _, (hv.mono (TK.new nt4)).dp, (Tp.tup upd_same (.cons (.str _) (.cons (.int _) .nil))).dp, shaped2 _ _, shaped2 _ _, ?_⟩
              rw [eqv2 _ _ (by decide +kernel)]
              exact k _
end
end R
end

-- EndMk
section
set_option Elab.async false
set_option linter.all false
set_option maxRecDepth 100000
set_option maxHeartbeats 4000000
namespace R
open PySem PySem.Spec PyProof.Rows L2 LamX NdefX LamP
theorem exm_by {K : PySem.W.Frag} {S F : Addr} {b : Bool} (h1 : PySem.W.subIn K (.ref F) (.type "BaseException") = some true) (h2 : PySem.W.isClsIn K F = true) (h3 : PySem.W.typeIn K (.ref F) = some (.type "type")) (h4 : PySem.W.subIn K (.ref S) (.ref F) = some b) : PySem.W.exmOne K (.ref S) (.ref F) = some b := by
  have a1 : (PySem.W.subIn K (.ref F) (.type "BaseException") == some true) = true := by rw [h1] <;> rfl
  have a2 : ((PySem.W.clsIn K F).isSome && PySem.W.typeIn K (.ref F) == some (.type "type")) = true := by
    rw [show (PySem.W.clsIn K F).isSome = true from h2, h3] <;> rfl
  unfold PySem.W.exmOne
  first
    | rw [if_pos a1, if_pos a2, h4]
    | (show (if _ = true then (if _ = true then _ else _) else _) = _; rw [if_pos a1, if_pos a2, h4])
theorem law_at {l : PySem.W.OpenLaw} {w : World} {K : PySem.W.Frag} {h : Heap} {mg : Str → Option Value} {fa : Addr} (X : K.In h) (T : Txt K mg) (hfa : mg "law" = some (.ref fa))
    (hb : ∀ (s : Shared) (u : Value), BindsTo s T.d_law ⟨[u], []⟩ [("_law_script", u)]) : LawAtS l w K CX0 7 63 "_law_script" mg fa h := by
  have e := hfa.symm.trans T.g_law
  cases e
  refine ⟨T.d_law, [], spLaw K [], ?_, ?_, ?_, hb, ?_, ?_⟩
  · intro p hp
    cases hp
  · intro p hp
    cases hp
  · intro p hp
    cases hp
  · intro H a ns _ hbits htab hS
    refine ⟨a, ns, rfl, hS, hbits, ?_, fun _ => rfl⟩
    intro p hp
    cases hp
  · intro base _ _ TB
    exact ok_law T []
theorem all_mk {l : PySem.W.OpenLaw} {w : World} {K : PySem.W.Frag} {h : Heap} {mg : Str → Option Value} {fa : Addr} (X : K.In h) (G : h.Ns mainGlobals mg) (hfa : mg "law" = some (.ref fa))
    {C_Refused N_Refused : Addr} {nm_Refused q_Refused : Str} {bs_Refused bm_Refused sub_Refused : List Value} {sn_Refused : List Str} {ab_Refused : Bool} {col_Refused : Option Bool} {dd_Refused : Option Addr} {m0_Refused m1_Refused m2_Refused m3_Refused m5_Refused : Option Value}
    {C_BadCount N_BadCount : Addr} {nm_BadCount q_BadCount : Str} {bs_BadCount bm_BadCount sub_BadCount : List Value} {sn_BadCount : List Str} {ab_BadCount : Bool} {col_BadCount : Option Bool} {dd_BadCount : Option Addr} {m0_BadCount m1_BadCount m2_BadCount m3_BadCount m5_BadCount : Option Value}
    {C_BadAnswer N_BadAnswer : Addr} {nm_BadAnswer q_BadAnswer : Str} {bs_BadAnswer bm_BadAnswer sub_BadAnswer : List Value} {sn_BadAnswer : List Str} {ab_BadAnswer : Bool} {col_BadAnswer : Option Bool} {dd_BadAnswer : Option Addr} {m0_BadAnswer m1_BadAnswer m2_BadAnswer m3_BadAnswer m5_BadAnswer : Option Value}
    {a_Refused_init : Addr} {od_Refused_init an_Refused_init : Option Addr} {sl_Refused_init : Array (Option Value)} {oc_Refused_init kV_Refused_init dc_Refused_init pm_Refused_init ct_Refused_init : Value} {cd_Refused_init : Value}
    {a_check_count : Addr} {od_check_count an_check_count : Option Addr} {sl_check_count : Array (Option Value)} {oc_check_count kV_check_count dc_check_count pm_check_count ct_check_count : Value} {cd_check_count : Value}
    {a_check_coats : Addr} {od_check_coats an_check_coats : Option Addr} {sl_check_coats : Array (Option Value)} {oc_check_coats kV_check_coats dc_check_coats pm_check_coats ct_check_coats : Value} {cd_check_coats : Value}
    {a_odd_lot : Addr} {od_odd_lot an_odd_lot : Option Addr} {sl_odd_lot : Array (Option Value)} {oc_odd_lot kV_odd_lot dc_odd_lot pm_odd_lot ct_odd_lot : Value} {cd_odd_lot : Value}
    {a_Lpool : Addr} {od_Lpool an_Lpool : Option Addr} {sl_Lpool : Array (Option Value)} {oc_Lpool kV_Lpool dc_Lpool pm_Lpool ct_Lpool : Value} {cd_Lpool : Value}
    {a_Ltake : Addr} {od_Ltake an_Ltake : Option Addr} {sl_Ltake : Array (Option Value)} {oc_Ltake kV_Ltake dc_Ltake pm_Ltake ct_Ltake : Value} {cd_Ltake : Value}
    {a_Lone : Addr} {od_Lone an_Lone : Option Addr} {sl_Lone : Array (Option Value)} {oc_Lone kV_Lone dc_Lone pm_Lone ct_Lone : Value} {cd_Lone : Value}
    {a_Lbeyond : Addr} {od_Lbeyond an_Lbeyond : Option Addr} {sl_Lbeyond : Array (Option Value)} {oc_Lbeyond kV_Lbeyond dc_Lbeyond pm_Lbeyond ct_Lbeyond : Value} {cd_Lbeyond : Value}
    {a_Lbits : Addr} {od_Lbits an_Lbits : Option Addr} {sl_Lbits : Array (Option Value)} {oc_Lbits kV_Lbits dc_Lbits pm_Lbits ct_Lbits : Value} {cd_Lbits : Value}
    {a_Ltable : Addr} {od_Ltable an_Ltable : Option Addr} {sl_Ltable : Array (Option Value)} {oc_Ltable kV_Ltable dc_Ltable pm_Ltable ct_Ltable : Value} {cd_Ltable : Value}
    {a_Lmembers : Addr} {od_Lmembers an_Lmembers : Option Addr} {sl_Lmembers : Array (Option Value)} {oc_Lmembers kV_Lmembers dc_Lmembers pm_Lmembers ct_Lmembers : Value} {cd_Lmembers : Value}
    {a_Lrefused : Addr} {od_Lrefused an_Lrefused : Option Addr} {sl_Lrefused : Array (Option Value)} {oc_Lrefused kV_Lrefused dc_Lrefused pm_Lrefused ct_Lrefused : Value} {cd_Lrefused : Value}
    {a_law : Addr} {od_law an_law : Option Addr} {sl_law : Array (Option Value)} {oc_law kV_law dc_law pm_law ct_law : Value} {cd_law : Value}
    {t_MOST_CELLS : Tok}
    {t_LEAST_COATS : Tok}
    {t_MOST_COATS : Tok}
    (aC_Refused : PySem.W.nsIn K mainGlobals "Refused" = some (some (.ref C_Refused)))
    (xL_Refused : K.lookup C_Refused = some (excClassObj nm_Refused q_Refused C_Refused N_Refused bs_Refused bm_Refused true sn_Refused sub_Refused ab_Refused col_Refused dd_Refused m0_Refused m1_Refused m2_Refused m3_Refused m5_Refused "ValueError.__new__"))
    (rV_Refused : PySem.HandSPX.refsVE bm_Refused = true)
    (sa_Refused : PySem.W.findIn K (.ref C_Refused) "__setattr__" = some (some (.builtin "object.__setattr__")))
    (ex_Refused : PySem.W.subIn K (.ref C_Refused) (.type "BaseException") = some true)
    (ty_Refused : PySem.W.typeIn K (.ref C_Refused) = some (.type "type"))
    (kC_Refused : PySem.W.keepIn K (.ref C_Refused) = true)
    (ga_Refused : PySem.W.findIn K (.ref C_Refused) "__getattribute__" = some (some (.builtin "BaseException.__getattribute__")))
    (gg_Refused : PySem.W.findIn K (.ref C_Refused) "__getattr__" = some none)
    (hd_Refused : PySem.W.hasDictIn K C_Refused = true)
    (is_Refused : PySem.W.isClsIn K C_Refused = true)
    (iC_Refused : PySem.W.findIn K (.ref C_Refused) "__init__" = some (some (.ref a_Refused_init)))
    (nw_Refused : PySem.W.findIn K (.ref C_Refused) "what" = some none)
    (aC_BadCount : PySem.W.nsIn K mainGlobals "BadCount" = some (some (.ref C_BadCount)))
    (xL_BadCount : K.lookup C_BadCount = some (excClassObj nm_BadCount q_BadCount C_BadCount N_BadCount bs_BadCount bm_BadCount true sn_BadCount sub_BadCount ab_BadCount col_BadCount dd_BadCount m0_BadCount m1_BadCount m2_BadCount m3_BadCount m5_BadCount "ValueError.__new__"))
    (rV_BadCount : PySem.HandSPX.refsVE bm_BadCount = true)
    (sa_BadCount : PySem.W.findIn K (.ref C_BadCount) "__setattr__" = some (some (.builtin "object.__setattr__")))
    (ex_BadCount : PySem.W.subIn K (.ref C_BadCount) (.type "BaseException") = some true)
    (ty_BadCount : PySem.W.typeIn K (.ref C_BadCount) = some (.type "type"))
    (kC_BadCount : PySem.W.keepIn K (.ref C_BadCount) = true)
    (ga_BadCount : PySem.W.findIn K (.ref C_BadCount) "__getattribute__" = some (some (.builtin "BaseException.__getattribute__")))
    (gg_BadCount : PySem.W.findIn K (.ref C_BadCount) "__getattr__" = some none)
    (hd_BadCount : PySem.W.hasDictIn K C_BadCount = true)
    (is_BadCount : PySem.W.isClsIn K C_BadCount = true)
    (iC_BadCount : PySem.W.findIn K (.ref C_BadCount) "__init__" = some (some (.ref a_Refused_init)))
    (nw_BadCount : PySem.W.findIn K (.ref C_BadCount) "what" = some none)
    (aC_BadAnswer : PySem.W.nsIn K mainGlobals "BadAnswer" = some (some (.ref C_BadAnswer)))
    (xL_BadAnswer : K.lookup C_BadAnswer = some (excClassObj nm_BadAnswer q_BadAnswer C_BadAnswer N_BadAnswer bs_BadAnswer bm_BadAnswer true sn_BadAnswer sub_BadAnswer ab_BadAnswer col_BadAnswer dd_BadAnswer m0_BadAnswer m1_BadAnswer m2_BadAnswer m3_BadAnswer m5_BadAnswer "ValueError.__new__"))
    (rV_BadAnswer : PySem.HandSPX.refsVE bm_BadAnswer = true)
    (sa_BadAnswer : PySem.W.findIn K (.ref C_BadAnswer) "__setattr__" = some (some (.builtin "object.__setattr__")))
    (ex_BadAnswer : PySem.W.subIn K (.ref C_BadAnswer) (.type "BaseException") = some true)
    (ty_BadAnswer : PySem.W.typeIn K (.ref C_BadAnswer) = some (.type "type"))
    (kC_BadAnswer : PySem.W.keepIn K (.ref C_BadAnswer) = true)
    (ga_BadAnswer : PySem.W.findIn K (.ref C_BadAnswer) "__getattribute__" = some (some (.builtin "BaseException.__getattribute__")))
    (gg_BadAnswer : PySem.W.findIn K (.ref C_BadAnswer) "__getattr__" = some none)
    (hd_BadAnswer : PySem.W.hasDictIn K C_BadAnswer = true)
    (is_BadAnswer : PySem.W.isClsIn K C_BadAnswer = true)
    (iC_BadAnswer : PySem.W.findIn K (.ref C_BadAnswer) "__init__" = some (some (.ref a_Refused_init)))
    (nw_BadAnswer : PySem.W.findIn K (.ref C_BadAnswer) "what" = some none)
    (s_BadCount_BadCount : PySem.W.subIn K (.ref C_BadCount) (.ref C_BadCount) = some true)
    (s_BadCount_BadAnswer : PySem.W.subIn K (.ref C_BadCount) (.ref C_BadAnswer) = some false)
    (s_BadCount_Refused : PySem.W.subIn K (.ref C_BadCount) (.ref C_Refused) = some true)
    (s_BadAnswer_BadCount : PySem.W.subIn K (.ref C_BadAnswer) (.ref C_BadCount) = some false)
    (s_BadAnswer_BadAnswer : PySem.W.subIn K (.ref C_BadAnswer) (.ref C_BadAnswer) = some true)
    (s_BadAnswer_Refused : PySem.W.subIn K (.ref C_BadAnswer) (.ref C_Refused) = some true)
    (s_Refused_BadCount : PySem.W.subIn K (.ref C_Refused) (.ref C_BadCount) = some false)
    (s_Refused_BadAnswer : PySem.W.subIn K (.ref C_Refused) (.ref C_BadAnswer) = some false)
    (s_Refused_Refused : PySem.W.subIn K (.ref C_Refused) (.ref C_Refused) = some true)
    (l_Refused_init : K.lookup a_Refused_init = some ⟨oc_Refused_init, od_Refused_init, .func (PySem.W.fnOf "__init__" "Refused.__init__" (defArgs s_Refused_init) (defBody s_Refused_init) (defScope s_Refused_init) .none kV_Refused_init dc_Refused_init pm_Refused_init an_Refused_init cd_Refused_init ct_Refused_init), sl_Refused_init⟩)
    (co_Refused_init : PySem.W.codeIn K cd_Refused_init "Refused.__init__" = true)
    (k_Refused_init : PySem.W.keepIn K (.ref a_Refused_init) = true)
    (g_check_count : PySem.W.nsIn K mainGlobals "check_count" = some (some (.ref a_check_count)))
    (l_check_count : K.lookup a_check_count = some ⟨oc_check_count, od_check_count, .func (PySem.W.fnOf "check_count" "check_count" (defArgs s_check_count) (defBody s_check_count) (defScope s_check_count) .none kV_check_count dc_check_count pm_check_count an_check_count cd_check_count ct_check_count), sl_check_count⟩)
    (co_check_count : PySem.W.codeIn K cd_check_count "check_count" = true)
    (k_check_count : PySem.W.keepIn K (.ref a_check_count) = true)
    (g_check_coats : PySem.W.nsIn K mainGlobals "check_coats" = some (some (.ref a_check_coats)))
    (l_check_coats : K.lookup a_check_coats = some ⟨oc_check_coats, od_check_coats, .func (PySem.W.fnOf "check_coats" "check_coats" (defArgs s_check_coats) (defBody s_check_coats) (defScope s_check_coats) .none kV_check_coats dc_check_coats pm_check_coats an_check_coats cd_check_coats ct_check_coats), sl_check_coats⟩)
    (co_check_coats : PySem.W.codeIn K cd_check_coats "check_coats" = true)
    (k_check_coats : PySem.W.keepIn K (.ref a_check_coats) = true)
    (g_odd_lot : PySem.W.nsIn K mainGlobals "odd_lot" = some (some (.ref a_odd_lot)))
    (l_odd_lot : K.lookup a_odd_lot = some ⟨oc_odd_lot, od_odd_lot, .func (PySem.W.fnOf "odd_lot" "odd_lot" (defArgs s_odd_lot) (defBody s_odd_lot) (defScope s_odd_lot) .none kV_odd_lot dc_odd_lot pm_odd_lot an_odd_lot cd_odd_lot ct_odd_lot), sl_odd_lot⟩)
    (co_odd_lot : PySem.W.codeIn K cd_odd_lot "odd_lot" = true)
    (k_odd_lot : PySem.W.keepIn K (.ref a_odd_lot) = true)
    (g_Lpool : PySem.W.nsIn K mainGlobals "_law_pool" = some (some (.ref a_Lpool)))
    (l_Lpool : K.lookup a_Lpool = some ⟨oc_Lpool, od_Lpool, .func (PySem.W.fnOf "_law_pool" "_law_pool" (defArgs s_Lpool) (defBody s_Lpool) (defScope s_Lpool) .none kV_Lpool dc_Lpool pm_Lpool an_Lpool cd_Lpool ct_Lpool), sl_Lpool⟩)
    (co_Lpool : PySem.W.codeIn K cd_Lpool "_law_pool" = true)
    (k_Lpool : PySem.W.keepIn K (.ref a_Lpool) = true)
    (g_Ltake : PySem.W.nsIn K mainGlobals "_law_take" = some (some (.ref a_Ltake)))
    (l_Ltake : K.lookup a_Ltake = some ⟨oc_Ltake, od_Ltake, .func (PySem.W.fnOf "_law_take" "_law_take" (defArgs s_Ltake) (defBody s_Ltake) (defScope s_Ltake) .none kV_Ltake dc_Ltake pm_Ltake an_Ltake cd_Ltake ct_Ltake), sl_Ltake⟩)
    (co_Ltake : PySem.W.codeIn K cd_Ltake "_law_take" = true)
    (k_Ltake : PySem.W.keepIn K (.ref a_Ltake) = true)
    (g_Lone : PySem.W.nsIn K mainGlobals "_law_one" = some (some (.ref a_Lone)))
    (l_Lone : K.lookup a_Lone = some ⟨oc_Lone, od_Lone, .func (PySem.W.fnOf "_law_one" "_law_one" (defArgs s_Lone) (defBody s_Lone) (defScope s_Lone) .none kV_Lone dc_Lone pm_Lone an_Lone cd_Lone ct_Lone), sl_Lone⟩)
    (co_Lone : PySem.W.codeIn K cd_Lone "_law_one" = true)
    (k_Lone : PySem.W.keepIn K (.ref a_Lone) = true)
    (g_Lbeyond : PySem.W.nsIn K mainGlobals "_law_beyond" = some (some (.ref a_Lbeyond)))
    (l_Lbeyond : K.lookup a_Lbeyond = some ⟨oc_Lbeyond, od_Lbeyond, .func (PySem.W.fnOf "_law_beyond" "_law_beyond" (defArgs s_Lbeyond) (defBody s_Lbeyond) (defScope s_Lbeyond) .none kV_Lbeyond dc_Lbeyond pm_Lbeyond an_Lbeyond cd_Lbeyond ct_Lbeyond), sl_Lbeyond⟩)
    (co_Lbeyond : PySem.W.codeIn K cd_Lbeyond "_law_beyond" = true)
    (k_Lbeyond : PySem.W.keepIn K (.ref a_Lbeyond) = true)
    (g_Lbits : PySem.W.nsIn K mainGlobals "_law_bits" = some (some (.ref a_Lbits)))
    (l_Lbits : K.lookup a_Lbits = some ⟨oc_Lbits, od_Lbits, .func (PySem.W.fnOf "_law_bits" "_law_bits" (defArgs s_Lbits) (defBody s_Lbits) (defScope s_Lbits) .none kV_Lbits dc_Lbits pm_Lbits an_Lbits cd_Lbits ct_Lbits), sl_Lbits⟩)
    (co_Lbits : PySem.W.codeIn K cd_Lbits "_law_bits" = true)
    (k_Lbits : PySem.W.keepIn K (.ref a_Lbits) = true)
    (g_Ltable : PySem.W.nsIn K mainGlobals "_law_table" = some (some (.ref a_Ltable)))
    (l_Ltable : K.lookup a_Ltable = some ⟨oc_Ltable, od_Ltable, .func (PySem.W.fnOf "_law_table" "_law_table" (defArgs s_Ltable) (defBody s_Ltable) (defScope s_Ltable) .none kV_Ltable dc_Ltable pm_Ltable an_Ltable cd_Ltable ct_Ltable), sl_Ltable⟩)
    (co_Ltable : PySem.W.codeIn K cd_Ltable "_law_table" = true)
    (k_Ltable : PySem.W.keepIn K (.ref a_Ltable) = true)
    (g_Lmembers : PySem.W.nsIn K mainGlobals "_law_members" = some (some (.ref a_Lmembers)))
    (l_Lmembers : K.lookup a_Lmembers = some ⟨oc_Lmembers, od_Lmembers, .func (PySem.W.fnOf "_law_members" "_law_members" (defArgs s_Lmembers) (defBody s_Lmembers) (defScope s_Lmembers) .none kV_Lmembers dc_Lmembers pm_Lmembers an_Lmembers cd_Lmembers ct_Lmembers), sl_Lmembers⟩)
    (co_Lmembers : PySem.W.codeIn K cd_Lmembers "_law_members" = true)
    (k_Lmembers : PySem.W.keepIn K (.ref a_Lmembers) = true)
    (g_Lrefused : PySem.W.nsIn K mainGlobals "_law_refused" = some (some (.ref a_Lrefused)))
    (l_Lrefused : K.lookup a_Lrefused = some ⟨oc_Lrefused, od_Lrefused, .func (PySem.W.fnOf "_law_refused" "_law_refused" (defArgs s_Lrefused) (defBody s_Lrefused) (defScope s_Lrefused) .none kV_Lrefused dc_Lrefused pm_Lrefused an_Lrefused cd_Lrefused ct_Lrefused), sl_Lrefused⟩)
    (co_Lrefused : PySem.W.codeIn K cd_Lrefused "_law_refused" = true)
    (k_Lrefused : PySem.W.keepIn K (.ref a_Lrefused) = true)
    (g_law : PySem.W.nsIn K mainGlobals "law" = some (some (.ref a_law)))
    (l_law : K.lookup a_law = some ⟨oc_law, od_law, .func (PySem.W.fnOf "law" "law" (defArgs s_law) (defBody s_law) (defScope s_law) .none kV_law dc_law pm_law an_law cd_law ct_law), sl_law⟩)
    (co_law : PySem.W.codeIn K cd_law "law" = true)
    (k_law : PySem.W.keepIn K (.ref a_law) = true)
    (tI : PySem.W.typeIn K (.ref a_Refused_init) = some (.type "function"))
    (c_MOST_CELLS : PySem.W.nsIn K mainGlobals "MOST_CELLS" = some (some (.int 40 t_MOST_CELLS)))
    (c_LEAST_COATS : PySem.W.nsIn K mainGlobals "LEAST_COATS" = some (some (.int 2 t_LEAST_COATS)))
    (c_MOST_COATS : PySem.W.nsIn K mainGlobals "MOST_COATS" = some (some (.int 6 t_MOST_COATS)))
    (n_bool : PySem.W.nsIn K mainGlobals "bool" = some (none))
    (n_int : PySem.W.nsIn K mainGlobals "int" = some (none))
    (n_isinstance : PySem.W.nsIn K mainGlobals "isinstance" = some (none))
    (n_len : PySem.W.nsIn K mainGlobals "len" = some (none))
    (n_max : PySem.W.nsIn K mainGlobals "max" = some (none))
    (n_range : PySem.W.nsIn K mainGlobals "range" = some (none))
    (n_sum : PySem.W.nsIn K mainGlobals "sum" = some (none)) : LawAtS l w K CX0 7 63 "_law_script" mg fa h :=
  law_at X {
    C_Refused := C_Refused,
    e_Refused := ⟨PySem.W.mg_of X G aC_Refused, ⟨⟨_, _, _, _, _, _, _, _, _, _, _, _, _, _, _, xL_Refused, rV_Refused⟩, sa_Refused, ex_Refused, ty_Refused, kC_Refused⟩, ⟨ga_Refused, gg_Refused, ex_Refused, hd_Refused⟩, iC_Refused, nw_Refused⟩,
    C_BadCount := C_BadCount,
    e_BadCount := ⟨PySem.W.mg_of X G aC_BadCount, ⟨⟨_, _, _, _, _, _, _, _, _, _, _, _, _, _, _, xL_BadCount, rV_BadCount⟩, sa_BadCount, ex_BadCount, ty_BadCount, kC_BadCount⟩, ⟨ga_BadCount, gg_BadCount, ex_BadCount, hd_BadCount⟩, iC_BadCount, nw_BadCount⟩,
    C_BadAnswer := C_BadAnswer,
    e_BadAnswer := ⟨PySem.W.mg_of X G aC_BadAnswer, ⟨⟨_, _, _, _, _, _, _, _, _, _, _, _, _, _, _, xL_BadAnswer, rV_BadAnswer⟩, sa_BadAnswer, ex_BadAnswer, ty_BadAnswer, kC_BadAnswer⟩, ⟨ga_BadAnswer, gg_BadAnswer, ex_BadAnswer, hd_BadAnswer⟩, iC_BadAnswer, nw_BadAnswer⟩,
    x_BadCount_BadCount := exm_by ex_BadCount is_BadCount ty_BadCount s_BadCount_BadCount,
    x_BadCount_BadAnswer := exm_by ex_BadAnswer is_BadAnswer ty_BadAnswer s_BadCount_BadAnswer,
    x_BadCount_Refused := exm_by ex_Refused is_Refused ty_Refused s_BadCount_Refused,
    x_BadAnswer_BadCount := exm_by ex_BadCount is_BadCount ty_BadCount s_BadAnswer_BadCount,
    x_BadAnswer_BadAnswer := exm_by ex_BadAnswer is_BadAnswer ty_BadAnswer s_BadAnswer_BadAnswer,
    x_BadAnswer_Refused := exm_by ex_Refused is_Refused ty_Refused s_BadAnswer_Refused,
    x_Refused_BadCount := exm_by ex_BadCount is_BadCount ty_BadCount s_Refused_BadCount,
    x_Refused_BadAnswer := exm_by ex_BadAnswer is_BadAnswer ty_BadAnswer s_Refused_BadAnswer,
    x_Refused_Refused := exm_by ex_Refused is_Refused ty_Refused s_Refused_Refused,
    a_Refused_init := a_Refused_init,
    d_Refused_init := (PySem.W.fnOf "__init__" "Refused.__init__" (defArgs s_Refused_init) (defBody s_Refused_init) (defScope s_Refused_init) .none kV_Refused_init dc_Refused_init pm_Refused_init an_Refused_init cd_Refused_init ct_Refused_init),
    F_Refused_init := fun_mk l_Refused_init co_Refused_init k_Refused_init,
    b_Refused_init := (fun_mk (st := s_Refused_init) l_Refused_init co_Refused_init k_Refused_init).binds (ps := ["self", "what"]) (fun _ _ _ _ _ _ us hl => match us, hl with | [_, _], _ => rfl),
    g_check_count := PySem.W.mg_of X G g_check_count,
    a_check_count := a_check_count,
    d_check_count := (PySem.W.fnOf "check_count" "check_count" (defArgs s_check_count) (defBody s_check_count) (defScope s_check_count) .none kV_check_count dc_check_count pm_check_count an_check_count cd_check_count ct_check_count),
    F_check_count := fun_mk l_check_count co_check_count k_check_count,
    b_check_count := (fun_mk (st := s_check_count) l_check_count co_check_count k_check_count).binds (ps := ["number", "least", "most"]) (fun _ _ _ _ _ _ us hl => match us, hl with | [_, _, _], _ => rfl),
    g_check_coats := PySem.W.mg_of X G g_check_coats,
    a_check_coats := a_check_coats,
    d_check_coats := (PySem.W.fnOf "check_coats" "check_coats" (defArgs s_check_coats) (defBody s_check_coats) (defScope s_check_coats) .none kV_check_coats dc_check_coats pm_check_coats an_check_coats cd_check_coats ct_check_coats),
    F_check_coats := fun_mk l_check_coats co_check_coats k_check_coats,
    b_check_coats := (fun_mk (st := s_check_coats) l_check_coats co_check_coats k_check_coats).binds (ps := ["coats"]) (fun _ _ _ _ _ _ us hl => match us, hl with | [_], _ => rfl),
    g_odd_lot := PySem.W.mg_of X G g_odd_lot,
    a_odd_lot := a_odd_lot,
    d_odd_lot := (PySem.W.fnOf "odd_lot" "odd_lot" (defArgs s_odd_lot) (defBody s_odd_lot) (defScope s_odd_lot) .none kV_odd_lot dc_odd_lot pm_odd_lot an_odd_lot cd_odd_lot ct_odd_lot),
    F_odd_lot := fun_mk l_odd_lot co_odd_lot k_odd_lot,
    b_odd_lot := (fun_mk (st := s_odd_lot) l_odd_lot co_odd_lot k_odd_lot).binds (ps := ["n", "coats", "many"]) (fun _ _ _ _ _ _ us hl => match us, hl with | [_, _, _], _ => rfl),
    g_Lpool := PySem.W.mg_of X G g_Lpool,
    a_Lpool := a_Lpool,
    d_Lpool := (PySem.W.fnOf "_law_pool" "_law_pool" (defArgs s_Lpool) (defBody s_Lpool) (defScope s_Lpool) .none kV_Lpool dc_Lpool pm_Lpool an_Lpool cd_Lpool ct_Lpool),
    F_Lpool := fun_mk l_Lpool co_Lpool k_Lpool,
    b_Lpool := (fun_mk (st := s_Lpool) l_Lpool co_Lpool k_Lpool).binds (ps := ["_law_script", "_law_k"]) (fun _ _ _ _ _ _ us hl => match us, hl with | [_, _], _ => rfl),
    g_Ltake := PySem.W.mg_of X G g_Ltake,
    a_Ltake := a_Ltake,
    d_Ltake := (PySem.W.fnOf "_law_take" "_law_take" (defArgs s_Ltake) (defBody s_Ltake) (defScope s_Ltake) .none kV_Ltake dc_Ltake pm_Ltake an_Ltake cd_Ltake ct_Ltake),
    F_Ltake := fun_mk l_Ltake co_Ltake k_Ltake,
    b_Ltake := (fun_mk (st := s_Ltake) l_Ltake co_Ltake k_Ltake).binds (ps := ["_law_source", "_law_top"]) (fun _ _ _ _ _ _ us hl => match us, hl with | [_, _], _ => rfl),
    g_Lone := PySem.W.mg_of X G g_Lone,
    a_Lone := a_Lone,
    d_Lone := (PySem.W.fnOf "_law_one" "_law_one" (defArgs s_Lone) (defBody s_Lone) (defScope s_Lone) .none kV_Lone dc_Lone pm_Lone an_Lone cd_Lone ct_Lone),
    F_Lone := fun_mk l_Lone co_Lone k_Lone,
    b_Lone := (fun_mk (st := s_Lone) l_Lone co_Lone k_Lone).binds (ps := ["_law_source", "_law_things"]) (fun _ _ _ _ _ _ us hl => match us, hl with | [_, _], _ => rfl),
    g_Lbeyond := PySem.W.mg_of X G g_Lbeyond,
    a_Lbeyond := a_Lbeyond,
    d_Lbeyond := (PySem.W.fnOf "_law_beyond" "_law_beyond" (defArgs s_Lbeyond) (defBody s_Lbeyond) (defScope s_Lbeyond) .none kV_Lbeyond dc_Lbeyond pm_Lbeyond an_Lbeyond cd_Lbeyond ct_Lbeyond),
    F_Lbeyond := fun_mk l_Lbeyond co_Lbeyond k_Lbeyond,
    b_Lbeyond := (fun_mk (st := s_Lbeyond) l_Lbeyond co_Lbeyond k_Lbeyond).binds (ps := ["_law_source", "_law_least", "_law_most"]) (fun _ _ _ _ _ _ us hl => match us, hl with | [_, _, _], _ => rfl),
    g_Lbits := PySem.W.mg_of X G g_Lbits,
    a_Lbits := a_Lbits,
    d_Lbits := (PySem.W.fnOf "_law_bits" "_law_bits" (defArgs s_Lbits) (defBody s_Lbits) (defScope s_Lbits) .none kV_Lbits dc_Lbits pm_Lbits an_Lbits cd_Lbits ct_Lbits),
    F_Lbits := fun_mk l_Lbits co_Lbits k_Lbits,
    b_Lbits := (fun_mk (st := s_Lbits) l_Lbits co_Lbits k_Lbits).binds (ps := ["_law_shades"]) (fun _ _ _ _ _ _ us hl => match us, hl with | [_], _ => rfl),
    g_Ltable := PySem.W.mg_of X G g_Ltable,
    a_Ltable := a_Ltable,
    d_Ltable := (PySem.W.fnOf "_law_table" "_law_table" (defArgs s_Ltable) (defBody s_Ltable) (defScope s_Ltable) .none kV_Ltable dc_Ltable pm_Ltable an_Ltable cd_Ltable ct_Ltable),
    F_Ltable := fun_mk l_Ltable co_Ltable k_Ltable,
    b_Ltable := (fun_mk (st := s_Ltable) l_Ltable co_Ltable k_Ltable).binds (ps := ["_law_cells", "_law_bits_here"]) (fun _ _ _ _ _ _ us hl => match us, hl with | [_, _], _ => rfl),
    g_Lmembers := PySem.W.mg_of X G g_Lmembers,
    a_Lmembers := a_Lmembers,
    d_Lmembers := (PySem.W.fnOf "_law_members" "_law_members" (defArgs s_Lmembers) (defBody s_Lmembers) (defScope s_Lmembers) .none kV_Lmembers dc_Lmembers pm_Lmembers an_Lmembers cd_Lmembers ct_Lmembers),
    F_Lmembers := fun_mk l_Lmembers co_Lmembers k_Lmembers,
    b_Lmembers := (fun_mk (st := s_Lmembers) l_Lmembers co_Lmembers k_Lmembers).binds (ps := ["_law_mark", "_law_bits_here"]) (fun _ _ _ _ _ _ us hl => match us, hl with | [_, _], _ => rfl),
    g_Lrefused := PySem.W.mg_of X G g_Lrefused,
    a_Lrefused := a_Lrefused,
    d_Lrefused := (PySem.W.fnOf "_law_refused" "_law_refused" (defArgs s_Lrefused) (defBody s_Lrefused) (defScope s_Lrefused) .none kV_Lrefused dc_Lrefused pm_Lrefused an_Lrefused cd_Lrefused ct_Lrefused),
    F_Lrefused := fun_mk l_Lrefused co_Lrefused k_Lrefused,
    b_Lrefused := (fun_mk (st := s_Lrefused) l_Lrefused co_Lrefused k_Lrefused).binds (ps := ["_law_cells", "_law_shades", "_law_members_here"]) (fun _ _ _ _ _ _ us hl => match us, hl with | [_, _, _], _ => rfl),
    g_law := PySem.W.mg_of X G g_law,
    a_law := a_law,
    d_law := (PySem.W.fnOf "law" "law" (defArgs s_law) (defBody s_law) (defScope s_law) .none kV_law dc_law pm_law an_law cd_law ct_law),
    F_law := fun_mk l_law co_law k_law,
    b_law := (fun_mk (st := s_law) l_law co_law k_law).binds (ps := ["_law_script"]) (fun _ _ _ _ _ _ us hl => match us, hl with | [_], _ => rfl),
    tI := tI,
    t_MOST_CELLS := t_MOST_CELLS,
    c_MOST_CELLS := PySem.W.mg_of X G c_MOST_CELLS,
    t_LEAST_COATS := t_LEAST_COATS,
    c_LEAST_COATS := PySem.W.mg_of X G c_LEAST_COATS,
    t_MOST_COATS := t_MOST_COATS,
    c_MOST_COATS := PySem.W.mg_of X G c_MOST_COATS,
    n_bool := PySem.W.mg_none_of X G n_bool,
    n_int := PySem.W.mg_none_of X G n_int,
    n_isinstance := PySem.W.mg_none_of X G n_isinstance,
    n_len := PySem.W.mg_none_of X G n_len,
    n_max := PySem.W.mg_none_of X G n_max,
    n_range := PySem.W.mg_none_of X G n_range,
    n_sum := PySem.W.mg_none_of X G n_sum } hfa fun s u => .of_eq rfl
end R
end

-- Final
section
open PySem PySem.W PyProof.Rows
set_option Elab.async false
set_option maxRecDepth 100000 in
set_option maxHeartbeats 0 in
theorem PySem.Challenge.cw_pairfloors_k52_floors_of_one_odd_set_holds : PySem.Challenge.rw_pairfloors_k52_floors_of_one_odd_set.Holds := by
  w_on; o_law; k_head; (case hw => w_witness2)
  k_fill
  refine LamX.walk_ofTs (l := PySem.Challenge.rw_pairfloors_k52_floors_of_one_odd_set) (n := 63) (k := 7) (CX := fun _ => L2.CX0) (x := "_law_script") rfl (by decide) rfl ⟨rfl, by decide, by decide⟩ (fun w h Y => PySem.W.kIn_of Y) ?F (fun _ _ _ _ _ z => z)
  case F =>
    intro w mg fa h Y KX G hmg
    refine' R.all_mk KX G hmg ?aC_Refused ?xL_Refused ?rV_Refused ?sa_Refused ?ex_Refused ?ty_Refused ?kC_Refused ?ga_Refused ?gg_Refused ?hd_Refused ?is_Refused ?iC_Refused ?nw_Refused ?aC_BadCount ?xL_BadCount ?rV_BadCount ?sa_BadCount ?ex_BadCount ?ty_BadCount ?kC_BadCount ?ga_BadCount ?gg_BadCount ?hd_BadCount ?is_BadCount ?iC_BadCount ?nw_BadCount ?aC_BadAnswer ?xL_BadAnswer ?rV_BadAnswer ?sa_BadAnswer ?ex_BadAnswer ?ty_BadAnswer ?kC_BadAnswer ?ga_BadAnswer ?gg_BadAnswer ?hd_BadAnswer ?is_BadAnswer ?iC_BadAnswer ?nw_BadAnswer ?s_BadCount_BadCount ?s_BadCount_BadAnswer ?s_BadCount_Refused ?s_BadAnswer_BadCount ?s_BadAnswer_BadAnswer ?s_BadAnswer_Refused ?s_Refused_BadCount ?s_Refused_BadAnswer ?s_Refused_Refused ?l_Refused_init ?co_Refused_init ?k_Refused_init ?g_check_count ?l_check_count ?co_check_count ?k_check_count ?g_check_coats ?l_check_coats ?co_check_coats ?k_check_coats ?g_odd_lot ?l_odd_lot ?co_odd_lot ?k_odd_lot ?g_Lpool ?l_Lpool ?co_Lpool ?k_Lpool ?g_Ltake ?l_Ltake ?co_Ltake ?k_Ltake ?g_Lone ?l_Lone ?co_Lone ?k_Lone ?g_Lbeyond ?l_Lbeyond ?co_Lbeyond ?k_Lbeyond ?g_Lbits ?l_Lbits ?co_Lbits ?k_Lbits ?g_Ltable ?l_Ltable ?co_Ltable ?k_Ltable ?g_Lmembers ?l_Lmembers ?co_Lmembers ?k_Lmembers ?g_Lrefused ?l_Lrefused ?co_Lrefused ?k_Lrefused ?g_law ?l_law ?co_law ?k_law ?tI ?c_MOST_CELLS ?c_LEAST_COATS ?c_MOST_COATS ?n_bool ?n_int ?n_isinstance ?n_len ?n_max ?n_range ?n_sum
    case aC_Refused => k_is
    case xL_Refused => k_is
    case rV_Refused => first | rfl | decide +kernel | k_is
    case sa_Refused => k_is
    case ex_Refused => k_is
    case ty_Refused => k_is
    case kC_Refused => k_is
    case ga_Refused => k_is
    case gg_Refused => k_is
    case hd_Refused => k_is
    case is_Refused => k_is
    case iC_Refused => k_is
    case nw_Refused => k_is
    case aC_BadCount => k_is
    case xL_BadCount => k_is
    case rV_BadCount => first | rfl | decide +kernel | k_is
    case sa_BadCount => k_is
    case ex_BadCount => k_is
    case ty_BadCount => k_is
    case kC_BadCount => k_is
    case ga_BadCount => k_is
    case gg_BadCount => k_is
    case hd_BadCount => k_is
    case is_BadCount => k_is
    case iC_BadCount => k_is
    case nw_BadCount => k_is
    case aC_BadAnswer => k_is
    case xL_BadAnswer => k_is
    case rV_BadAnswer => first | rfl | decide +kernel | k_is
    case sa_BadAnswer => k_is
    case ex_BadAnswer => k_is
    case ty_BadAnswer => k_is
    case kC_BadAnswer => k_is
    case ga_BadAnswer => k_is
    case gg_BadAnswer => k_is
    case hd_BadAnswer => k_is
    case is_BadAnswer => k_is
    case iC_BadAnswer => k_is
    case nw_BadAnswer => k_is
    case s_BadCount_BadCount => first | rfl | k_is | decide +kernel
    case s_BadCount_BadAnswer => first | rfl | k_is | decide +kernel
    case s_BadCount_Refused => first | rfl | k_is | decide +kernel
    case s_BadAnswer_BadCount => first | rfl | k_is | decide +kernel
    case s_BadAnswer_BadAnswer => first | rfl | k_is | decide +kernel
    case s_BadAnswer_Refused => first | rfl | k_is | decide +kernel
    case s_Refused_BadCount => first | rfl | k_is | decide +kernel
    case s_Refused_BadAnswer => first | rfl | k_is | decide +kernel
    case s_Refused_Refused => first | rfl | k_is | decide +kernel
    case l_Refused_init => k_is
    case co_Refused_init => k_is
    case k_Refused_init => k_is
    case g_check_count => k_is
    case l_check_count => k_is
    case co_check_count => k_is
    case k_check_count => k_is
    case g_check_coats => k_is
    case l_check_coats => k_is
    case co_check_coats => k_is
    case k_check_coats => k_is
    case g_odd_lot => k_is
    case l_odd_lot => k_is
    case co_odd_lot => k_is
    case k_odd_lot => k_is
    case g_Lpool => k_is
    case l_Lpool => k_is
    case co_Lpool => k_is
    case k_Lpool => k_is
    case g_Ltake => k_is
    case l_Ltake => k_is
    case co_Ltake => k_is
    case k_Ltake => k_is
    case g_Lone => k_is
    case l_Lone => k_is
    case co_Lone => k_is
    case k_Lone => k_is
    case g_Lbeyond => k_is
    case l_Lbeyond => k_is
    case co_Lbeyond => k_is
    case k_Lbeyond => k_is
    case g_Lbits => k_is
    case l_Lbits => k_is
    case co_Lbits => k_is
    case k_Lbits => k_is
    case g_Ltable => k_is
    case l_Ltable => k_is
    case co_Ltable => k_is
    case k_Ltable => k_is
    case g_Lmembers => k_is
    case l_Lmembers => k_is
    case co_Lmembers => k_is
    case k_Lmembers => k_is
    case g_Lrefused => k_is
    case l_Lrefused => k_is
    case co_Lrefused => k_is
    case k_Lrefused => k_is
    case g_law => k_is
    case l_law => k_is
    case co_law => k_is
    case k_law => k_is
    case tI => k_is
    case c_MOST_CELLS => k_is
    case c_LEAST_COATS => k_is
    case c_MOST_COATS => k_is
    case n_bool => k_is
    case n_int => k_is
    case n_isinstance => k_is
    case n_len => k_is
    case n_max => k_is
    case n_range => k_is
    case n_sum => k_is
end
